import PyProof.Rows.All
import Wide.All
import OpenK.AllK
import Wide.FinOn
import PySem.Challenge.RW_surelyhas_k04_patterns_refused
import PyProof.EqAt
import KE.KExcIs
import KE.KExcInit
import KE.KExcLine
import HandS.ForMost
import HandS.Exc
import HandS.IsInst
import HandS.ExcInit
import HandS.ExcValue
import HandS.SetFor
import HandS.TupLe
import HandS.Walk
import HandS.TryMany
import HandS.SetTxt0
import HandS.Set
import HandS.More
import HandS.ForExc
import HandS.TupAny
import HandS.ExcIs
import HandS.Strs
import HandS.Star
set_option Elab.async false
set_option linter.all false
set_option maxRecDepth 100000
set_option maxHeartbeats 2000000
/-! The reader of patterns, def by def; where reading goes wrong: behind a beginning as from the start, moved; the law's own defs. -/
namespace PySem
namespace ErrX
open PySem.W PySem.Calls PyProof.Rows PySem.HandSPX Builtin Builtin.ObjectAttr
section
variable {M : Model} {A : Around} {E : Value → Shared → Prop} {hp : Heap} {gs : Array GenState} {dr : Drawn} {tk : Nat} {os : OsState}
variable {nm q : Str} {C N : Addr} {bs bm bmB : List Value} {hdct : Bool} {sn : List Str} {sub : List Value} {ab : Bool} {col : Option Bool} {dd : Option Addr} {k0 k1 k2 k3 k5 : Option Value} {B newId initId : String}
/-- the check ahead of the base's __new__, keywords among what it is handed -/
theorem chk_new (F : ExcBaseFacts B newId initId bmB) (hT : ∀ X : String, bm.contains (.type X) = bmB.contains (.type X)) {zs : List Value} {kw : List (Str × Value)} {Q : Unit → Shared → Prop}
    (cC : hp.get? C = some (excClassObj nm q C N bs bm hdct sn sub ab col dd k0 k1 k2 k3 k5 newId)) (fin : Q () ⟨hp, gs, dr, tk, os⟩) : wpAny M A (checkBuiltinCall newId ⟨.ref C :: zs, kw⟩) Q E ⟨hp, gs, dr, tk, os⟩ := by
  have inB : (Value.ref C :: bm).contains (.type B) = true := by rw [List.contains_cons, hT, F.hasB, Bool.or_true]
  have nst := F.noStar
  simp only [checkBuiltinCall, F.newKind, F.newSplit, F.newRow]
  repeat (first | refine wpAny_loadPart_at cC ?_ | (refine wpAny_isSubtype_exc cC ?_; rw [inB]) | refine wpAny_staticBase_exc cC ?_ | refine wpAny_madeBy_exc cC ?_ | simp only [bne_self_eq_false, Bool.false_eq_true, if_false] | wp_step)
  exact fin
end
section
variable {prog : Program} {w : World} {A : Around} {E : Value → Shared → Prop} {R : Result → Shared → Prop} {hp : Heap} {gs : Array GenState} {dr : Drawn} {tk : Nat} {os : OsState}
variable {nm q : Str} {C N : Addr} {bs bm bmB : List Value} {hdct : Bool} {sn : List Str} {sub : List Value} {ab : Bool} {col : Option Bool} {dd : Option Addr} {k0 k1 k2 k3 k5 : Option Value} {B newId initId : String}
/-- the base's __new__ of such a class, keywords let alone -/
theorem base_new (F : ExcBaseFacts B newId initId bmB) (hT : ∀ X : String, bm.contains (.type X) = bmB.contains (.type X)) {zs : List Value} {kw : List (Str × Value)}
    (cC : hp.get? C = some (excClassObj nm q C N bs bm hdct sn sub ab col dd k0 k1 k2 k3 k5 newId)) (lz : zs.length ≤ sizeLine)
    (fin : R (.ok (.ret (.ref (hp.objs.size + 1)))) ⟨(hp.push (W.kdv_tup zs)).push (excO C hp.objs.size), gs, dr, tk, os⟩) :
    codeAny (model prog w) A (.builtin newId ⟨.ref C :: zs, kw⟩) R ⟨hp, gs, dr, tk, os⟩ := by
  have nds := F.ends
  have inB : (Value.ref C :: bm).contains (.type B) = true := by rw [List.contains_cons, hT, F.hasB, Bool.or_true]
  have noA : (Value.ref C :: bm).contains (.type "AttributeError") = false := by rw [List.contains_cons, hT, F.noAttr]; rfl
  have noN : (Value.ref C :: bm).contains (.type "NameError") = false := by rw [List.contains_cons, hT, F.noName]; rfl
  refine codeAny_builtinAt F.entry ?_
  unfold Builtin.«BaseException.__new__»
  refine wpAt_bind ?_
  show wpAt _ _ _ (stack >>= _) _ _ _
  refine wpAt_bind (wpAt_stack fun _ _ => wpAt_of_wpAny ?_)
  wp_walk
  refine wpAt_of_wpAny ?_
  rw [F.owner]
  repeat (first | with_reducible refine wpAny_madeHere_exc F.canon cC ?_ | with_reducible refine wpAny_loadPart_at cC ?_ | (with_reducible refine wpAny_isSubtype_exc cC ?_; first | rw [inB] | rw [noA] | rw [noN]) | wp_step)
  show R _ _
  rw [Heap.size_push]
  exact fin
/-- type.__call__ of it: __new__, then its own __init__, with the same values and keywords -/
theorem type_call (F : ExcBaseFacts B newId initId bmB) (hT : ∀ X : String, bm.contains (.type X) = bmB.contains (.type X)) {zs : List Value} {kw : List (Str × Value)} {fI : Addr} {Q : Fin → Shared → Prop}
    (cC : hp.get? C = some (excClassObj nm q C N bs bm hdct sn sub ab col dd k0 k1 k2 k3 k5 newId))
    (hi : W.Looks (model prog w) hp (typeLookup (.ref C) "__init__") (some (.ref fI))) (hb : ∀ z, W.Looks (model prog w) hp (bindSpecial (.ref fI) z) (.ref fI, [z])) (lz : zs.length ≤ sizeLine)
    (fin : codeAny (model prog w) A (.call (.ref fI) ⟨.ref (hp.objs.size + 1) :: zs, kw⟩)
      (fun r s' => match r with | .ok (.ret v) => v = .none ∧ Q (.done (.ret (.ref (hp.objs.size + 1)))) s' | .ok _ => False | .error e => E e s')
      ⟨(hp.push (W.kdv_tup zs)).push (excO C hp.objs.size), gs, dr, tk, os⟩) :
    wpAny (model prog w) A (Builtin.«type.__call__» ⟨.ref C :: zs, kw⟩) Q E ⟨hp, gs, dr, tk, os⟩ := by
  repeat (first | with_reducible refine wpAny_loadPart_at cC ?_ | with_reducible refine wpAny_madeBy_exc cC ?_ | wp_step)
  refine codeAny_call_builtin_code (Code.quiet_builtin _ F.quiet) (chk_new F hT cC (base_new F hT cC lz ?_))
  show wpAny _ _ _ _ _ _
  have kp : ∀ b o, hp.get? b = some o → ((hp.push (W.kdv_tup zs)).push (excO C hp.objs.size)).get? b = some o := fun b o z => Heap.get?_push_of_some _ (Heap.get?_push_of_some _ z)
  have cC1 := kp _ _ cC
  have at1 : ((hp.push (W.kdv_tup zs)).push (excO C hp.objs.size)).get? (hp.objs.size + 1) = some (excO C hp.objs.size) := by heap_get
  have inC : (Value.ref C :: bm).contains (.ref C) = true := by simp
  have hi1 := hi.keeps kp
  have hb1 := (hb (.ref (hp.objs.size + 1))).keeps kp
  unfold isInstance
  repeat (first | with_reducible refine wpAny_loadPart_at at1 ?_ | (with_reducible refine wpAny_isSubtype_exc cC1 ?_; rw [inC]) | wp_step)
  show wpAny _ _ (typeLookup (.ref C) _) _ _ _
  refine hi1.at (wpAny_holding (wpAny_bind (hb1.at (wpAny_bind (wpAny_call (codeAny_mono fin fun r s' z => ?_))))))
  rcases r with e | (v | _ | _ | _) <;> first | exact z | exact z.elim | skip
  obtain ⟨rfl, z⟩ := z
  first | exact wpAny_pure (wpAny_pure z) | (wp_walk; exact z)
/-- X(..), X(f=..), X an own exception class with an __init__ of its own -/
theorem call_cls (F : ExcBaseFacts B newId initId bmB) (hT : ∀ X : String, bm.contains (.type X) = bmB.contains (.type X)) {zs : List Value} {kw : List (Str × Value)} {fI : Addr}
    (cC : hp.get? C = some (excClassObj nm q C N bs bm hdct sn sub ab col dd k0 k1 k2 k3 k5 newId))
    (hi : W.Looks (model prog w) hp (typeLookup (.ref C) "__init__") (some (.ref fI))) (hb : ∀ z, W.Looks (model prog w) hp (bindSpecial (.ref fI) z) (.ref fI, [z])) (lz : zs.length ≤ sizeLine)
    (fin : codeAny (model prog w) (A.under (.builtin "type.__call__" ⟨.ref C :: zs, kw⟩)) (.call (.ref fI) ⟨.ref (hp.objs.size + 1) :: zs, kw⟩) (W.InitBack (hp.objs.size + 1) R)
      ⟨(hp.push (W.kdv_tup zs)).push (excO C hp.objs.size), gs, dr, tk, os⟩) :
    codeAny (model prog w) A (.call (.ref C) ⟨zs, kw⟩) R ⟨hp, gs, dr, tk, os⟩ := by
  have look := tc_lookup
  have bnd := tc_bind (.ref C)
  have ty : (⟨hp, gs, dr, tk, os⟩ : Shared).TypeIs (.ref C) "type" := ⟨_, cC, rfl⟩
  refine codeAny_of_tree ?_
  show wpAny _ _ (callAny (.ref C) _) _ _ _
  repeat (any_goals (first | assumption | with_reducible refine wpAny_loadPart_at cC ?_ | wp_step))
  refine ⟨rfl, codeAny_call_builtin_at (Code.quiet_builtin _ (by decide +kernel)) entry_typeCall (wpAny_check_type_call_sub cC (type_call F hT cC hi hb lz ?_))⟩
  refine codeAny_mono fin fun r s' z => ?_
  rcases r with e | (v | _ | _ | _) <;> exact z
end
end ErrX
end PySem

namespace PySem
namespace ErrX
open PySem.W PySem.Calls PyProof.Rows PySem.HandSPX Builtin Builtin.ObjectAttr
abbrev exTail : List Value := [.type "Exception", .type "BaseException", .type "object"]
/-- def __init__(self, f): self.f = f, as it stands in the text -/
def iArgs (f : Str) (p1 p2 : Pos) : Arguments := { posonlyargs := [], args := [{ arg := "self", annotation := none, pos := p1 }, { arg := f, annotation := none, pos := p2 }], vararg := none, kwonlyargs := [], kw_defaults := [], kwarg := none, defaults := [] }
def iBody (f : Str) (q1 q2 q3 q4 : Pos) : List Stmt := [.Assign [.Attribute (.Name "self" q1) f q2] (.Name f q3) q4]
def iScope (f : Str) : Scope := { kind := .function, names := [(PySem.Str.ofString "self", .local), (f, .local)], isGenerator := false, isCoroutine := false, more := [] }
/-- the fields' names -/
def Fld (f : Str) : Prop := f = "value" ∨ f = "name" ∨ f = "at" ∨ f = "number" ∨ f = "line"
/-- what the written part says of an error's class, at C, and of its __init__, at fI -/
structure ErrTxt (K : Frag) (mg : Str → Option Value) (nm f : Str) (C fI : Addr) : Prop where
  fld : Fld f
  gC : mg nm = some (.ref C)
  ini : excInitIn K C exTail "Exception.__new__" = true
  over : excOver K C exTail = true
  sa : findIn K (.ref C) "__setattr__" = some (some (.builtin "object.__setattr__"))
  ga : findIn K (.ref C) "__getattribute__" = some (some (.builtin "BaseException.__getattribute__"))
  gg : findIn K (.ref C) "__getattr__" = some none
  noN : findIn K (.ref C) f = some none
  noT : takerIn K C f = some none
  iC : findIn K (.ref C) "__init__" = some (some (.ref fI))
  tC : typeIn K (.ref fI) = some (.type "function")
  kC : keepIn K (.ref C) = true
  exC : subIn K (.ref C) (.type "BaseException") = some true
  hdC : hasDictIn K C = true
  clC : findIn K (.ref C) "__class__" = some (some (.builtin "object.__class__"))
  obC : mroIn K C (.type "object") = some true
  spC : specialIn K (.builtin "object.__class__") "__get__" = some (some (.builtin "getset_descriptor.__get__"))
  taC : takesIn K (.builtin "object.__class__") = some true
  fn : ∃ (oc : Value) (od : Option Addr) (qual : Str) (doc pm : Value) (an : Option Addr) (cdv ct : Value) (osl : Array (Option Value)) (p1 p2 q1 q2 q3 q4 : Pos),
    K.lookup fI = some ⟨oc, od, .func (fnOf "__init__" qual (iArgs f p1 p2) (iBody f q1 q2 q3 q4) (iScope f) .none .none doc pm an cdv ct), osl⟩ ∧ codeIn K cdv qual = true
theorem err_one (v : Value) : [v].length ≤ sizeLine := by
  rw [sizeLine_eq]
  exact (by decide : 1 ≤ 16777216)
section
variable {prog : Program} {w : World} {A : Around} {E : Value → Shared → Prop} {R : Result → Shared → Prop} {s : Shared} {K : Frag} {mg : Str → Option Value} {nm f : Str} {C fI : Addr}
/-- a first store on an exception that has no dict yet -/
theorem first_store {x t0 : Addr} {tk : Tok} {v : Value} (T : ErrTxt K mg nm f C fI) (X : K.In s.heap) (hx : s.heap.get? x = some (excO C t0))
    (fin : ∀ h' tk' dx, (∀ b o, b ≠ x → s.heap.get? b = some o → h'.get? b = some o) → s.heap.objs.size ≤ dx → dx ≠ x → h'.get? x = some { cls := .ref C, dict := some dx, data := .fields #[.ref t0, .none, .none, .none, .bool false, .none] } →
      h'.Ns1 dx (fun y => if y = f then some v else none) → R (.ok (.ret .none)) { s with heap := h', toks := tk' }) :
    codeAny (model prog w) A (.call (.builtin "object.__setattr__") ⟨[.ref x, .str f tk, v], []⟩) R s := by
  have I : W.InstAt s.heap x (excO C t0) C none := ⟨hx, rfl, rfl, trivial⟩
  obtain ⟨cd, hcd, hh⟩ := any_some T.hdC
  have far : x ≠ s.heap.objs.size := Nat.ne_of_lt (Heap.lt_size hx)
  have lk : W.Looks (model prog w) s.heap (classData C) cd := W.looks_clsIn X hcd
  refine osa_openX F.store_Exception X I T.over T.noT fun b => ?_
  show wpAny _ _ (storeInOwnDict (.ref x) (.ref C) (.str f tk) f v b) _ _ _
  obtain ⟨hp, g, d, t, os⟩ := s
  obtain ⟨cn, cb, cm, cns, cq, chd, csn, csb, cab, ccol, cdel⟩ := cd
  dsimp only at hh
  subst hh
  unfold storeInOwnDict ownDictForStores
  cases b <;>
  · repeat (first | with_reducible refine store_in_new ?_ ?_ | with_reducible refine wpAny_loadPart_at hx ?_ | with_reducible refine lk.at ?_ | wp_step)
    · exact ⟨_, #[], _, (Heap.get?_update_ne _ _ _ _ far.symm).trans (Heap.get?_push_at rfl rfl), rfl, fun e he => absurd he (by simp), fun _ => rfl⟩
    · intro h' tk' hn' hs
      have hx1 : (hp.push { cls := .type "dict", data := .dict #[] }).get? x = some (excO C t0) := Heap.get?_push_of_some _ hx
      refine fin h' tk' hp.objs.size (fun b o hb ho => ?_) (Nat.le_refl _) far.symm ?_ hn'
      · exact (hs.2 b (Nat.ne_of_lt (Heap.lt_size ho))).trans ((Heap.get?_update_ne _ _ _ _ hb).trans (Heap.get?_push_of_some _ ho))
      · exact (hs.2 x far).trans (Heap.get?_update_self _ hx1 rfl)
end
end ErrX
end PySem

namespace PySem
namespace ErrX
open PySem.W PySem.Calls PyProof.Rows PySem.HandSPX Builtin Builtin.ObjectAttr
theorem keeps_except {K : Frag} {h h' : Heap} {x : Addr} (X : K.In h) (hx : K.lookup x = none) (k : ∀ b o, b ≠ x → h.get? b = some o → h'.get? b = some o) : K.In h' :=
  fun a o e => k a o (fun z => by rw [z, hx] at e; cases e) (X a o e)
theorem load_loc {M : Model} {s : Shared} {qual : Str} {scope : Scope} {L a : Addr} {cd : Value} {m : Str → Option Value} {x : Str} {pos : Pos} {v : Value} {Q : Value → Shared → Prop} {A : Around} {E : Value → Shared → Prop} (hn : s.heap.Ns L m) (hv : m x = some v) (h : Q v s)
    (hk : scope.kind = .function) (hl : (envOfC qual scope L a cd).kindOf x = some .local) (hd : (x == ("__debug__" : Str)) = false) :
    wpAny M A (eval (.Name x pos) (envOfC qual scope L a cd)) Q E s := wpAny_Name (wpAny_loadName_local hk hl hn hv h) hd
/-- a made error at e: its own dict d holds the field; what stood before stands -/
structure ErrMade (h h' : Heap) (e C d : Addr) (f : Str) (v : Value) : Prop where
  keep : ∀ b o, h.get? b = some o → h'.get? b = some o
  new : h.objs.size ≤ e
  obj : ∃ t0, h'.get? e = some { cls := .ref C, dict := some d, data := .fields #[.ref t0, .none, .none, .none, .bool false, .none] }
  dnew : h.objs.size ≤ d
  dne : d ≠ e
  ns : h'.Ns1 d (fun y => if y = f then some v else none)
/-- how the call hands the value: by position, or by the field's name -/
def handed (f : Str) (v : Value) (byName : Bool) : List Value × List (Str × Value) := if byName then ([], [(f, v)]) else ([v], [])
section
variable {prog : Program} {w : World} {A : Around} {E : Value → Shared → Prop} {R : Result → Shared → Prop} {s : Shared} {K : Frag} {mg : Str → Option Value} {nm f : Str} {C fI : Addr}
theorem err_init (T : ErrTxt K mg nm f C fI) {x t0 : Addr} {v : Value} {byName : Bool} (X : K.In s.heap) (hlim : s.heap.NoLimit) (hx : s.heap.get? x = some (excO C t0)) (hnx : K.lookup x = none) (hroom : A.depth < recursionLimit)
    (fin : ∀ h' tk dx, (∀ b o, b ≠ x → s.heap.get? b = some o → h'.get? b = some o) → s.heap.objs.size ≤ dx → dx ≠ x → h'.get? x = some { cls := .ref C, dict := some dx, data := .fields #[.ref t0, .none, .none, .none, .bool false, .none] } →
      h'.Ns1 dx (fun y => if y = f then some v else none) → R (.ok (.ret .none)) { s with heap := h', toks := tk }) :
    codeAny (model prog w) A (.call (.ref fI) ⟨.ref x :: (handed f v byName).1, (handed f v byName).2⟩) R s := by
  obtain ⟨oc, od, qual, doc, pm, an, cdv, ct, osl, p1, p2, q1, q2, q3, q4, ho, hcd⟩ := T.fn
  have bnd : BindsTo s (fnOf "__init__" qual (iArgs f p1 p2) (iBody f q1 q2 q3 q4) (iScope f) .none .none doc pm an cdv ct) ⟨.ref x :: (handed f v byName).1, (handed f v byName).2⟩ [("self", .ref x), (f, v)] := by
    rcases T.fld with rfl | rfl | rfl | rfl | rfl <;> cases byName <;> exact BindsTo.of_eq (by first | rfl | with_unfolding_all rfl)
  have kS : (iScope f).names.lookup ("self" : Str) = some .local ∧ (iScope f).names.lookup f = some .local ∧ (f == ("__debug__" : Str)) = false ∧ f ≠ ("self" : Str) := by
    rcases T.fld with rfl | rfl | rfl | rfl | rfl <;> exact ⟨by decide +kernel, by decide +kernel, by decide +kernel, by decide +kernel⟩
  refine Att.call_fn (binds := [("self", .ref x), (f, v)]) X hlim ho hcd hroom bnd ?_ (fun s1 IC => ?_) rfl rfl rfl
  · rcases T.fld with rfl | rfl | rfl | rfl | rfl <;> first | rfl | decide | with_unfolding_all rfl
  obtain ⟨h1, tk1, rfl⟩ := IC.toInCall.same
  have k1 : ∀ b o, s.heap.get? b = some o → h1.get? b = some o := IC.toInCall.keep
  have hn := IC.toInCall.ns
  have X1 : K.In h1 := X.keeps k1
  have hx1 := k1 _ _ hx
  show wpAny _ _ (execs _ _) _ _ _
  refine wpAny_execs_cons (plainObj_wpAny_Assign_Attribute ?_ ?sw)
  case sw => rcases T.fld with rfl | rfl | rfl | rfl | rfl <;> rfl
  refine load_loc (v := v) hn ?m1 (load_loc (v := .ref x) hn ?m2 ?_ rfl ?k2 rfl) rfl ?k1 kS.2.2.1
  case m1 => rcases T.fld with rfl | rfl | rfl | rfl | rfl <;> first | rfl | with_unfolding_all rfl | kernel_rfl
  case m2 => rcases T.fld with rfl | rfl | rfl | rfl | rfl <;> first | rfl | with_unfolding_all rfl | kernel_rfl
  case k1 => rcases T.fld with rfl | rfl | rfl | rfl | rfl <;> rfl
  case k2 => rcases T.fld with rfl | rfl | rfl | rfl | rfl <;> rfl
  refine set_plain X1 (ox := excO C t0) (od := none) ⟨hx1, rfl, rfl, trivial⟩ T.sa ?_
  refine first_store T X1 hx1 fun h3 tk3 dx k3 dn dne hx3 hn3 => ?_
  show wpAny _ _ (execs _ _) _ _ _
  have lt1 : s.heap.objs.size < h1.objs.size := hn.lt
  exact wpAny_execs_nil (fin h3 tk3 dx (fun b o hb z => k3 b o hb (k1 b o z)) (Nat.le_of_lt (Nat.lt_of_lt_of_le lt1 dn)) dne hx3 hn3)
theorem err_made (T : ErrTxt K mg nm f C fI) {v : Value} {byName : Bool} (X : K.In s.heap) (hlim : s.heap.NoLimit) (hroom : A.depth + 1 < recursionLimit)
    (fin : ∀ h' tk e d, ErrMade s.heap h' e C d f v → R (.ok (.ret (.ref e))) { s with heap := h', toks := tk }) :
    codeAny (model prog w) A (.call (.ref C) ⟨(handed f v byName).1, (handed f v byName).2⟩) R s := by
  obtain ⟨mn, N, q, bs, bm, hdct, sn, sub, ab, col, dd, k0, k1, k2, k3, k5, hC, hT⟩ := excInit_of X T.ini
  obtain ⟨hp, g, dr, tk, os⟩ := s
  have lz : (handed f v byName).1.length ≤ sizeLine := by
    cases byName
    · exact err_one v
    · exact Nat.zero_le _
  have kp : ∀ b o, hp.get? b = some o → ((hp.push (W.kdv_tup (handed f v byName).1)).push (excO C hp.objs.size)).get? b = some o := fun b o e => Heap.get?_push_of_some _ (Heap.get?_push_of_some _ e)
  have hget : ((hp.push (W.kdv_tup (handed f v byName).1)).push (excO C hp.objs.size)).get? (hp.objs.size + 1) = some (excO C hp.objs.size) := by heap_get
  have hnx : K.lookup (hp.objs.size + 1) = none := by
    cases e : K.lookup (hp.objs.size + 1) with
    | none => rfl
    | some o =>
      have z : hp.get? (hp.objs.size + 1) = some o := X _ _ e
      exact absurd (Nat.lt_of_succ_lt (Heap.lt_size z)) (Nat.lt_irrefl _)
  refine call_cls F.excBase_Exception hT hC (looks_findIn X T.iC) (fun z => bind_fn X z T.tC) lz ?_
  refine err_init (s := ⟨(hp.push (W.kdv_tup (handed f v byName).1)).push (excO C hp.objs.size), g, dr, tk, os⟩) T (X.keeps kp) (hlim.keeps kp) hget hnx ?_ fun h' tk' dx k' dn dne hx hns => ?_
  · have e : (A.under (.builtin "type.__call__" ⟨.ref C :: (handed f v byName).1, (handed f v byName).2⟩)).depth = A.depth + 1 := by
      first | rfl | simp [Around.under, Code.weight, Code.isCreation, Code.isGuard, Code.isCaller, Code.frames, Code.isFrame, guardIds]
    rw [e]
    exact hroom
  · have old : ∀ b o, hp.get? b = some o → h'.get? b = some o := fun b o e => k' b o (Nat.ne_of_lt (Nat.lt_succ_of_lt (Heap.lt_size e))) (kp b o e)
    have z : hp.objs.size ≤ dx := by
      have q := dn
      rw [Heap.size_push, Heap.size_push] at q
      omega
    exact ⟨rfl, fin h' tk' (hp.objs.size + 1) dx ⟨old, Nat.le_succ _, ⟨_, hx⟩, z, dne, hns⟩⟩
end
end ErrX
end PySem

namespace L2
open PySem PySem.Spec PyProof.Rows PySem.ErrX
section
variable {X : Cx} {C fI : Addr} {nm f : Str} {a : Expr} {ta : TA} {p pos pos2 kpos : Pos}
theorem relO_one {v : V} {v' : Value} (r : RelV v v') (f g : Str) : RelO (List.lookup g [(f, v)]) (if g = f then some v' else none) := by
  by_cases h : g = f
  · subst h
    rw [if_pos rfl]
    have q : List.lookup g [(g, v)] = some v := by simp [List.lookup]
    rw [q]
    exact r
  · rw [if_neg h]
    have q1 : (g == f) = false := by simpa using h
    have q : List.lookup g [(f, v)] = none := by simp [List.lookup, q1]
    rw [q]
    trivial
/-- one value is handed -/
def tOne (ta : TA) : TE := fun σ H Q => ta σ H fun vs H1 => ∃ v, vs = [v] ∧ Q v H1
/-- a made error and its dict, tracked -/
def tErr (C : Addr) (f : Str) (ta : TA) : TE := fun σ H Q => ta σ H fun vs H1 => ∃ v, vs = [v] ∧
  ∀ e d, H1 e = none → H1 d = none → d ≠ e → Q (.ref e) (upd (upd H1 d (.xd [(f, v)])) e (exo e C (some d)))
/-- the call itself, its value in hand -/
theorem err_call {k : Nat} {byName : Bool} {v' : Value} {s1 : Shared} {E : Value → Shared → Prop} {Q : Value → Shared → Prop} {pins : List (Addr × Obj)} {σ : St} {H1 : Hp} (T : ErrTxt X.K X.mg nm f C fI) (hr : Room k X.A) (I1 : Inv X pins σ H1 s1)
    (h : ∀ h' tk e d, ErrMade s1.heap h' e C d f v' → Q (.ref e) { s1 with heap := h', toks := tk }) :
    wpAny (model X.prog X.w) X.A (call (.ref C) (handed f v' byName).1 (handed f v' byName).2) Q E s1 :=
  wpAny_call (err_made T I1.kIn I1.nolimit (by have := hr.dp; omega) fun h' tk e d M => h h' tk e d M)
/-- what a made error's field reads -/
theorem err_get {v' : Value} {s1 : Shared} {E : Value → Shared → Prop} {Q : Value → Shared → Prop} {pins : List (Addr × Obj)} {σ : St} {H1 : Hp} {h' : Heap} {e d : Addr} {tk : Nat} {b : Bool} (T : ErrTxt X.K X.mg nm f C fI) (I1 : Inv X pins σ H1 s1) (M : ErrMade s1.heap h' e C d f v')
    (hv : PySem.W.handedIn v' = true) (h : ∀ tk', Q v' { s1 with heap := h', toks := tk' }) :
    wpAny (model X.prog X.w) X.A (getAttr (.ref e) f b) Q E { s1 with heap := h', toks := tk } := by
  obtain ⟨t0, he⟩ := M.obj
  obtain ⟨od, ho, hl⟩ := lookIn_ns M.ns
  have J : PySem.W.InstAt h' e _ C (some od) := ⟨he, rfl, rfl, ho⟩
  have KI : X.K.In h' := I1.kIn.keeps M.keep
  exact PySem.HandSPX.exc_get KI J T.ga T.gg T.exC (PySem.W.findObj_own T.hdC T.noN rfl (by rw [hl]; simp)) hv (h _)
/-- the made error and its dict, tracked from here on -/
theorem err_laid {v : V} {v' : Value} {s1 : Shared} {pins : List (Addr × Obj)} {σ : St} {H1 : Hp} {h' : Heap} {e d : Addr} {tk : Nat} (I1 : Inv X pins σ H1 s1) (rv : RelV v v') (M : ErrMade s1.heap h' e C d f v') :
    H1 e = none ∧ H1 d = none ∧ Inv X pins σ (upd (upd H1 d (.xd [(f, v)])) e (exo e C (some d))) { s1 with heap := h', toks := tk } := by
  obtain ⟨t0, he⟩ := M.obj
  obtain ⟨G, g1, g2⟩ := restrict h' fun b => decide (b ≠ e)
  have gk : ∀ b, b ≠ e → G.get? b = h'.get? b := fun b hb => g1 b (decide_eq_true hb)
  have ge : G.get? e = none := g2 e (by simp)
  have old : ∀ b o, s1.heap.get? b = some o → G.get? b = some o := fun b o q => (gk b (Nat.ne_of_lt (Nat.lt_of_lt_of_le (Heap.lt_size q) M.new))).trans (M.keep b o q)
  have back : ∀ b o, G.get? b = some o → h'.get? b = some o := fun b o q => by
    by_cases z : b = e
    · rw [z, ge] at q
      cases q
    · rw [← gk b z]
      exact q
  have n1 : H1 e = none := I1.hok.fresh M.new
  have n2 : H1 d = none := I1.hok.fresh M.dnew
  have o1 : ObjOk X.prog X.w (upd H1 d (.xd [(f, v)])) G d (.xd [(f, v)]) := ⟨_, M.ns.at (fun o q => (gk d M.dne).trans q), fun g => relO_one rv f g⟩
  have J1 : Inv X pins σ (upd H1 d (.xd [(f, v)])) { s1 with heap := G, toks := tk } := I1.laid (t' := tk) old M.dnew o1
  have n3 : upd H1 d (.xd [(f, v)]) e = none := by
    rw [upd_ne (fun z => M.dne z.symm)]
    exact n1
  exact ⟨n1, n2, J1.laidN (h' := h') (t' := tk) back ge n3 (exo_ok he)⟩
theorem pe_errGet {k : Nat} (T : ErrTxt X.K X.mg nm f C fI) (hr : Room k X.A) (ha : PA X [a] ta) (hg : Gl X nm := by rfl) (hdb : (nm == ("__debug__" : Str)) = false := by decide)
    (hb : attributeBase (.Call (.Name nm p) [a] [] pos) f X.env (eval (.Call (.Name nm p) [a] [] pos) X.env) = eval (.Call (.Name nm p) [a] [] pos) X.env := by rfl)
    (he : starEach (a :: []) X.env = (false, eval a X.env) :: starEach [] X.env := by rfl) (hpl : (backTo pos (starEach [] X.env)).any (·.1) = false := by rfl) :
    PE X (.Attribute (.Call (.Name nm p) [a] [] pos) f pos2) (tOne ta) := by
  refine ⟨fun pins s σ H Q I h => attr_of hb ?_⟩
  refine wpAny_Call_Name_kw (ld_glob I hg T.gC ?_ hdb)
  refine PySem.W.callWith_K (h₀ := X.base) I.ok.mod.kin T.kC (thn (ha.run pos pins s σ H _ I h) fun us s1 hh => ?_) he hpl
  obtain ⟨vs, H1, I1, r1, v, ev, q1⟩ := hh
  subst ev
  refine ⟨I1.kIn, ?_⟩
  cases r1 with
  | cons rv rn =>
    rename_i v' us'
    cases rn
    show wpAny _ _ (call (.ref C) [v']) _ _ _
    exact err_call (byName := false) T hr I1 fun h' tk e d M => err_get T I1 M (handed_of rv) fun tk' => ⟨v, H1, I1.kept M.keep, rv, q1⟩
theorem pe_errGetK {k : Nat} (T : ErrTxt X.K X.mg nm f C fI) (hr : Room k X.A) (ha : PK X [⟨some f, a, kpos⟩] ta) (hg : Gl X nm := by rfl) (hdb : (nm == ("__debug__" : Str)) = false := by decide)
    (hb : attributeBase (.Call (.Name nm p) [] [⟨some f, a, kpos⟩] pos) f X.env (eval (.Call (.Name nm p) [] [⟨some f, a, kpos⟩] pos) X.env) = eval (.Call (.Name nm p) [] [⟨some f, a, kpos⟩] pos) X.env := by rfl)
    (hall : (backToKw pos (keywordEach [⟨some f, a, kpos⟩] X.env)).all (·.1.isSome) = true := by rfl) (hks : (backToKw pos (keywordEach [⟨some f, a, kpos⟩] X.env)).filterMap (·.1) = [f] := by rfl)
    (hpl : ((backTo pos (starEach [] X.env)).any (·.1) || (backToKw pos (keywordEach [⟨some f, a, kpos⟩] X.env)).any (·.1.isNone)) = false := by rfl) :
    PE X (.Attribute (.Call (.Name nm p) [] [⟨some f, a, kpos⟩] pos) f pos2) (tOne ta) := by
  refine ⟨fun pins s σ H Q I h => attr_of hb ?_⟩
  refine wpAny_Call_Name_kw (ld_glob I hg T.gC ?_ hdb)
  refine PySem.W.callWith_KW0 (h₀ := X.base) I.ok.mod.kin T.kC hall (thn (ha.run pos pins s σ H _ I h) fun us s1 hh => ?_) hpl
  obtain ⟨vs, H1, I1, r1, v, ev, q1⟩ := hh
  subst ev
  refine ⟨I1.kIn, ?_⟩
  rw [hks]
  cases r1 with
  | cons rv rn =>
    rename_i v' us'
    cases rn
    show wpAny _ _ (call (.ref C) [] [(f, v')]) _ _ _
    exact err_call (byName := true) T hr I1 fun h' tk e d M => err_get T I1 M (handed_of rv) fun tk' => ⟨v, H1, I1.kept M.keep, rv, q1⟩
theorem pe_errMake {k : Nat} (T : ErrTxt X.K X.mg nm f C fI) (hr : Room k X.A) (ha : PA X [a] ta) (hg : Gl X nm := by rfl) (hdb : (nm == ("__debug__" : Str)) = false := by decide)
    (he : starEach (a :: []) X.env = (false, eval a X.env) :: starEach [] X.env := by rfl) (hpl : (backTo pos (starEach [] X.env)).any (·.1) = false := by rfl) :
    PE X (.Call (.Name nm p) [a] [] pos) (tErr C f ta) := by
  refine ⟨fun pins s σ H Q I h => ?_⟩
  refine wpAny_Call_Name_kw (ld_glob I hg T.gC ?_ hdb)
  refine PySem.W.callWith_K (h₀ := X.base) I.ok.mod.kin T.kC (thn (ha.run pos pins s σ H _ I h) fun us s1 hh => ?_) he hpl
  obtain ⟨vs, H1, I1, r1, v, ev, q1⟩ := hh
  subst ev
  refine ⟨I1.kIn, ?_⟩
  cases r1 with
  | cons rv rn =>
    rename_i v' us'
    cases rn
    show wpAny _ _ (call (.ref C) [v']) _ _ _
    refine err_call (byName := false) T hr I1 fun h' tk e d M => ?_
    obtain ⟨n1, n2, J⟩ := err_laid (tk := tk) I1 rv M
    exact ⟨.ref e, _, J, rfl, q1 e d n1 n2 M.dne⟩
/-- isinstance of a made error -/
def rIsErr (K : PySem.W.Frag) : List V → Hp → VK → Prop := fun xs H Q => ∃ (e C d : Addr) (f : Str) (v c : V) (u : Value) (b : Bool), xs = [.ref e, c] ∧ ClsV c u ∧ H e = some (exo e C (some d)) ∧ H d = some (.xd [(f, v)]) ∧
  (∃ mg nm g fI, ErrTxt K mg nm g C fI) ∧ PySem.W.kitOne K (.ref C) u = some b ∧ Q (.bl b) H
theorem call_isErr : CallR X (.builtin "isinstance") (rIsErr X.K) := by
  intro pins s σ H xs us Q I r h
  obtain ⟨e, C, d, f, v, c, u, b, rfl, kc, he, hd, ⟨mg, nm, g, fI, T⟩, ek, q⟩ := h
  obtain ⟨u1, u2, rfl, r1, r2⟩ := vals2 r
  have e2 := kc.eq r2
  subst e2
  cases (show u1 = Value.ref e from r1)
  obtain ⟨t1, hx⟩ := exo_at I.hok he
  obtain ⟨mA, hns, _⟩ := (show ObjOk X.prog X.w H s.heap d (.xd [(f, v)]) from I.hok d _ hd)
  obtain ⟨od, ho, _⟩ := lookIn_ns hns
  have J : PySem.W.InstAt s.heap e _ C (some od) := ⟨hx, rfl, rfl, ho⟩
  have hcl : (PySem.W.clsIn X.K C).isSome = true := by
    obtain ⟨cd, hc, _⟩ := PySem.W.any_some T.hdC
    rw [hc]
    rfl
  exact PySem.W.kia_one (PySem.W.kitx_exc hcl T.ga T.gg T.exC T.clC T.spC T.taC T.obC) I.kIn J ek (fun z => nomatch z) fun tk => ⟨.bl b, H, I.tok tk, rfl, q⟩
end
end L2

namespace L2
open PySem PySem.Spec PyProof.Rows PySem.ErrX
section
variable {X : Cx}
/-- list.count of a flat value, over flat items -/
def rCntF (K : PySem.W.Frag) : V → List V → Hp → VK → Prop := fun x xs H Q => ∃ (p : Addr) (ys : List V) (y : V), x = .ref p ∧ xs = [y] ∧ SqL K H p ys ∧ flatV y = true ∧ ys.all flatV = true ∧ Q (.int (ys.countP (fun z => eqV z y) : Nat)) H
theorem count_eqU {y : V} : ∀ {ys : List V} {us : List Value}, Vals ys us → ys.all flatV = true → us.countP (eqU y) = ys.countP (fun z => eqV z y)
  | _, _, .nil, _ => rfl
  | z :: ys, u :: us, .cons r t, f => by
    rw [List.all_cons, Bool.and_eq_true] at f
    rw [List.countP_cons, List.countP_cons, count_eqU t f.2, eqU_of r f.1]
theorem mt_countF : MtR X "list.count" (rCntF X.K) := by
  intro pins s σ H x xs v us Q I rx rxs h
  obtain ⟨p, ys, y, rfl, rfl, hs, fy, fys, q⟩ := h
  cases rx
  obtain ⟨u, rfl, ru⟩ := rxs.one
  obtain ⟨its, rv, ⟨⟨cls, dd, data, sl⟩, n, ho, hc, hdn, hd⟩, hlen⟩ := I.list hs
  simp only at hc hd
  subst hc hd
  refine call_meets PySem.F.slot_list_count ⟨_, ho, rfl⟩ PySem.F.entry_list_count (PySem.F.args_list_count_2 _ _)
    (SeqAt.list_countAt p its.toArray n dd sl u (eqU y)) ⟨ho, fun z hz => mem_eqAt ru fy rv fys z (by simpa using hz), ?_⟩
  refine ⟨.int (ys.countP (fun z => eqV z y) : Nat), H, I.tok _, ⟨s.toks, ?_⟩, q⟩
  rw [← count_eqU rv fys]
/-- what repr tells of a value -/
inductive Shw (K : PySem.W.Frag) (H : Hp) : V → Str → Prop
  | non : Shw K H .non "None"
  | int (i : Int) (h : i.natAbs.log2 < 1920) : Shw K H (.int i) (toString i)
  | str (x : Str) (h : (reprText x).length ≤ sizeLine) : Shw K H (.str x) (reprText x)
  | seq (a : Addr) (d : PyData) (h : Dp K H (.ref a) d) (hs : d.showable = true) (hd : d.hasDict = false) (hp : d.depth ≤ 64) (hz : d.shown.length ≤ sizeLine) : Shw K H (.ref a) d.shown
  | emp (a : Addr) (h : H a = some (.dK [])) : Shw K H (.ref a) "{}"
def rShw (K : PySem.W.Frag) : List V → Hp → VK → Prop := fun xs H Q => ∃ v T, xs = [v] ∧ Shw K H v T ∧ Q (.str T) H
theorem call_repr_shw {k : Nat} (hg : X.A.guards = some []) (hr : Room k X.A) : CallR X (.builtin "repr") (rShw X.K) := by
  intro pins s σ H xs us Q I r h
  obtain ⟨v, T, rfl, sh, q⟩ := h
  obtain ⟨u, rfl, ru⟩ := vals1 r
  have un := hr.un
  cases sh with
  | non => cases (show u = Value.none from ru); exact PySem.P.repr_of_none ⟨.str _, H, I.tok _, ⟨_, rfl⟩, q⟩
  | int i hi => obtain ⟨t, rfl⟩ := (show ∃ t, u = Value.int i t from ru); exact PySem.P.repr_of_int hi ⟨.str _, H, I.tok _, ⟨_, rfl⟩, q⟩
  | str x hx => obtain ⟨t, rfl⟩ := (show ∃ t, u = Value.str x t from ru); exact PySem.P.repr_of_str (h := ⟨.str _, H, I.tok _, ⟨_, rfl⟩, q⟩) hx
  | seq a d hd hs hno hp hz =>
    cases (show u = Value.ref a from ru)
    obtain ⟨as, rd⟩ := Dp.reads I d _ _ hd rfl
    exact PySem.repr_of_reads' rd hs (fun z => by rw [hno] at z; cases z) hg (by omega) (fun _ _ z => z) (fun h' u tk kp => ⟨.str _, H, I.kept kp, ⟨_, rfl⟩, q⟩) hz
  | emp a ha =>
    cases (show u = Value.ref a from ru)
    obtain ⟨_, ns, vs, kv, o, es, ep, h1, h2, h3, _, h5, _⟩ := (show ObjOk X.prog X.w H s.heap a (.dK []) from I.hok a _ ha)
    cases kv
    have e0 : es.toList = [] := List.eq_nil_of_length_eq_zero h5.length
    have rd : Reads s.heap (.ref a) (.dict []) (a :: [] ++ []) := .dict (kvs := []) h1 h2.1 h3 (by rw [e0]; exact .nil) (by rw [e0]; exact .nil)
    have far : sysModules ∉ (a :: [] ++ [] : List Addr) := fun z => by
      have z1 : sysModules = a := by simpa using z
      rw [z1] at ns
      simp at ns
    have sh : (PyData.dict []).shown = ("{}" : Str) := by decide +kernel
    exact PySem.repr_of_reads' rd (by decide +kernel) (fun _ => far) hg (by show X.A.units + ((PyData.dict []).depth + 1) < cLine; have : (PyData.dict []).depth ≤ 64 := by decide +kernel
                                                                            omega) (fun _ _ z => z) (fun h' u tk kp => ⟨.str _, H, I.kept kp, ⟨_, by rw [sh]⟩, q⟩) (by rw [sh]; decide +kernel)
end
end L2

namespace L2
open PySem PySem.Spec PyProof.Rows PySem.ErrX
/-- a def's promise where no repr is under way (the machine's stack of such is known to be empty) -/
structure FnG (P : Program) (w : World) (K : PySem.W.Frag) (mg : Str → Option Value) (base : Heap) (CX : CXT) (k : Nat) (f : Addr) (fd : FuncData) (ps : List Str) (sp : Sp) : Prop where
  len : ∀ vs H Q E, sp vs H Q E → vs.length = ps.length
  run : ∀ (A : Around), A.guards = some [] → ∀ (outer : List Env) (s : Shared) (H : Hp) (args : Args) (us : List Value) (vs : List V) (Q : VK) (E : XK),
    Room k A → Env0 P w K mg base A outer s H → BindsTo s fd args (ps.zip us) → Vals vs us → sp vs H Q E → codeAny (model P w) A (.call (.ref f) args) (CR CX outer P w H s Q E) s
theorem FnOk.toG {P : Program} {w : World} {K : PySem.W.Frag} {mg : Str → Option Value} {base : Heap} {CX : CXT} {k : Nat} {f : Addr} {fd : FuncData} {ps : List Str} {sp : Sp} (F : FnOk P w K mg base CX k f fd ps sp) : FnG P w K mg base CX k f fd ps sp :=
  ⟨F.len, fun A _ outer s H args us vs Q E hr he hb hv hs => F.run A outer s H args us vs Q E hr he hb hv hs⟩
section
variable {P : Program} {w : World} {K : PySem.W.Frag} {mg : Str → Option Value} {base : Heap}
/-- such a def by its body -/
theorem Fun.okG {CX : CXT} {x qual : Str} {st : Stmt} {f : Addr} {fd : FuncData} {N ps : List Str} {k : Nat} {sp : Sp} (F : Fun K x qual st f fd) (S : FnScope N ps (defScope st)) (len : ∀ vs H Q E, sp vs H Q E → vs.length = ps.length)
    (body : ∀ (cdv : Value) (A : Around) (outer : List Env) (s : Shared) (H : Hp) (vs : List V) (Q : VK) (E : XK), Room k (A.deeper (envOfC qual (defScope st) s.heap.objs.size f cdv)) →
      (A.deeper (envOfC qual (defScope st) s.heap.objs.size f cdv)).guards = some [] → sp vs H Q E →
      ∃ t, PSs (cxOf CX P w K mg base N qual (defScope st) f cdv A outer s H E) (defBody st) t ∧ t { nx := fun _ H' => Q .non H', rt := Q } (start N vs) H) : FnG P w K mg base CX (k + 1) f fd ps sp := by
  obtain ⟨oc, od, kV, doc, pm, an, cdv, ct, osl, rfl, lk, hcd⟩ := F.ex
  refine ⟨len, fun A gA outer s H args us vs Q E room env bnd rel prom => ?_⟩
  have lv := len _ _ _ _ prom
  have kin : K.In s.heap := env.mod.kin.keeps fun b o z => (env.bs b o z).1
  have lim : s.heap.NoLimit := env.mod.nolimit.keeps fun b o z => (env.bs b o z).1
  refine codeAny_call_function room.depth (kin _ _ lk) rfl S.co S.gen rfl (PySem.W.codeRec_of kin hcd) (bnd _ _ _ _ (wpAny_newFunctionEnv_cells S.kind (fun y hy => ?_) fun e1 he s1 x1 => ?_))
  · obtain ⟨n, v⟩ := y
    rcases S.par n (List.of_mem_zip hy).1 with z | z
    · exact .inl z
    · exact .inr ⟨z, PySem.W.cellsFrom_some _ _ _ (.inl z)⟩
  subst he
  refine ⟨lim.keeps x1.toInCall.keep, codeAny_func ?_⟩
  obtain ⟨t, ht, hq⟩ := body cdv A outer s H vs Q E (room.deeper _) gA prom
  have inv : Inv (cxOf CX P w K mg base N qual (defScope st) f cdv A outer s H E) [] (start N vs) H s1 := inv_start S room.hd env lv rel x1
  refine wpAny_mono (ht.run [] s1 _ H _ inv hq) (fun fl s2 hs => ?_) fun _ _ z => z
  cases fl with
  | ret u =>
    obtain ⟨v, σ2, H2, J, rv, q⟩ := hs
    exact ⟨v, H2, J.os, J.bare, J.base, J.hok, rv, q⟩
  | next =>
    obtain ⟨σ2, H2, J, q⟩ := hs
    exact ⟨.non, H2, J.os, J.bare, J.base, J.hok, rfl, q⟩
  | brk => exact (hs.elim fun _ z => z.elim fun _ z => z.2).elim
  | cont => exact (hs.elim fun _ z => z.elim fun _ z => z.2).elim
/-- the same where nothing that is raised leaves the def -/
theorem Fun.okG0 {x qual : Str} {st : Stmt} {f : Addr} {fd : FuncData} {N ps : List Str} {k : Nat} {sp : Sp} (F : Fun K x qual st f fd) (S : FnScope N ps (defScope st)) (len : ∀ vs H Q E, sp vs H Q E → vs.length = ps.length)
    (body : ∀ (cdv : Value) (A : Around) (outer : List Env) (s : Shared) (H : Hp) (vs : List V) (Q : VK) (E : XK), Room k (A.deeper (envOfC qual (defScope st) s.heap.objs.size f cdv)) →
      (A.deeper (envOfC qual (defScope st) s.heap.objs.size f cdv)).guards = some [] → sp vs H Q E →
      ∃ t, PSs (cxOf CX0 P w K mg base N qual (defScope st) f cdv A outer s H E).nox (defBody st) t ∧ t { nx := fun _ H' => Q .non H', rt := Q } (start N vs) H) : FnG P w K mg base CX0 (k + 1) f fd ps sp :=
  F.okG S len fun cdv A outer s H vs Q E room g prom => by
    obtain ⟨t, ht, q⟩ := body cdv A outer s H vs Q E room g prom
    exact ⟨t, ht.nox, q⟩
/-- the law's call from the machine's outermost place, over one abstract heap -/
theorem top_run {CX : CXT} {mb : Str → Option Value} {k : Nat} {fa a : Addr} {fd : FuncData} {x : Str} {sp : Sp} {s₁ : Shared} {vs : List Value} {ns : List Int} (H : Hp)
    (KX : K.In s₁.heap) (nsG : s₁.heap.Ns mainGlobals mg) (nsB : s₁.heap.Ns builtinsNs mb) (same : ∀ x : Str, x ≠ "__name__" → mb x = bootBuiltins x) (lim : s₁.heap.NoLimit) (gen : s₁.gens = #[])
    (at_ : s₁.heap.get? a = some { cls := .type "list", data := .seq vs.toArray }) (room : Room k callerA) (F : ∀ base : Heap, K.In base → base.Ns mainGlobals mg → FnG P w K mg base CX k fa fd [x] sp) (bnd : ∀ (s : Shared) (u : Value), BindsTo s fd ⟨[u], []⟩ [(x, u)])
    (noX : ∀ H e s', CX [] H s₁ (fun _ _ _ => False) e s' → False) (only : Only H) (prom : sp [.ref a] H (fun v _ => v = .bl true) fun _ _ _ => False) (ok : HOk P w H s₁.heap) (lone : ∀ b, H b ≠ none → b = a) (free : H a ≠ none → K.lookup a = none) :
    codeAny (model P w) callerA (.call (.ref fa) ⟨[.ref a], []⟩) (fun r s' => r = .ok (.ret (.bool true)) ∧ OldK s₁.heap s'.heap ∧ s'.os = s₁.os ∧ AllBare s'.gens) s₁ := by
  have dictFree : ∀ {b : Addr} {o : Obj} {es : Array DictEntry} {ep : Nat}, s₁.heap.get? b = some o → o.data = .dict es ep → H b = none := fun {b o es ep} z1 z2 => by
    by_cases z : H b = none
    · exact z
    · rw [lone b z, at_] at z1
      cases z1
      exact nomatch z2
  have hidN : ∀ {b : Addr} {m : Str → Option Value}, s₁.heap.Ns b m → (hidT s₁.heap H).Ns b m := fun ⟨o, es, ep, z1, z2, z3⟩ => ⟨o, es, ep, hidT_get z1 (dictFree z1 z2), z2, z3⟩
  have hidK : K.In (hidT s₁.heap H) := fun b o z => hidT_get (KX b o z) (by
    by_cases y : H b = none
    · exact y
    · have y2 := lone b y
      subst y2
      rw [free y] at z
      cases z)
  obtain ⟨mc, l1, l2⟩ := lim
  have env : Env0 P w K mg (hidT s₁.heap H) callerA [] s₁ H :=
    { frames := rfl, mod := ⟨hidK, hidN nsG, ⟨mb, hidN nsB, same⟩, ⟨mc, hidN l1, l2⟩⟩, bs := fun b o z => of_hidT z, bsz := Nat.le_of_eq (hidT_size _ _), funs := trivial, frf := fun b z => (List.not_mem_nil z).elim, hok := ok, bare := .of_eq gen }
  refine codeAny_mono ((F _ hidK (hidN nsG)).run callerA rfl [] s₁ H ⟨[.ref a], []⟩ [.ref a] [.ref a] _ _ room env (bnd s₁ (.ref a)) (.cons rfl .nil) prom) fun r s' z => ?_
  have leave : ∀ u, r = .ok (.ret u) → CE [] P w H s₁ (fun v _ => v = .bl true) u s' → r = .ok (.ret (.bool true)) ∧ OldK s₁.heap s'.heap ∧ s'.os = s₁.os ∧ AllBare s'.gens := fun u er ⟨v, H', os, bare, un, ok', rv, q⟩ => by
    cases (show v = V.bl true from q)
    cases (show u = Value.bool true from rv)
    refine ⟨er, OldK.of_keep fun b o z => ?_, os, bare⟩
    rcases only b with y | ⟨ob, xs, y⟩
    · exact un.keep b o z y (fun i => (List.not_mem_nil i).elim) (fun i => (List.not_mem_nil i).elim)
    · obtain ⟨g1, _⟩ := ok b _ y
      obtain ⟨g2, _⟩ := ok' b _ (un.frzs b ob _ y)
      rw [z] at g1
      cases g1
      exact g2
  match r, z, leave with
  | .error e, z, _ => exact (noX H e s' z).elim
  | .ok (.ret u), z, leave => exact leave u rfl z
/-- the law's promise at the heap behind the top -/
theorem top_call {CX : CXT} {mb : Str → Option Value} {k : Nat} {fa a : Addr} {fd : FuncData} {x : Str} {sp : Sp} {s₁ : Shared} {vs : List Value} {ns : List Int}
    (KX : K.In s₁.heap) (nsG : s₁.heap.Ns mainGlobals mg) (nsB : s₁.heap.Ns builtinsNs mb) (same : ∀ x : Str, x ≠ "__name__" → mb x = bootBuiltins x) (lim : s₁.heap.NoLimit) (gen : s₁.gens = #[])
    (at_ : s₁.heap.get? a = some { cls := .type "list", data := .seq vs.toArray }) (iv : IntsAre vs ns) (small : ns.length ≤ sizeLine) (room : Room k callerA) (F : ∀ base : Heap, K.In base → base.Ns mainGlobals mg → FnG P w K mg base CX k fa fd [x] sp) (bnd : ∀ (s : Shared) (u : Value), BindsTo s fd ⟨[u], []⟩ [(x, u)])
    (noX : ∀ H e s', CX [] H s₁ (fun _ _ _ => False) e s' → False) (prom : ∀ H : Hp, Only H → SqL K H a (ns.map V.int) → sp [.ref a] H (fun v _ => v = .bl true) fun _ _ _ => False) :
    codeAny (model P w) callerA (.call (.ref fa) ⟨[.ref a], []⟩) (fun r s' => r = .ok (.ret (.bool true)) ∧ OldK s₁.heap s'.heap ∧ s'.os = s₁.os ∧ AllBare s'.gens) s₁ := by
  have rv := vals_ints iv
  cases hk : K.lookup a with
  | some o =>
    have z := KX a o hk
    rw [at_] at z
    cases z
    have sq : SqL K (fun _ => none) a (ns.map V.int) := .inr ⟨_, vs.toArray, _, hk, rfl, rfl, rfl, by rw [List.size_toArray, iv.length]; exact small, by simpa using rv⟩
    exact top_run (ns := ns) (fun _ => none) KX nsG nsB same lim gen at_ room F bnd noX (fun _ => .inl rfl) (prom _ (fun _ => .inl rfl) sq) (fun b u z => by have y : (none : Option HO) = some u := z; cases y) (fun b z => absurd rfl z) fun z => absurd rfl z
  | none =>
    obtain ⟨Hs, e1⟩ : ∃ Hs : Hp, Hs = fun b => if b = a then some (.frz { cls := .type "list", data := .seq vs.toArray } (.lst (ns.map V.int))) else none := ⟨_, rfl⟩
    have hit : Hs a = some (.frz { cls := .type "list", data := .seq vs.toArray } (.lst (ns.map V.int))) := by rw [e1]; exact if_pos rfl
    have miss : ∀ b, b ≠ a → Hs b = none := fun b z => by rw [e1]; exact if_neg z
    have only : Only Hs := fun b => by
      by_cases z : b = a
      · exact .inr ⟨_, _, by rw [z]; exact hit⟩
      · exact .inl (miss b z)
    refine top_run (ns := ns) Hs KX nsG nsB same lim gen at_ room F bnd noX only (prom _ only (.inl (.inr ⟨_, hit⟩))) (fun b u z => ?_) (fun b z => ?_) fun _ => hk
    · by_cases y : b = a
      · subst y
        rw [hit] at z
        cases z
        exact ⟨at_, by rw [List.length_map]; exact small, vs, _, rv, at_⟩
      · rw [miss b y] at z
        cases z
    · by_cases y : b = a
      · exact y
      · exact absurd (miss b y) z
end
/-- the law row's end, from such a promise of the law's def -/
theorem walk_ofG {l : PySem.W.OpenLaw} {n k : Nat} {q : Program} {loose : List Str} {XP : (Str → Option Value) → Heap → Prop} {YP : World → Heap → Prop} {d : DefRec} {K : Params → PySem.W.Frag} {sp : World → Sp} {x : Str}
    (most : l.most = some n) (fits : n ≤ sizeLine) (plain : d.params.defaults = []) (room : Room k callerA) (there : ∀ (w : World) (h : Heap), YP w h → (K w.params).In h)
    (F : ∀ (w : World) (mg : Str → Option Value) (fa : Addr) (h : Heap), (K w.params).In h → h.Ns mainGlobals mg → mg d.name = some (.ref fa) →
      ∃ fd : FuncData, (∀ (s : Shared) (u : Value), BindsTo s fd ⟨[u], []⟩ [(x, u)]) ∧ ∀ base : Heap, (K w.params).In base → base.Ns mainGlobals mg → FnG l.prog w (K w.params) mg base CX0 k fa fd [x] (sp w))
    (prom : ∀ (w : World) (H : Hp) (a : Addr) (ns : List Int), ns.length ≤ n → Only H → SqL (K w.params) H a (ns.map V.int) → sp w [.ref a] H (fun v _ => v = .bl true) fun _ _ _ => False) :
    PySem.W.WalkO q loose XP YP l.row.toRowW d [] (fun f vs => PySem.call f vs) := by
  refine Att.attach_call most plain fun w s₀ s₁ mg mb fa o pm cd doc a vs ns G Y _ _ _ hmg at_ iv len gen => ?_
  have KX := there w _ Y
  obtain ⟨fd, bnd, f1⟩ := F w mg fa _ KX G.T.g hmg
  exact top_call KX G.T.g G.T.b G.T.builtins G.T.nolimit gen at_ iv (Nat.le_trans len fits) room f1 bnd (fun _ _ _ z => z) fun H o s => prom w H a ns len o s
end L2

namespace L2
open PySem PySem.Spec PyProof.Rows PySem.ErrX
section
variable {X : Cx} {C fI : Addr} {nm f : Str} {a : Expr} {ta : TA} {p pos pos2 : Pos}
/-- an error made to be raised: its own dict, new, holds the field -/
def tThrow (C : Addr) (f : Str) (ta : TA) : St → Hp → XK → Prop := fun σ H Q => ta σ H fun vs H1 => ∃ v, vs = [v] ∧ ∀ d, H1 d = none → Q (.ref C) (some d) (upd H1 d (.xd [(f, v)]))
theorem pmk_err {k : Nat} (T : ErrTxt X.K X.mg nm f C fI) (tyC : PySem.W.typeIn X.K (.ref C) = some (.type "type")) (hr : Room k X.A) (ha : PA X [a] ta) (hg : Gl X nm := by rfl) (hdb : (nm == ("__debug__" : Str)) = false := by decide)
    (hst : starEach (a :: []) X.env = (false, eval a X.env) :: starEach [] X.env := by rfl) (hpl : (backTo pos (starEach [] X.env)).any (·.1) = false := by rfl) :
    PMk X (.Call (.Name nm p) [a] [] pos) (tThrow C f ta) := by
  intro pins s σ H Q I h
  refine wpAny_Call_Name_kw (ld_glob I hg T.gC ?_ hdb)
  refine PySem.W.callWith_K (h₀ := X.base) I.ok.mod.kin T.kC (thn (ha.run pos pins s σ H _ I h) fun us s1 goal => ?_) hst hpl
  obtain ⟨vs, H1, I1, r1, v, ev, q1⟩ := goal
  subst ev
  refine ⟨I1.kIn, ?_⟩
  cases r1 with
  | cons rv rn =>
    rename_i v' us'
    cases rn
    show wpAny _ _ (call (.ref C) [v'] []) _ _ _
    refine err_call (byName := false) T hr I1 fun h' tk e d M => ?_
    obtain ⟨t0, he⟩ := M.obj
    obtain ⟨G, g1, g2⟩ := restrict h' fun b => decide (b ≠ e)
    have off : ∀ b, b ≠ e → G.get? b = h'.get? b := fun b z => g1 b (decide_eq_true z)
    have gone : G.get? e = none := g2 e (by simp)
    have old : ∀ b o, s1.heap.get? b = some o → G.get? b = some o := fun b o z => (off b (Nat.ne_of_lt (Nat.lt_of_lt_of_le (Heap.lt_size z) M.new))).trans (M.keep b o z)
    have od : ObjOk X.prog X.w (upd H1 d (.xd [(f, v)])) G d (.xd [(f, v)]) := ⟨_, M.ns.at (fun o z => (off d M.dne).trans z), fun g => relO_one rv f g⟩
    have J : Inv X pins σ (upd H1 d (.xd [(f, v)])) { s1 with heap := G, toks := tk } := I1.laid (t' := tk) old M.dnew od
    refine ⟨e, _, _, { s1 with heap := G, toks := tk }, _, .ref C, some d, rfl, J, fun b o z => ?_, gone, he, ⟨rfl, rfl⟩, rfl, rfl, ?_, rfl, I1.bare, raises_own T.exC tyC, q1 d (I1.hok.fresh M.dnew)⟩
    · by_cases y : b = e
      · have z' : G.get? b = some o := z
        rw [y, gone] at z'
        cases z'
      · exact (off b y).symm.trans z
    · rw [upd_ne (Ne.symm M.dne)]
      exact I1.hok.fresh M.new
def tRaiseErr (C : Addr) (f : Str) (W : WX) (ta : TA) : TS := fun _ σ H => tThrow C f ta σ H fun cls d H' => W cls d σ H'
theorem ps_raiseErr {k : Nat} {W : WX} (hc : X.calm = true) (T : ErrTxt X.K X.mg nm f C fI) (tyC : PySem.W.typeIn X.K (.ref C) = some (.type "type")) (hr : Room k X.A) (tk : Takes X W) (ha : PA X [a] ta) (hg : Gl X nm := by rfl) (hdb : (nm == ("__debug__" : Str)) = false := by decide)
    (hst : starEach (a :: []) X.env = (false, eval a X.env) :: starEach [] X.env := by rfl) (hpl : (backTo pos (starEach [] X.env)).any (·.1) = false := by rfl) :
    PS X (.Raise (some (.Call (.Name nm p) [a] [] pos)) none pos2) (tRaiseErr C f W ta) := ps_raise hc tk (pmk_err T tyC hr ha hg hdb hst hpl)
/-- e.f, e the error that the suite holds -/
def tOfErr (C : Addr) (f : Str) (a : Addr) (cls : Value) (d : Option Addr) (te : TE) : TE := fun σ H Q => te σ H fun x H1 => x = .ref a ∧ cls = .ref C ∧ ∃ (dd : Addr) (v : V), d = some dd ∧ H1 dd = some (.xd [(f, v)]) ∧ Q v H1
theorem pe_ofErr {a : Addr} {oe : Obj} {cls : Value} {d : Option Addr} {pn : List (Addr × Obj)} {e : Expr} {te : TE} (T : ErrTxt X.K X.mg nm f C fI) (hz : Zc cls d oe) (hf : ∃ vs, oe.data = .fields vs) (he : PE (X.suite a ((a, oe) :: pn)) e te)
    (hb : attributeBase e f X.env (eval e X.env) = eval e X.env := by rfl) : PE (X.suite a ((a, oe) :: pn)) (.Attribute e f pos) (tOfErr C f a cls d te) := by
  refine ⟨fun pins s σ H Q I h => attr_of hb (thn (he.run pins s σ H _ I h) fun u s1 goal => ?_)⟩
  obtain ⟨x, H1, I1, rx, ex, ec, dd, v, ed, ea, q⟩ := goal
  subst ex ec ed
  cases (show u = Value.ref a from rx)
  obtain ⟨at_, _⟩ := I1.pin (a, oe) (List.mem_append_left _ List.mem_cons_self)
  obtain ⟨vs, hd⟩ := hf
  obtain ⟨mA, hns, hr⟩ := (show ObjOk X.prog X.w H1 s1.heap dd (.xd [(f, v)]) from I1.hok dd _ ea)
  obtain ⟨od, ho, hl⟩ := lookIn_ns hns
  have lk : List.lookup f [(f, v)] = some v := by simp [List.lookup]
  obtain ⟨u, hu, ru⟩ := RelO.some_of (v := v) (o := mA f) (by rw [← lk]; exact hr f)
  have J : PySem.W.InstAt s1.heap a oe C (some od) := ⟨at_, hz.1, by unfold PySem.W.notCls; rw [hd] <;> rfl, by rw [hz.2]; exact ho⟩
  exact PySem.HandSPX.exc_get I1.kIn J T.ga T.gg T.exC (PySem.W.findObj_own T.hdC T.noN rfl (by rw [hl, hu])) (handed_of ru) ⟨v, H1, I1.tok _, ru, q⟩
/-- repr where an error may be handled -/
theorem call_repr_at {K : PySem.W.Frag} (hK : X.K = K) (hg : X.A.guards = some []) (hu : X.A.units + 200 < cLine) : CallR X (.builtin "repr") (rShw K) := by
  subst hK
  intro pins s σ H xs us Q I r h
  obtain ⟨v, T, rfl, sh, q⟩ := h
  obtain ⟨u, rfl, ru⟩ := vals1 r
  cases sh with
  | non => cases (show u = Value.none from ru); exact PySem.P.repr_of_none ⟨.str _, H, I.tok _, ⟨_, rfl⟩, q⟩
  | int i hi => obtain ⟨t, rfl⟩ := (show ∃ t, u = Value.int i t from ru); exact PySem.P.repr_of_int hi ⟨.str _, H, I.tok _, ⟨_, rfl⟩, q⟩
  | str x hx => obtain ⟨t, rfl⟩ := (show ∃ t, u = Value.str x t from ru); exact PySem.P.repr_of_str (h := ⟨.str _, H, I.tok _, ⟨_, rfl⟩, q⟩) hx
  | seq a d hd hs hno hp hz =>
    cases (show u = Value.ref a from ru)
    obtain ⟨as, rd⟩ := Dp.reads I d _ _ hd rfl
    exact PySem.repr_of_reads' rd hs (fun z => by rw [hno] at z; cases z) hg (by omega) (fun _ _ z => z) (fun h' u tk kp => ⟨.str _, H, I.kept kp, ⟨_, rfl⟩, q⟩) hz
  | emp a ha =>
    cases (show u = Value.ref a from ru)
    obtain ⟨_, ns, vs, kv, o, es, ep, h1, h2, h3, _, h5, _⟩ := (show ObjOk X.prog X.w H s.heap a (.dK []) from I.hok a _ ha)
    cases kv
    have e0 : es.toList = [] := List.eq_nil_of_length_eq_zero h5.length
    have rd : Reads s.heap (.ref a) (.dict []) (a :: [] ++ []) := .dict (kvs := []) h1 h2.1 h3 (by rw [e0]; exact .nil) (by rw [e0]; exact .nil)
    have far : sysModules ∉ (a :: [] ++ [] : List Addr) := fun z => by
      have z1 : sysModules = a := by simpa using z
      rw [z1] at ns
      simp at ns
    have sh : (PyData.dict []).shown = ("{}" : Str) := by decide +kernel
    have dp : (PyData.dict []).depth ≤ 64 := by decide +kernel
    exact PySem.repr_of_reads' rd (by decide +kernel) (fun _ => far) hg (by omega) (fun _ _ z => z) (fun h' u tk kp => ⟨.str _, H, I.kept kp, ⟨_, by rw [sh]⟩, q⟩) (by rw [sh]; decide +kernel)
/-- nothing leaves a call whose promise lets nothing out -/
theorem passX0 : Passes (L2.CX X.prog X.w) X E0 := fun _ _ _ _ _ _ _ ⟨_, _, _, _, _, _, _, _, _, _, _, _, z⟩ => z.elim
/-- a call of a def whose promise wants that no repr is under way -/
theorem pe_callG {CX : CXT} {k : Nat} {fa : Addr} {fd : FuncData} {ps : List Str} {sp : Sp} {dvs : List V} {ds : List Value} {E : XK} {x : Str} {e : Expr} {es : List Expr} {t : TA} (F : FnG X.prog X.w X.K X.mg X.base CX k fa fd ps sp) (hgd : X.A.guards = some []) (hr : Room k X.A) (hg : Gl X x) (hm : X.mg x = some (.ref fa)) (hk : PySem.W.keepIn X.K (.ref fa) = true) (hb : Binds X.K fd ps ds) (hd : Vals dvs ds) (hx : Passes CX X E)
    (ha : PA X (e :: es) t) (hdb : (x == ("__debug__" : Str)) = false := by decide) (he : starEach (e :: es) X.env = (false, eval e X.env) :: starEach es X.env := by rfl) (hpl : (backTo pos (starEach es X.env)).any (·.1) = false := by rfl) :
    PE X (.Call (.Name x p) (e :: es) [] pos) (tCall sp dvs E t) := by
  refine ⟨fun pins s σ H Q I h => wpAny_Call_Name_kw (ld_glob I hg hm ?_ hdb)⟩
  refine PySem.W.callWith_K (h₀ := X.base) I.ok.mod.kin hk (thn (ha.run pos pins s σ H _ I h) fun us s1 goal => ?_) he hpl
  obtain ⟨vs, H1, I1, r, q⟩ := goal
  have r2 : Vals (vs ++ dvs) (us ++ ds) := r.append hd
  have ln : (us ++ ds).length = ps.length := by rw [← r2.length]; exact F.len _ _ _ _ q
  refine ⟨I1.kIn, wpAny_call (codeAny_mono (F.run X.A hgd X.stack s1 H1 ⟨us, []⟩ (us ++ ds) (vs ++ dvs) Q E hr I1.env0 (hb s1 us I1.kIn ln) r2 q) fun r s' z => ?_)⟩
  match r, z with
  | .error e, z => exact hx pins σ H1 s1 e s' I1 z
  | .ok (.ret u), z => exact I1.after z
end
end L2

namespace L2
open PySem PySem.Spec PyProof.Rows PySem.ErrX
/-- behind a suite its name is gone -/
def offName (i : Nat) (D : Ends) : Ends := { nx := fun σ H => D.nx (σ.set i none) H, rt := D.rt, bk := fun σ H => D.bk (σ.set i none) H, ct := fun σ H => D.ct (σ.set i none) H }
/-- what several clauses, each «as» the name in slot i, wish of an exception of the body -/
def wAses (K : PySem.W.Frag) (i : Nat) (Wout : WX) (D : Ends) : List (Value × (Addr → Value → Option Addr → TS)) → WX
  | [] => Wout
  | (c, ts) :: r => fun cls d σ H => ∃ b, PySem.W.exmOne K cls c = some b ∧ (b = true → ∀ a, H a = none → ts a cls d (offName i D) (σ.set i (some (.ref a))) H) ∧ (b = false → wAses K i Wout D r cls d σ H)
inductive HdsAs (X : Cx) (n : Str) : List ExceptHandler → List (Value × (Addr → Value → Option Addr → TS)) → Prop
  | nil : HdsAs X n [] []
  | cons {x : Str} {c : Value} {ts : Addr → Value → Option Addr → TS} {b₀ : Stmt} {suite : List Stmt} {np hp : Pos} {hds : List ExceptHandler} {l : List (Value × (Addr → Value → Option Addr → TS))} (named : Names X x c)
      (inner : ∀ (a : Addr) (oe : Obj) (cls : Value) (d : Option Addr) (pn : List (Addr × Obj)), Zc cls d oe → (∃ vs, oe.data = .fields vs) → PSs (X.suite a ((a, oe) :: pn)) (b₀ :: suite) (ts a cls d)) (more : HdsAs X n hds l) :
      HdsAs X n (.ExceptHandler (some (.Name x np)) (some n) (b₀ :: suite) hp :: hds) ((c, ts) :: l)
section
variable {X : Cx} {body : List Stmt} {h₀ : ExceptHandler} {hds : List ExceptHandler} {l : List (Value × (Addr → Value → Option Addr → TS))} {pos : Pos} {tb : WX → TS} {Wout : WX} {n : Str} {i : Nat}
theorem ps_try_ases (stk : X.stack = X.env :: X.outer) (fr : X.env.frame = some X.env.locals) (nodup : X.N.Nodup) (slot : X.N[i]? = some n) (loc : X.env.kindOf n = some .local) (out : Takes X Wout)
    (tried : ∀ (W : WX) (pn : List (Addr × Obj)) (xe : Value → Shared → Prop), Takes (X.tr pn xe) W → PassesOwn (model X.prog X.w) X.A X.env xe → PSs (X.tr pn xe) body (tb W))
    (clauses : HdsAs X n (h₀ :: hds) l) : PS X (.Try body (h₀ :: hds) [] [] pos) (fun D σ H => tb (wAses X.K i Wout D l) D σ H) := by
  refine ⟨fun pins s σ H D I h => wpAny_Try_except ?_⟩
  have okX := I.ok
  have frames : X.A.frames = some (X.env :: X.outer) := by rw [okX.frames, stk]
  refine wpAny_mono ((tried (wAses X.K i Wout D l) (X.pn ++ pins) (fun e s₁ => wpAny (model X.prog X.w) X.A (noteFrame e X.env) (fun _ s₂ => wpAny (model X.prog X.w) X.A (setFlight e none) (fun _ s₃ => wpAny (model X.prog X.w) X.A (handleBy e X.env (h₀ :: hds)) (SP X pins D) X.xe s₃) X.xe s₂) X.xe s₁)
    (fun u s' air => ?_) PassesOwn.looking).run [] s σ H D (I.toTry _) h) (fun f s1 done => ?_) (fun _ _ z => z)
  case refine_2 =>
    cases f with
    | next => obtain ⟨σ', H', J, q⟩ := done; exact wpAny_execs_nil ⟨σ', H', J.ofTry okX, q⟩
    | brk => obtain ⟨σ', H', J, q⟩ := done; exact ⟨σ', H', J.ofTry okX, q⟩
    | cont => obtain ⟨σ', H', J, q⟩ := done; exact ⟨σ', H', J.ofTry okX, q⟩
    | ret u => obtain ⟨v, σ', H', J, r, q⟩ := done; exact ⟨v, σ', H', J.ofTry okX, r, q⟩
  obtain ⟨a, B, sI, pins', σ', H', cls, d, rfl, J0, nb, up, sky, na, os, ag, wish⟩ := air
  have J : Inv X pins σ' H' sI := J0.ofTry okX
  show wpAny (model X.prog X.w) X.A (noteFrame (.ref a) X.env) _ _ _
  refine Sky.land Zc.steady frames fr (show Sky B (X.env :: X.outer) a (Zc cls d) X.env.locals s'.heap by rw [← stk]; exact sky) fun h3 fl3 up3 => ?_
  have J3 : Inv X pins σ' H' { s' with heap := h3 } := J.landed nb fl3.1 (up.trans up3) os ag
  obtain ⟨oe3, vs3, he3, hz3, hd3⟩ := fl3.there
  have apart : a ∉ frs (X.env :: X.outer) := fun hm => by
    obtain ⟨_, o', e', hnf⟩ := fl3.2.2.1.mem hm
    rw [he3] at e'
    cases e'
    exact hnf _ hd3
  have nL : a ≠ X.env.locals := fun z => apart (List.mem_filterMap.mpr ⟨X.env, List.mem_cons_self, by rw [fr, z]⟩)
  have nF : a ∉ X.fs := fun hm => by
    obtain ⟨e, he, q⟩ := List.mem_filterMap.mp hm
    exact apart (List.mem_filterMap.mpr ⟨e, List.mem_cons_of_mem _ he, q⟩)
  have S3 := J3.suite he3 hd3 na nL nF
  suffices go : ∀ (hs : List ExceptHandler) (ls : List (Value × (Addr → Value → Option Addr → TS))), HdsAs X n hs ls → wAses X.K i Wout D ls cls d σ' H' → wpAny (model X.prog X.w) X.A (handleBy (.ref a) X.env hs) (SP X pins D) X.xe { s' with heap := h3 } from go _ _ clauses wish
  intro hs ls ok
  induction ok with
  | nil =>
    intro w
    refine wpAny_handleBy_nil ?_
    obtain ⟨k1, k2, k3, oe, vs, T, oT, ts', he, hz, hd, h1, hr⟩ := id fl3
    unfold PySem.passOn
    refine wpAny_bind (wpAny_field he hd h1 ?_)
    rw [if_neg (show ¬ ((Value.ref T == Value.none) = true) from by simp)]
    have fin : wpAny (model X.prog X.w) X.A (setFlight (.ref a) X.env.frame) (fun _ s4 => wpAny (model X.prog X.w) X.A (throw (.ref a) : Sem Flow) (SP X pins D) X.xe s4) X.xe { s' with heap := h3 } := by
      rw [fr]
      exact HandSPX.setFlight_upZ fl3 fun h4 hh4 up4 => wpAny_throw (out _ _ ⟨a, B, sI, pins, σ', H', cls, d, rfl, J, nb, (up.trans up3).trans up4, .inr (.inr (by rw [stk]; exact hh4)), na, os, ag, w⟩)
    first | exact wpAny_bind (wpAny_pure (wpAny_bind fin)) | exact wpAny_bind fin
  | @cons x c ts b₀ suite np hp hds2 l2 named inner more ih =>
    intro w
    obtain ⟨b, hb, yes, no⟩ := w
    refine wpAny_handleBy_cons (codeAny_handlers_test ?_) (by intro q; cases q)
    have LT : PySem.W.Looks (model X.prog X.w) h3 (typeOf (.ref a)) cls := fun A Q E s k q => wpAny_typeOf_ref (k _ _ he3) (by rw [hz3.1]; exact q)
    have LM := PySem.W.exm_one (M := model X.prog X.w) (J3.kIn) LT hb
    have asked : ∀ {Q : Value → Shared → Prop} {E : Value → Shared → Prop}, Q c { s' with heap := h3 } → wpAny (model X.prog X.w) (X.A.mark (some (.ref a))) (eval (.Name x np) X.env) Q E { s' with heap := h3 } := fun {Q E} q => by
      rcases named with ⟨hg, hdb, hm | ⟨hm, hv, hnn⟩⟩
      · exact ld_glob (X := X.suite a ((a, oe3) :: (X.pn ++ pins))) S3 hg hm q hdb
      · exact ld_blt (X := X.suite a ((a, oe3) :: (X.pn ++ pins))) S3 hg hm hv q hnn hdb
    refine asked (LM.here ?_)
    cases b with
    | false => exact ih (no rfl)
    | true =>
      refine codeAny_handlers_suite_as (HandSPX.lands_againZ fl3 fun h4 fl4 up4 => ?_)
      have J4 : Inv X pins σ' H' { s' with heap := h4 } := J.landed nb fl4.1 ((up.trans up3).trans up4) os ag
      obtain ⟨oe4, vs4, he4, hz4, hd4⟩ := fl4.there
      refine store_ok (X := X.suite a ((a, oe4) :: (X.pn ++ pins))) (v := .ref a) (J4.suite he4 hd4 na nL nF) nodup slot (.inl loc) rfl (fun s5 S5 => ?_) (.inr loc)
      refine wpAny_mono ((inner a oe4 cls d (X.pn ++ pins) hz4 ⟨_, hd4⟩).run [] s5 _ H' _ S5 (yes rfl a na)) (fun f s6 done => ?_) (fun _ _ z => z.elim)
      have last : ∀ {σ6 : L2.St} {H6 : Hp} {Q : Shared → Prop}, Inv (X.suite a ((a, oe4) :: (X.pn ++ pins))) [] σ6 H6 s6 → (∀ s7, Inv X pins (σ6.set i none) H6 s7 → Q s7) →
          wpAny (model X.prog X.w) X.A (do bindName X.env n .none; unbindBehindTheSuite X.env n hp) (fun _ s7 => Q s7) X.xe s6 := fun S6 hq => gone_ok (S6.unsuite okX) nodup slot loc hq
      cases f with
      | next => obtain ⟨σ6, H6, S6, q6⟩ := done; exact last S6 fun s7 J7 => ⟨_, _, J7, q6⟩
      | brk => obtain ⟨σ6, H6, S6, q6⟩ := done; exact last S6 fun s7 J7 => ⟨_, _, J7, q6⟩
      | cont => obtain ⟨σ6, H6, S6, q6⟩ := done; exact last S6 fun s7 J7 => ⟨_, _, J7, q6⟩
      | ret u => obtain ⟨v6, σ6, H6, S6, r6, q6⟩ := done; exact last S6 fun s7 J7 => ⟨_, _, _, J7, r6, q6⟩
end
end L2

namespace L2
open PySem PySem.Spec PyProof.Rows
/-! ### a set of texts that can be walked -/
def keyT (e : Int × Value) : Str := match e.2 with | .str x _ => x | _ => Str.empty
def GoodT (P : Program) (w : World) (e : Int × Value) : Prop := ∃ x tk, e.2 = Value.str x tk ∧ e.1 = (strKind P w).hash x
/-- at a: a set of just the texts of S, n of them; its table rises -/
def TxR (P : Program) (w : World) (h : Heap) (a : Addr) (S : Str → Bool) (n : Nat) : Prop :=
  ∃ o es ep t, h.get? a = some o ∧ o.ExactSet ∧ o.data = .set es ep t ∧ (∀ e ∈ es.toList, GoodT P w e) ∧ (es.toList.map keyT).Nodup ∧ (∀ k, S k = true ↔ k ∈ es.toList.map keyT) ∧
    es.size < scanBound ∧ t.fits es.size = true ∧ es.size = n ∧ Ris t.place.toList ∧ (w.params.followText "set-order" = true ∨ t.led = true)
section
variable {P : Program} {w : World} {h h' : Heap} {a : Addr} {S : Str → Bool} {n : Nat}
theorem TxR.keep (R : TxR P w h a S n) (k : ∀ o, h.get? a = some o → h'.get? a = some o) : TxR P w h' a S n :=
  let ⟨o, es, ep, t, ho, r⟩ := R; ⟨o, es, ep, t, k o ho, r⟩
theorem TxR.same {S' : Str → Bool} (R : TxR P w h a S n) (e : ∀ k, S' k = S k) : TxR P w h a S' n := (funext e : S' = S) ▸ R
theorem goodT_is {e : Int × Value} (g : GoodT P w e) (k : Str) : (strKind P w).is k e.2 = true ↔ keyT e = k := by
  obtain ⟨x, tk, z, _⟩ := g
  unfold keyT
  rw [z]
  show Value.isStrOf k (.str x tk) = true ↔ x = k
  simp [Value.isStrOf]
theorem goodT_elems {l : List (Int × Value)} (g : ∀ e ∈ l, GoodT P w e) : ElemsOf (strKind P w) l := fun e he => by
  obtain ⟨x, tk, z1, z2⟩ := g e he
  exact ⟨⟨x, (goodT_is (g e he) x).2 (by unfold keyT; rw [z1]), z2⟩, by rw [z1] <;> rfl⟩
theorem goodT_mem {l : List (Int × Value)} (g : ∀ e ∈ l, GoodT P w e) (k : Str) : k ∈ l.map keyT ↔ ∃ e ∈ l, (strKind P w).is k e.2 = true := by
  rw [List.mem_map]
  exact ⟨fun ⟨e, he, q⟩ => ⟨e, he, (goodT_is (g e he) k).2 q⟩, fun ⟨e, he, q⟩ => ⟨e, he, (goodT_is (g e he) k).1 q⟩⟩
end
section
variable {P : Program} {w : World} {A : Around} {E : Value → Shared → Prop} {s : Shared} {a : Addr} {S : Str → Bool} {n : Nat}
/-- the end of an add: stored, and laid anew where the table is too full -/
theorem txR_tail {g : Bool → Sem Unit} (free : ∀ (b : Bool) (s₁ : Shared) (Q' : Unit → Shared → Prop), Q' () s₁ → wpAny (model P w) A (g b) Q' E s₁)
    {o : Obj} {es : Array (Int × Value)} {ep : Nat} {t : SetTable} (ho : s.heap.get? a = some o) (hex : o.ExactSet) (hd : o.data = .set es ep t)
    {es1 : Array (Int × Value)} {t2 : SetTable} {S' : Str → Bool} (g1 : ∀ e ∈ es1.toList, GoodT P w e) (nd1 : (es1.toList.map keyT).Nodup) (m1 : ∀ k, S' k = true ↔ k ∈ es1.toList.map keyT)
    (b1 : es1.size < scanBound) (f2 : t2.fits es1.size = true) (r2 : Ris t2.place.toList) (l2 : w.params.followText "set-order" = true ∨ t2.led = true) {dummy : Bool} {R : Option Bool → Shared → Prop}
    (fin : ∀ h', Heap.SameBut a s.heap h' → TxR P w h' a S' es1.size → R (some true) { s with heap := h' }) :
    wpAny (model P w) A (do
        storeSet a es1 t2
        if (!dummy && t2.tooFull) = true then do
            g (relayAll t2 es1 (SetTable.grown es1.size)).2.2
            storeSet a (relayAll t2 es1 (SetTable.grown es1.size)).1 (relayAll t2 es1 (SetTable.grown es1.size)).2.1
            pure (some true)
          else pure (some true)) R E s := by
  refine wpAny_bind (wpAny_storeSet_of ho hd ?_ (fits_of_scanBound b1))
  have at1 := store_at (es' := es1) (t' := t2) ho hd
  have but1 := Heap.SameBut.update s.heap a (Obj.putSet es1 t2)
  split
  case isFalse => exact wpAny_pure (fin _ but1 ⟨_, es1, _, t2, at1, hex, rfl, g1, nd1, m1, b1, f2, rfl, r2, l2⟩)
  case isTrue =>
    have perm := relayAll_perm t2 es1 (SetTable.grown es1.size)
    have fits := relayAll_fits t2 es1 (SetTable.grown es1.size)
    have rises := relayAll_ris t2 es1 (SetTable.grown es1.size)
    have leds := relayAll_led t2 es1 (SetTable.grown es1.size)
    generalize relayAll t2 es1 (SetTable.grown es1.size) = Z at perm fits rises leds ⊢
    obtain ⟨es2, t3, gave⟩ := Z
    dsimp only at perm fits rises leds ⊢
    have size : es2.size = es1.size := by rw [← Array.length_toList, perm.length_eq, Array.length_toList]
    have b2 : es2.size < scanBound := by rw [size]; exact b1
    refine wpAny_bind (free _ _ _ (wpAny_bind (wpAny_storeSet_of at1 rfl ?_ (fits_of_scanBound b2))))
    have at2 := store_at (es' := es2) (t' := t3) at1 rfl
    exact wpAny_pure (fin _ (but1.trans (Heap.SameBut.update _ a _)) ⟨_, es2, _, t3, at2, hex, rfl, fun e he => g1 e (perm.mem_iff.mp he), (perm.map keyT).nodup_iff.mpr nd1,
      fun k => (m1 k).trans (perm.map keyT).mem_iff.symm, b2, fits, size, rises, l2.imp id fun z => by rw [leds]; exact z⟩)
/-- a text added, its hash in hand -/
theorem txR_add {k : Str} {tk : Tok} {Q : Bool → Shared → Prop} (R : TxR P w s.heap a S n) (room : n + 1 < scanBound)
    (fin : ∀ h', Heap.SameBut a s.heap h' → TxR P w h' a (fun j => S j || decide (j = k)) (if S k = true then n else n + 1) → Q (!S k) { s with heap := h' }) :
    wpAny (model P w) A (setAddHashed a (.str k tk) ((strKind P w).hash k)) Q E s := by
  obtain ⟨o, es, ep, t, ho, hex, hd, good, nd, hm, hb, hf, hn, rises, led⟩ := R
  have isk : (strKind P w).is k (.str k tk) = true := Froz.is_str k tk
  have scan : (Value.str k tk).scannable = true := rfl
  have elems : ElemsOf (strKind P w) es.toList := goodT_elems good
  unfold setAddHashed setAddHashedIn
  refine wpAny_holding (wpAny_bind (wpAny_setState_of ho hd hf ?_))
  dsimp only
  rw [byScan_of scan hb elems]
  simp only [↓reduceIte]
  unfold setAddByScan
  refine wpAny_bind (wpAny_bind (wpAny_rule (wpAny_bind (wpAny_setScan_of isk ho hd hf elems ?_))))
  cases found : List.findIdx? (fun e => (strKind P w).is k e.2) es.toList with
  | some j =>
    dsimp only
    obtain ⟨hj, pj, _⟩ := List.findIdx?_eq_some_iff_getElem.mp found
    have inS : S k = true := (hm k).2 ((goodT_mem (P := P) (w := w) good k).2 ⟨es.toList[j], List.getElem_mem hj, pj⟩)
    have q := fin s.heap (Heap.SameBut.refl a s.heap) ⟨o, es, ep, t, ho, hex, hd, good, nd, fun i => by
      rw [Bool.or_eq_true, decide_eq_true_eq, ← hm i]
      exact ⟨fun z => z.elim id (fun e => e ▸ inS), .inl⟩, hb, hf, by rw [if_pos inS]; exact hn, rises, led⟩
    rw [inS] at q
    exact wpAny_pure (wpAny_pure q)
  | none =>
    dsimp only
    have fresh : k ∉ es.toList.map keyT := fun z => by
      obtain ⟨e, he, q⟩ := (goodT_mem (P := P) (w := w) good k).1 z
      rw [List.findIdx?_eq_none_iff.mp found e he] at q
      cases q
    have offS : S k = false := Bool.eq_false_iff.mpr fun q => fresh ((hm k).1 q)
    have ways : ∀ (b : Bool) {s₁ : Shared} {Q' : Unit → Shared → Prop}, Q' () s₁ → wpAny (model P w) A (match b with | true => rule "set.scan.the-table-gave-way" | false => pure ()) Q' E s₁ := fun b s₁ Q' q => by
      cases b <;> first | exact wpAny_pure q | exact wpAny_rule q
    have perm := layNew_perm t es ((strKind P w).hash k) (.str k tk)
    have fits := layNew_fits t es ((strKind P w).hash k) (.str k tk)
    have ris1 := layNew_ris t es ((strKind P w).hash k) (.str k tk) rises
    have led1 := layNew_led t es ((strKind P w).hash k) (.str k tk)
    generalize layNew t es ((strKind P w).hash k) (.str k tk) = Z at perm fits ris1 led1 ⊢
    obtain ⟨es1, t1, dummy, gave⟩ := Z
    dsimp only at perm fits ris1 led1 ⊢
    rw [Array.toList_push] at perm
    have permC : es1.toList.Perm (((strKind P w).hash k, Value.str k tk) :: es.toList) := perm.trans (List.perm_append_singleton _ _)
    have permK : (es1.toList.map keyT).Perm (k :: es.toList.map keyT) := permC.map keyT
    have good1 : ∀ e ∈ es1.toList, GoodT P w e := fun e he => (List.mem_cons.mp (permC.mem_iff.mp he)).elim (fun z => by rw [z]; exact ⟨k, tk, rfl, rfl⟩) (good e)
    have nd1 : (es1.toList.map keyT).Nodup := permK.nodup_iff.mpr (List.nodup_cons.mpr ⟨fresh, nd⟩)
    have mem1 : ∀ i, (S i || decide (i = k)) = true ↔ i ∈ es1.toList.map keyT := fun i => by
      rw [Bool.or_eq_true, decide_eq_true_eq, hm i, permK.mem_iff, List.mem_cons]
      exact Or.comm
    have size : es1.size = n + 1 := by rw [← Array.length_toList, permC.length_eq, List.length_cons, Array.length_toList, hn]
    have b1 : es1.size < scanBound := by rw [size]; exact room
    have ledd : w.params.followText "set-order" = true ∨ t1.led = true := led.imp id fun z => by rw [led1]; exact z
    have last : ∀ h', Heap.SameBut a s.heap h' → TxR P w h' a (fun j => S j || decide (j = k)) es1.size → Q true { s with heap := h' } := fun h' sb r => by
      have q := fin h' sb
      rw [offS] at q
      rw [size] at r
      exact q r
    refine wpAny_bind (ways _ ?_)
    split
    · refine wpAny_bind ?_
      rw [hashByValue_scannable 8 scan]
      refine wpAny_pure (txR_tail (fun b s₁ Q' q => by cases b <;> first | exact wpAny_pure q | exact wpAny_rule q) ho hex hd good1 nd1 mem1 b1 ?_ ?_ ?_ fun h' sb r => by dsimp only; exact wpAny_pure (last h' sb r))
      · first | (split <;> first | exact fits | exact SetTable.fits_plain_off fits) | exact fits
      · first | (split <;> exact ris1) | exact ris1
      · first | (split <;> exact ledd) | exact ledd
    · refine wpAny_bind (wpAny_pure ?_)
      simp only [↓reduceIte]
      exact txR_tail (fun b s₁ Q' q => by cases b <;> first | exact wpAny_pure q | exact wpAny_rule q) ho hex hd good1 nd1 mem1 b1 fits ris1 ledd fun h' sb r => by dsimp only; exact wpAny_pure (last h' sb r)
/-- all that a walk yields, into the set -/
theorem txR_fill {I : Addr} {fp wr : List Addr} {G : Array GenState → Array GenState → Prop} {n : Nat} {Pv : Nat → Value → Prop} {St : Nat → Shared → Prop} {R : Result → Shared → Prop}
    (W : WalksS P w A.in1 I fp wr G n Pv St) (T : Addr) (apart : T ∉ fp) (xs : List Str) (many : n = xs.length) (room : xs.length + 1 < scanBound) (item : ∀ i v, Pv i v → ∃ k t, xs[i]? = some k ∧ v = .str k t) :
    ∀ (left i : Nat) (s : Shared), n - i = left → i ≤ n → St i s → (∃ c, c ≤ i ∧ TxR P w s.heap T (fun j => decide (j ∈ xs.take i)) c) →
      (∀ s' c, Moved (T :: wr) G s s' → c ≤ n → TxR P w s'.heap T (fun j => decide (j ∈ xs)) c → R (.ok (.ret .none)) s') → codeAny (model P w) A (.builtin "set.update.loop" ⟨[.ref T, .ref I], []⟩) R s := by
  have offW : T ∉ wr := fun z => apart (W.sub _ z)
  have incl : ∀ b ∈ wr, b ∈ T :: wr := fun b z => List.mem_cons_of_mem _ z
  intro left
  induction left with
  | zero =>
    intro i s e0 le st ⟨c, hc, set⟩ fin
    obtain rfl : i = n := by omega
    refine codeAny_builtin F.entry_set_update_loop ?_
    rw [Around.under_plainId F.plain_set_update_loop _]
    show wpAny _ A.in1 (pyNext (.ref I) >>= _) _ _ s
    refine wpAny_bind (W.done s _ _ st fun s' mv => ?_)
    rw [List.take_of_length_le (by omega)] at set
    exact wpAny_pure (fin s' c (mv.mono incl) hc (set.keep fun o z => mv.heap T o offW z))
  | succ left ih =>
    intro i s e0 le st ⟨c, hc, set⟩ fin
    have lt : i < n := by omega
    refine codeAny_builtin F.entry_set_update_loop ?_
    rw [Around.under_plainId F.plain_set_update_loop _]
    show wpAny _ A.in1 (pyNext (.ref I) >>= _) _ _ s
    refine wpAny_bind (W.item i s _ _ lt st fun v s' hP st' mv => ?_)
    obtain ⟨k, t, hk, rfl⟩ := item i v hP
    have set' : TxR P w s'.heap T (fun j => decide (j ∈ xs.take i)) c := set.keep fun o z => mv.heap T o offW z
    show wpAny _ A.in1 (holding [Value.str k t] (setAdd T (.str k t)) >>= _) _ _ s'
    refine wpAny_bind (wpAny_holding ?_)
    unfold setAdd
    refine wpAny_holding (wpAny_bind ((strKind P w).pyHash (k := k) (Froz.is_str _ _) ?_))
    refine txR_add (s := { s' with toks := s'.toks + 1 }) set' (by omega) fun h' but set2 => ?_
    have set3 : TxR P w h' T (fun j => decide (j ∈ xs.take (i + 1))) (if decide (k ∈ xs.take i) = true then c else c + 1) := set2.same fun j => by
      rw [List.take_add_one, hk]
      simp [List.mem_append]
    have le3 : (if decide (k ∈ xs.take i) = true then c else c + 1) ≤ i + 1 := by
      split <;> omega
    refine wpAny_pure ⟨plainId_quiet F.plain_set_update_loop _, ih (i + 1) _ (by omega) lt (W.frame _ s' _ _ st' (Nat.le_succ _) fun b z o e => ?_) ⟨_, le3, set3⟩ fun s'' c2 mv2 hc2 set4 => ?_⟩
    · rw [but.2 b (fun y : b = T => apart (by rw [← y]; exact z))]; exact e
    · refine fin s'' c2 (Moved.trans W.gtrans ((mv.mono incl).then_heap (Nat.le_succ _) fun b o z e => ?_) mv2) hc2 set4
      rw [but.2 b (fun y : b = T => z (by rw [y]; exact List.mem_cons_self))]; exact e
/-- a text's signs, each a text -/
def signsOf (x : Str) : List Str := x.cps.toList.map fun c => ⟨#[c]⟩
theorem sub_str_set : isSubtype (.type "str") (.type "set") = pure false := by rw [isSubtype_type]; kernel_rfl
theorem sub_str_frozenset : isSubtype (.type "str") (.type "frozenset") = pure false := by rw [isSubtype_type]; kernel_rfl
set_option maxHeartbeats 4000000 in
/-- set(a text) -/
theorem call_set_text {x : Str} {t : Tok} {Q : Value → Shared → Prop} (hh : A.handled = none) (room : (signsOf x).length + 1 < scanBound)
    (fin : ∀ (h' : Heap) (tk c : Nat), TxR P w h' s.heap.objs.size (fun j => decide (j ∈ signsOf x)) c → c ≤ (signsOf x).length → (∀ b o, s.heap.get? b = some o → h'.get? b = some o) → Q (.ref s.heap.objs.size) { s with heap := h', toks := tk }) :
    wpAny (model P w) A (call (.type "set") [.str x t]) Q E s := by
  have mro := F.called_set.mro
  obtain ⟨c, tl, mro⟩ := mro
  have made := F.called_set.made
  have sub := F.called_set.sub
  refine wpAny_call (codeAny_of_tree ?_)
  show wpAny _ _ (callAny (.type "set") _) _ _ _
  refine wpAny_pure ⟨Code.quiet_builtin _ (by decide +kernel), codeAny_builtin F.entry_type_call ?_⟩
  rw [Around.under_plain (weight_type_call_type "set" [.str x t] []) rfl]
  have f1 := F.called_set.notType
  have f2 := F.called_set.canCreate
  have f3 := F.typeCall_set_1 (.str x t)
  repeat (any_goals (first | assumption | wp_step))
  obtain ⟨h1, e1⟩ : ∃ h1 : Heap, h1 = s.heap.push { cls := .type "set", dict := none, data := .set #[] 0 (.fresh 0 0 (!w.params.followText "set-order")) } := ⟨_, rfl⟩
  have size1 : h1.objs.size = s.heap.objs.size + 1 := by rw [e1]; exact Heap.size_push ..
  have keep1 : ∀ b o, s.heap.get? b = some o → h1.get? b = some o := fun b o z => by rw [e1]; exact Heap.get?_push_of_some _ z
  have at1 : h1.get? s.heap.objs.size = some { cls := .type "set", dict := none, data := .set #[] 0 (.fresh 0 0 (!w.params.followText "set-order")) } := by rw [e1]; exact Heap.get?_push_size _ rfl
  refine codeAny_mono (code_set_led1 (.str x t) (E := E) (Q₁ := fun obj s₁ => obj = .ref s.heap.objs.size ∧ s₁ = { s with heap := h1 }) ⟨rfl, by rw [e1]⟩) fun r s₁ back => ?_
  match r, back with
  | .error e, back => exact back
  | .ok (.ret obj), back =>
    obtain ⟨rfl, rfl⟩ := back
    have ty : Shared.TypeIs { s with heap := h1 } (.ref s.heap.objs.size) "set" := ⟨_, at1, rfl⟩
    have look := F.called_set.init.lookup
    have bnd := F.called_set.init.bind (.ref s.heap.objs.size)
    repeat (any_goals (first | assumption | wp_step))
    refine codeAny_mono (codeAny_call_builtin (R := wants (fun r s₂ => r = .none ∧ ∃ h' tk c, s₂ = { s with heap := h', toks := tk } ∧ TxR P w h' s.heap.objs.size (fun j => decide (j ∈ signsOf x)) c ∧ c ≤ (signsOf x).length ∧
        (∀ b o, s.heap.get? b = some o → h'.get? b = some o)) E) F.called_set.init.plain F.entry_set_init (check_set_init_1 ty ?_)) fun r₂ s₂ back₂ => ?_
    · have z1 := sub_str_set
      have z2 := sub_str_frozenset
      have z3 : (Value.type "str" == Value.type "dict") = false := by decide
      unfold Builtin.«set.__init__» noKeywords Builtin.Frozenset.updateFrom
      generalize hPI : pyIter = PI
      wp_walk
      subst hPI
      refine wpAny_pyIter_str fun o St walk st0 => ?_
      refine wpAny_bind (wpAny_runValue ?_)
      have hh3 : A.in1.in1.in1.handled = none := by simp [hh]
      have many : x.cps.size = (signsOf x).length := by simp [signsOf]
      have empty : TxR P w (h1.push o) s.heap.objs.size (fun j => decide (j ∈ (signsOf x).take 0)) 0 :=
        ⟨_, #[], 0, _, Heap.get?_push_of_some _ at1, ⟨rfl, rfl, rfl⟩, rfl, (fun e he => by simp at he), (by simp), (fun k => by simp), (by decide), (by rfl), rfl, List.Pairwise.nil, by
          show _ ∨ (!w.params.followText "set-order") = true
          cases w.params.followText "set-order"
          · exact .inr rfl
          · exact .inl rfl⟩
      refine txR_fill ((walk _ hh3).toS) s.heap.objs.size (fun z => by have z1 : s.heap.objs.size = h1.objs.size := List.mem_singleton.mp z; rw [size1] at z1; exact absurd z1 (Nat.ne_of_lt (Nat.lt_succ_self _))) (signsOf x) many room (fun i v sign => ?item) (x.cps.size - 0) 0 _ rfl (Nat.zero_le _) st0 ⟨0, Nat.le_refl 0, empty⟩ fun s' c' mv le set => ?last
      case item =>
        obtain ⟨c, u, hc, rfl⟩ := sign
        refine ⟨⟨#[c]⟩, u, ?_, rfl⟩
        show (x.cps.toList.map _)[i]? = _
        rw [List.getElem?_map, Array.getElem?_toList, hc]
        rfl
      case last =>
        obtain ⟨h', g2, d', tk', os'⟩ := s'
        obtain rfl : g2 = s.gens := mv.gens
        obtain rfl : d' = s.drawn := mv.drawn
        obtain rfl : os' = s.os := mv.os
        show wpAny _ _ _ _ _ _
        refine wpAny_pure ?_
        show wpAny _ _ (ret Value.none) _ _ _
        rw [many] at le
        refine wpAny_pure ⟨rfl, h', tk', c', rfl, set, le, fun b o e => ?_⟩
        have lt := Heap.lt_size e
        refine mv.heap b o (fun z => ?_) (Heap.get?_push_of_some _ (keep1 _ _ e))
        rcases List.mem_cons.mp z with z | z
        · exact absurd lt (by rw [z]; exact Nat.lt_irrefl _)
        · have z3 : b = h1.objs.size := List.mem_singleton.mp z
          rw [size1] at z3
          exact absurd lt (by rw [z3]; exact Nat.not_lt_of_le (Nat.le_succ _))
    · match r₂, back₂ with
      | .error e, back₂ => exact back₂
      | .ok (.ret r), back₂ =>
        obtain ⟨rfl, h', tk, c', rfl, set, le, kept⟩ := back₂
        repeat (any_goals (first | assumption | wp_step))
        exact fin _ _ _ set le kept
end
end L2

namespace L2
open PySem PySem.Spec PyProof.Rows
section
variable {P : Program} {w : World} {A : Around} {E : Value → Shared → Prop} {s : Shared} {a : Addr} {S : Str → Bool} {n : Nat}
theorem strs_of_good : ∀ l : List (Int × Value), (∀ e ∈ l, GoodT P w e) → StrsAre (l.map (·.2)) (l.map keyT)
  | [], _ => .nil
  | e :: l, g => by
    obtain ⟨x, tk, z, _⟩ := g e List.mem_cons_self
    have k : keyT e = x := by unfold keyT; rw [z]
    rw [List.map_cons, List.map_cons, z, k]
    exact .cons x tk (strs_of_good l fun u hu => g u (List.mem_cons_of_mem _ hu))
def textOf (v : Value) : Str := match v with | .str x _ => x | _ => Str.empty
theorem strs_of : ∀ l : List Value, (∀ v ∈ l, ∃ x tk, v = Value.str x tk) → StrsAre l (l.map textOf)
  | [], _ => .nil
  | v :: l, g => by
    obtain ⟨x, tk, rfl⟩ := g v List.mem_cons_self
    exact .cons x tk (strs_of l fun u hu => g u (List.mem_cons_of_mem _ hu))
/-- sorted(a set of texts) -/
theorem sorted_texts {Q : Value → Shared → Prop} (R : TxR P w s.heap a S n) (hh : A.handled = none) (few : n < 64)
    (fin : ∀ s' p (out : Array Value) (c : Nat) (ys : List Str), (∀ b o, s.heap.get? b = some o → s'.heap.get? b = some o) → s'.gens = s.gens → s'.os = s.os → s.heap.objs.size ≤ p →
      s'.heap.get? p = some (seqObj "list" out c) → StrsAre out.toList ys → sortedS ys = true → ys.Nodup → (∀ k, k ∈ ys ↔ S k = true) → ys.length = n → Q (.ref p) s') :
    wpAny (model P w) A (call (.builtin "sorted") [.ref a]) Q E s := by
  obtain ⟨o, es, ep, t, ho, hex, hd, good, nd, mem, bound, fits, many, rises, led⟩ := R
  refine Calls.call_function_entry kind_sorted plain_sorted entry_sorted (args_sorted1 _) ?_
  unfold Builtin.«sorted»
  refine wpAny_bind (m := checkCount "sorted" 1 1 _) (wpAny_pure (wpAny_bind (collect_set (A := A.in1) hh ⟨o, ho, hex.1, hd⟩ fits bound rises led fun s1 vs k1 size1 gens1 os1 perm => ?_)))
  have len : vs.length = n := by rw [perm.length_eq, List.length_map, Array.length_toList]; exact many
  have ts : StrsAre vs (vs.map textOf) := strs_of vs fun v hv => by
    obtain ⟨e, he, q⟩ := List.mem_map.mp (perm.mem_iff.mp hv)
    obtain ⟨x, tk, z, _⟩ := good e he
    exact ⟨x, tk, by rw [← q]; exact z⟩
  have permK : (vs.map textOf).Perm (es.toList.map keyT) := by
    have q := perm.map textOf
    rw [List.map_map] at q
    exact q
  refine wpAny_bind (wpAny_newList ?_ (by rw [len, sizeLine_eq]; omega))
  have at1 : (s1.heap.push (seqObj "list" vs.toArray 0)).get? s1.heap.objs.size = some (seqObj "list" vs.toArray 0) := Heap.get?_push_size _ rfl
  refine wpAny_bind (wpAny_holding (wpAny_call_entry slot_list_sort ⟨_, at1, rfl⟩ entry_list_sort (list_sort_treeK strKind_oneLt at1 ts.keysOf (fun v₁ v₂ rest e => keyKind_strs (by rw [← e]; exact ts)) (by rw [len]; exact few) fun st' hp hs => ?_) (args_list_sort _)))
  obtain ⟨ys, g1, g2, g3⟩ := sorted_out_str ts hp hs
  obtain ⟨c, hc⟩ := sortedHeap_at (vs := vs) (out := (arrOf st').map (·.2)) at1
  have permY : ys.Perm (es.toList.map keyT) := g2.trans permK
  refine ⟨.none, rfl, wpAny_pure ⟨_, rfl, fin _ s1.heap.objs.size _ c ys (fun b u z => ?_) gens1 os1 size1 hc g1 g3 (permY.nodup_iff.mpr nd) (fun k => by rw [permY.mem_iff, ← mem k]) ?_⟩⟩
  · have z1 := k1 b u z
    have lt := Heap.lt_size z1
    show (sortedHeap (s1.heap.push (seqObj "list" vs.toArray 0)) s1.heap.objs.size vs ((arrOf st').map (·.2))).get? b = some u
    rw [sortedHeap_old (Nat.ne_of_lt lt) (by rw [size_push']; exact Nat.lt_succ_of_lt lt)]
    exact Heap.get?_push_of_some _ z1
  · rw [permY.length_eq, List.length_map, Array.length_toList]
    exact many
end
/-! ### sorted(set(a text)) as an expression -/
def TxO (P : Program) (w : World) (a : Addr) (S : Str → Bool) (n : Nat) : HO := .ext fun h => TxR P w h a S n
theorem txO_new {w : World} {P : Program} {H : Hp} {h : Heap} {a : Addr} {S : Str → Bool} {n : Nat} (R : TxR P w h a S n) : ObjOk P w H h a (TxO P w a S n) :=
  ⟨R, (let ⟨o, _, _, _, ho, _⟩ := R; ⟨o, ho⟩), fun _ _ z k => z.keep fun o e => k o e⟩
section
variable {X : Cx}
/-- set(a text): a set of its signs -/
def rSetTx (P : Program) (w : World) : List V → Hp → VK → Prop := fun xs H Q => ∃ x : Str, xs = [.str x] ∧ (signsOf x).length ≤ 1000 ∧ ∀ p c, c ≤ (signsOf x).length → H p = none → Q (.ref p) (upd H p (TxO P w p (fun j => decide (j ∈ signsOf x)) c))
theorem cr_setTx (hc : X.calm = true) : CallR X (.type "set") (rSetTx X.prog X.w) := by
  intro pins s σ H xs us Q I r h
  obtain ⟨x, rfl, few, q⟩ := h
  obtain ⟨u, rfl, ru⟩ := vals1 r
  obtain ⟨t, rfl⟩ := (show ∃ t, u = Value.str x t from ru)
  refine call_set_text (I.ok.hd hc) (Nat.lt_of_le_of_lt (Nat.succ_le_succ few) (by decide)) fun h' tk c R le kept => ?_
  have fresh : H s.heap.objs.size = none := I.hok.fresh (Nat.le_refl _)
  exact ⟨.ref s.heap.objs.size, _, I.laid (t' := tk) kept (Nat.le_refl _) (txO_new R), rfl, q _ c le fresh⟩
/-- sorted(such a set): a new list, rising, of its texts -/
def rSortTx (P : Program) (w : World) : List V → Hp → VK → Prop := fun vs H Q => ∃ (a : Addr) (S : Str → Bool) (n : Nat), vs = [.ref a] ∧ H a = some (TxO P w a S n) ∧ n < 64 ∧
  ∀ (ys : List Str) (p : Addr), sortedS ys = true → ys.Nodup → (∀ k, k ∈ ys ↔ S k = true) → ys.length = n → H p = none → Q (.ref p) (upd H p (.lst (ys.map V.str)))
theorem cr_sortTx (hc : X.calm = true) : CallR X (.builtin "sorted") (rSortTx X.prog X.w) := by
  intro pins s σ H vs us Q I r h
  obtain ⟨a, S, n, rfl, ha, few, q⟩ := h
  have R : TxR X.prog X.w s.heap a S n := (show ObjOk X.prog X.w H s.heap a (.ext fun h => TxR X.prog X.w h a S n) from I.hok a _ ha).1
  rw [Vals.ref1 r]
  refine sorted_texts R (I.ok.hd hc) few fun s' p out c ys kept g o new at_ st so nd mem len => ?_
  have fits : (ys.map V.str).length ≤ sizeLine := by rw [List.length_map, len, sizeLine_eq]; omega
  have fresh : H p = none := I.hok.fresh new
  have J : Inv X pins σ (upd H p (.lst (ys.map V.str))) { s with heap := s'.heap, gens := s'.gens, drawn := s'.drawn, toks := s'.toks } :=
    I.call (ch := []) (Un.laid kept new fresh) (I.hok.laid kept new ⟨fits, out.toList, c, vals_of_strs st, at_⟩) (by rw [g]; exact I.bare) (fun _ z => nomatch z)
  have e : s' = { s with heap := s'.heap, gens := s'.gens, drawn := s'.drawn, toks := s'.toks } := by
    cases s'
    cases s
    cases o
    rfl
  rw [e]
  exact ⟨.ref p, _, J, rfl, q ys p so nd mem len fresh⟩
end
end L2

namespace K04
open PySem PySem.Spec PyProof.Rows PySem.ErrX L2
/-! ### the text -/
def topS (i : Nat) : Stmt := PySem.Challenge.pw_surelyhas_k04_patterns_refused.main.body.getD i (.Pass ⟨0, 0, 0, 0⟩)
abbrev sReadP : Stmt := topS 13
abbrev sUnited : Stmt := topS 14
abbrev sReader : Stmt := topS 15
abbrev sPattern : Stmt := topS 19
abbrev sPool : Stmt := topS 21
abbrev sDraw : Stmt := topS 22
abbrev sTree : Stmt := topS 23
abbrev sText : Stmt := topS 24
abbrev sKinds : Stmt := topS 25
abbrev sTold : Stmt := topS 27
abbrev sBad : Stmt := topS 28
abbrev sLaw : Stmt := topS 29
abbrev rInit : Stmt := inClass sReader 0
abbrev rRead : Stmt := inClass sReader 1
abbrev rAhead : Stmt := inClass sReader 2
abbrev rTaken : Stmt := inClass sReader 3
abbrev rTakes : Stmt := inClass sReader 4
abbrev rExpr : Stmt := inClass sReader 5
abbrev rBranch : Stmt := inClass sReader 6
abbrev rJoined : Stmt := inClass sReader 7
abbrev rItem : Stmt := inClass sReader 8
abbrev rAtom : Stmt := inClass sReader 9
abbrev rPos : Stmt := inClass sReader 10
abbrev rClass : Stmt := inClass sReader 11
abbrev rLink : Stmt := inClass sReader 12
abbrev pInit : Stmt := inClass sPattern 0
/-! ### small things -/
theorem same_upd {H : Hp} {p : Addr} {o : HO} (h : H p = none) : Same H (upd H p o) := fun b x e => by
  rw [upd_ne (ne_of_none e h)]
  exact e
theorem same_refl {H : Hp} : Same H H := fun _ _ e => e
theorem small {n : Nat} (h : n ≤ 1000) : n ≤ sizeLine := Nat.le_trans h (by decide)
theorem iteT' {p q : Prop} (h : p) : if true = true then p else q := h
theorem pe_str1 {X : Cx} {x z : Str} {t : Tok} {pos : Pos} (hm : X.mg x = some (.str z t)) (hg : Gl X x := by rfl) (hdb : (x == ("__debug__" : Str)) = false := by decide) : PE X (.Name x pos) (tC (.str z)) := pe_glob (v := .str z) hg hm ⟨t, rfl⟩ hdb
theorem pe_int1 {X : Cx} {x : Str} {i : Int} {t : Tok} {pos : Pos} (hm : X.mg x = some (.int i t)) (hg : Gl X x := by rfl) (hdb : (x == ("__debug__" : Str)) = false := by decide) : PE X (.Name x pos) (tC (.int i)) := pe_glob (v := .int i) hg hm ⟨t, rfl⟩ hdb
theorem boot_tuple : bootBuiltins "tuple" = some (.type "tuple") := by decide +kernel
theorem boot_set : bootBuiltins "set" = some (.type "set") := by decide +kernel
theorem boot_sorted : bootBuiltins "sorted" = some (.builtin "sorted") := by decide +kernel
/-! ### tuples of positions -/
def posV (xs : List Nat) : List V := xs.map fun n => V.int (n : Nat)
theorem posV_eq (xs : List Nat) : posV xs = (xs.map fun n => ((n : Nat) : Int)).map V.int := by
  unfold posV
  rw [List.map_map]
  rfl
theorem posV_len (xs : List Nat) : (posV xs).length = xs.length := List.length_map _
/-- positions below 16, at most 16 of them -/
def fewN (xs : List Nat) : Prop := xs.length ≤ 16 ∧ ∀ x ∈ xs, x < 16
def TupI (K : PySem.W.Frag) (H : Hp) (a : Addr) (xs : List Nat) : Prop := SqT K H a (posV xs) ∧ fewN xs
theorem same_seqT {K : PySem.W.Frag} {H H' : Hp} {a : Addr} {xs : List V} (e : Same H H') (h : SqT K H a xs) : SqT K H' a xs := by
  rcases h with (h | ⟨o, h⟩) | h
  · exact .inl (.inl (e _ _ h))
  · exact .inl (.inr ⟨o, e _ _ h⟩)
  · exact .inr h
theorem TupI.same {K : PySem.W.Frag} {H H' : Hp} {a : Addr} {xs : List Nat} (s : Same H H') (t : TupI K H a xs) : TupI K H' a xs := ⟨same_seqT s t.1, t.2⟩
def uni (xs ys : List Nat) : List Nat := (List.range 16).filter fun i => decide (i ∈ xs) || decide (i ∈ ys)
theorem uni_few (xs ys : List Nat) : fewN (uni xs ys) := ⟨by
    have z := List.length_filter_le (fun i => decide (i ∈ xs) || decide (i ∈ ys)) (List.range 16)
    rw [List.length_range] at z
    exact z, fun x hx => List.mem_range.mp (List.mem_filter.mp hx).1⟩
theorem sorted_uniq : ∀ xs ys : List Int, xs.Pairwise (· < ·) → ys.Pairwise (· < ·) → (∀ k, k ∈ xs ↔ k ∈ ys) → xs = ys
  | [], [], _, _, _ => rfl
  | [], y :: ys, _, _, h => absurd ((h y).2 List.mem_cons_self) (by simp)
  | x :: xs, [], _, _, h => absurd ((h x).1 List.mem_cons_self) (by simp)
  | x :: xs, y :: ys, hx, hy, h => by
    have px := List.pairwise_cons.mp hx
    have py := List.pairwise_cons.mp hy
    have exy : x = y := by
      have a1 := (h x).1 List.mem_cons_self
      have a2 := (h y).2 List.mem_cons_self
      rcases List.mem_cons.mp a1 with e | e
      · exact e
      · rcases List.mem_cons.mp a2 with e2 | e2
        · exact e2.symm
        · have := py.1 _ e
          have := px.1 _ e2
          omega
    subst exy
    rw [sorted_uniq xs ys px.2 py.2 fun k => ⟨fun m => ?_, fun m => ?_⟩]
    · rcases List.mem_cons.mp ((h k).1 (List.mem_cons_of_mem _ m)) with e | e
      · have := px.1 _ m
        omega
      · exact e
    · rcases List.mem_cons.mp ((h k).2 (List.mem_cons_of_mem _ m)) with e | e
      · have := py.1 _ m
        omega
      · exact e
theorem range_up : ∀ n, (List.range n).Pairwise (· < ·) := fun n => List.pairwise_lt_range
theorem uni_is {xs ys : List Nat} (fx : fewN xs) (fy : fewN ys) {ns : List Int} (up : ns.Pairwise (· < ·)) (mem : ∀ k : Int, k ∈ ns ↔ decide (k ∈ (xs ++ ys).map fun n => ((n : Nat) : Int)) = true) : ns = (uni xs ys).map fun n => ((n : Nat) : Int) := by
  refine sorted_uniq _ _ up ?_ fun k => ?_
  · have z : (uni xs ys).Pairwise (· < ·) := (range_up 16).filter _
    exact List.Pairwise.map _ (fun a b h => by omega) z
  · rw [mem k, decide_eq_true_eq]
    unfold uni
    simp only [List.mem_map, List.mem_append, List.mem_filter, List.mem_range, Bool.or_eq_true, decide_eq_true_eq]
    constructor
    · rintro ⟨n, (h | h), rfl⟩
      · exact ⟨n, ⟨fx.2 n h, .inl h⟩, rfl⟩
      · exact ⟨n, ⟨fy.2 n h, .inr h⟩, rfl⟩
    · rintro ⟨n, ⟨_, h⟩, rfl⟩
      exact ⟨n, h, rfl⟩
theorem cat_all {K : PySem.W.Frag} {a b : Addr} {xs ys : List V} {H : Hp} {Q : VK} (ha : SqT K H a xs) (hb : SqT K H b ys) (fits : xs.length + ys.length ≤ 1000) (q : ∀ c H', Same H H' → SqT K H' c (xs ++ ys) → Q (.ref c) H') : rCatA K (.ref a) (.ref b) H Q := by
  refine ⟨a, b, xs, ys, rfl, rfl, ha, hb, small fits, fun e => ?_, fun _ e => ?_, fun _ _ p np => q p _ (same_upd np) (.of upd_same)⟩
  · subst e
    exact q b H same_refl hb
  · subst e
    exact q a H same_refl (by rw [List.append_nil]; exact ha)
section
variable {X : Cx}
/-- set(a tuple of posV) -/
def rSetI (K : PySem.W.Frag) (w : World) : List V → Hp → VK → Prop := fun xs H Q => ∃ (a : Addr) (ns : List Int), xs = [.ref a] ∧ SqT K H a (ns.map V.int) ∧ ns.length ≤ 60 ∧ ∀ p c, c ≤ ns.length → H p = none → Q (.ref p) (upd H p (SetO w p (fun j => decide (j ∈ ns)) c))
theorem cr_setI (hc : X.calm = true) : CallR X (.type "set") (rSetI X.K X.w) := by
  intro pins s σ H xs us Q I r h
  obtain ⟨a, ns, rfl, ha, hl, q⟩ := h
  rw [Vals.ref1 r]
  obtain ⟨its, rv, pt, hz⟩ := I.tuple ha
  have hi : IntsAre its.toArray.toList ns := ints_of_vals rv
  refine call_set_tupI ns (I.ok.hd hc) pt hi (by unfold scanBound; omega) fun h' tk c R le kept => ?_
  have fresh : H s.heap.objs.size = none := I.hok.fresh (Nat.le_refl _)
  exact ⟨.ref s.heap.objs.size, _, I.laid (t' := tk) kept (Nat.le_refl _) (setO_new R), rfl, q _ c le fresh⟩
end
/-! ### united -/
structure Blt0 (mg : Str → Option Value) : Prop where
  tuple : mg "tuple" = none
  sorted : mg "sorted" = none
  set : mg "set" = none
def spUni (K : PySem.W.Frag) : Sp := fun vs H Q _ => ∃ a b xs ys, vs = [.ref a, .ref b] ∧ TupI K H a xs ∧ TupI K H b ys ∧ ∀ p H', Same H H' → TupI K H' p (uni xs ys) → Q (.ref p) H'
section
variable {P : Program} {w : World} {K : PySem.W.Frag} {mg : Str → Option Value} {base : Heap}
theorem scUni : FnScope ["one", "other"] ["one", "other"] (defScope sUnited) := ⟨rfl, rfl, rfl, by decide +kernel, rfl, by decide +kernel, by decide +kernel⟩
theorem ok_united {f : Addr} {fd : FuncData} (F : Fun K "united" "united" sUnited f fd) (B : Blt0 mg) : FnOk P w K mg base CX0 1 f fd ["one", "other"] (spUni K) := by
  refine F.ok scUni (fun vs H Q E h => ?_) (fun cdv A outer s H vs Q E hr h => ?_)
  · obtain ⟨a, b, xs, ys, rfl, _⟩ := h
    rfl
  · obtain ⟨a, b, xs, ys, rfl, ⟨ha, fx⟩, ⟨hb, fy⟩, q⟩ := h
    refine ⟨_, pss_one (ps_ret (pe_callTy call_tuple_of (by rfl) B.tuple boot_tuple (pa_cons (pe_callB (cr_sortedSet rfl) (by rfl) B.sorted boot_sorted (pa_cons (pe_callTy (cr_setI rfl) (by rfl) B.set boot_set (pa_cons (pe_op op_catA (pv 0) (pv 1)) pa_nil)) pa_nil)) pa_nil))), ?_⟩
    have l1 := posV_len xs
    have l2 := posV_len ys
    have b1 := fx.1
    have b2 := fy.1
    refine ⟨.ref a, rfl, .ref b, rfl, cat_all ha hb (by omega) fun c H1 s1 hc => ?_⟩
    have e : posV xs ++ posV ys = ((xs ++ ys).map fun n => ((n : Nat) : Int)).map V.int := by rw [posV_eq, posV_eq, ← List.map_append, ← List.map_append]
    rw [e] at hc
    refine ⟨c, _, rfl, hc, by rw [List.length_map, List.length_append]; omega, fun d n le nd => ?_⟩
    rw [List.length_map, List.length_append] at le
    refine ⟨d, _, n, rfl, upd_same, by omega, fun ns p up mem len np => ?_⟩
    have s2 := same_upd (o := SetO w d (fun j => decide (j ∈ (xs ++ ys).map fun n => ((n : Nat) : Int))) n) nd
    have s3 := same_upd (o := .lst (ns.map V.int)) np
    refine ⟨p, _, rfl, .inl ⟨.inl (.inl upd_same), fun t nt => ?_⟩⟩
    refine q t _ (s1.trans (s2.trans (s3.trans (same_upd nt)))) ⟨.of ?_, uni_few xs ys⟩
    rw [upd_same, uni_is fx fy up mem, ← posV_eq]
end
end K04

namespace K04
open PySem PySem.Spec PyProof.Rows PySem.ErrX L2
/-! ### the reader's state, as a Lean value -/
structure RS where
  at' : Nat
  L : List Str
  F : List (List Nat)
def sing (c : Nat) : Str := ⟨#[c]⟩
def hdc (sg : Str) (S : RS) : Nat := sg.cps.toList.getD S.at' 10
def RS.adv (S : RS) : RS := { S with at' := S.at' + 1 }
def linkF (F : List (List Nat)) (xs ys : List Nat) : List (List Nat) := xs.foldl (fun F i => F.set i (uni (F.getD i []) ys)) F
/-- the fields of a reader -/
def rf (n : Int) (sg : Str) (k : Int) (l g : Addr) : List (Str × V) := [("_length", .int n), ("_signs", .str sg), ("_at", .int k), ("_letters", .ref l), ("_follows", .ref g)]
theorem rf_length {n k : Int} {sg : Str} {l g : Addr} : (rf n sg k l g).lookup ("_length" : Str) = some (.int n) := rfl
theorem rf_signs {n k : Int} {sg : Str} {l g : Addr} : (rf n sg k l g).lookup ("_signs" : Str) = some (.str sg) := rfl
theorem rf_at {n k : Int} {sg : Str} {l g : Addr} : (rf n sg k l g).lookup ("_at" : Str) = some (.int k) := rfl
theorem rf_letters {n k : Int} {sg : Str} {l g : Addr} : (rf n sg k l g).lookup ("_letters" : Str) = some (.ref l) := rfl
theorem rf_follows {n k : Int} {sg : Str} {l g : Addr} : (rf n sg k l g).lookup ("_follows" : Str) = some (.ref g) := rfl
theorem rf_put {n k k' : Int} {sg : Str} {l g : Addr} : putF "_at" (.int k') (rf n sg k l g) = rf n sg k' l g := rfl
/-- all as it was but at the reader and its two lists -/
def Off (p l g : Addr) (H H' : Hp) : Prop := ∀ b o, b ≠ p → b ≠ l → b ≠ g → H b = some o → H' b = some o
theorem Off.refl {p l g : Addr} {H : Hp} : Off p l g H H := fun _ _ _ _ _ e => e
theorem Off.trans {p l g : Addr} {H H1 H2 : Hp} (a : Off p l g H H1) (b : Off p l g H1 H2) : Off p l g H H2 := fun c o n1 n2 n3 e => b c o n1 n2 n3 (a c o n1 n2 n3 e)
theorem Off.of {p l g : Addr} {H H' : Hp} (s : Same H H') : Off p l g H H' := fun b o _ _ _ e => s b o e
/-- the reader at p, its lists at l and g, in state S -/
structure RD (K : PySem.W.Frag) (C dx : Addr) (n : Int) (sg : Str) (p l g : Addr) (H : Hp) (S : RS) : Prop where
  ins : H p = some (.ins C dx (rf n sg S.at' l g))
  lt : H l = some (.lst (S.L.map V.str))
  fo : ∃ ts : List Addr, H g = some (.lst (ts.map V.ref)) ∧ Paired (fun t xs => TupI K H t xs) ts S.F
  ne : l ≠ g
  inn : S.at' < sg.length
  len : S.F.length = S.L.length
  many : S.L.length ≤ 13
  sl : sg.length ≤ 41
  last : ∀ k, k < sg.length → sg.cps.toList.getD k 10 ≠ 10 → k + 1 < sg.length
section
variable {K : PySem.W.Frag} {C dx p l g : Addr} {n : Int} {sg : Str} {H H' : Hp} {S : RS}
theorem RD.lp (R : RD K C dx n sg p l g H S) : l ≠ p := fun z => by
  have a := R.lt
  rw [z, R.ins] at a
  cases a
theorem RD.gp (R : RD K C dx n sg p l g H S) : g ≠ p := fun z => by
  obtain ⟨ts, a, _⟩ := R.fo
  rw [z, R.ins] at a
  cases a
/-- a tuple is none of the three -/
theorem RD.notT (R : RD K C dx n sg p l g H S) {a : Addr} {u : HO} (h : H a = some u) (no : ∀ c dx fs, u ≠ .ins c dx fs) (nl : ∀ xs, u ≠ .lst xs) : a ≠ p ∧ a ≠ l ∧ a ≠ g := by
  obtain ⟨ts, hg, _⟩ := R.fo
  refine ⟨fun z => ?_, fun z => ?_, fun z => ?_⟩
  · rw [z, R.ins] at h
    exact no _ _ _ (Option.some.inj h).symm
  · rw [z, R.lt] at h
    exact nl _ (Option.some.inj h).symm
  · rw [z, hg] at h
    exact nl _ (Option.some.inj h).symm
theorem RD.seq (R : RD K C dx n sg p l g H S) {H' : Hp} (o : Off p l g H H') {a : Addr} {xs : List V} (h : SqT K H a xs) : SqT K H' a xs := by
  rcases h with (h | ⟨u, h⟩) | h
  · have z := R.notT h (fun _ _ _ q => nomatch q) (fun _ q => nomatch q)
    exact .inl (.inl (o _ _ z.1 z.2.1 z.2.2 h))
  · have z := R.notT h (fun _ _ _ q => nomatch q) (fun _ q => nomatch q)
    exact .inl (.inr ⟨u, o _ _ z.1 z.2.1 z.2.2 h⟩)
  · exact .inr h
theorem RD.tup (R : RD K C dx n sg p l g H S) {H' : Hp} (o : Off p l g H H') {a : Addr} {xs : List Nat} (h : TupI K H a xs) : TupI K H' a xs := ⟨R.seq o h.1, h.2⟩
theorem paired_imp {α β : Type} {F G : α → β → Prop} {as : List α} {bs : List β} (h : Paired F as bs) (i : ∀ a b, F a b → G a b) : Paired G as bs := Paired.mapP h i
/-- what keeps all keeps the reader -/
theorem RD.same (R : RD K C dx n sg p l g H S) (s : Same H H') : RD K C dx n sg p l g H' S := by
  obtain ⟨ts, hg, tp⟩ := R.fo
  exact ⟨s _ _ R.ins, s _ _ R.lt, ⟨ts, s _ _ hg, paired_imp tp fun _ _ t => t.same s⟩, R.ne, R.inn, R.len, R.many, R.sl, R.last⟩
/-- the place moved -/
theorem RD.move (R : RD K C dx n sg p l g H S) {k : Nat} (hk : k < sg.length) : RD K C dx n sg p l g (upd H p (.ins C dx (rf n sg k l g))) { S with at' := k } ∧ Off p l g H (upd H p (.ins C dx (rf n sg k l g))) := by
  have of : Off p l g H (upd H p (.ins C dx (rf n sg k l g))) := fun b o n1 _ _ e => by rw [upd_ne n1]; exact e
  obtain ⟨ts, hg, tp⟩ := R.fo
  exact ⟨⟨upd_same, by rw [upd_ne R.lp]; exact R.lt, ⟨ts, by rw [upd_ne R.gp]; exact hg, paired_imp tp fun _ _ t => R.tup of t⟩, R.ne, hk, R.len, R.many, R.sl, R.last⟩, of⟩
theorem RD.hd_at (R : RD K C dx n sg p l g H S) : atI sg.cps.toList (S.at' : Int) = some (hdc sg S) := by
  have z := R.inn
  have e : sg.length = sg.cps.toList.length := Array.length_toList.symm
  rw [e] at z
  refine atI_nat ?_
  unfold hdc
  rw [List.getD_eq_getElem?_getD, List.getElem?_eq_getElem z]
  rfl
end
/-- the class of readers -/
structure RCls (K : PySem.W.Frag) (C : Addr) : Prop where
  cl : Cls K C
  n1 : NoAttr K C "_length"
  n2 : NoAttr K C "_signs"
  n3 : NoAttr K C "_at"
  n4 : NoAttr K C "_letters"
  n5 : NoAttr K C "_follows"
structure MF (K : PySem.W.Frag) (C : Addr) (nm qual : Str) (st : Stmt) (ps : List Str) (f : Addr) (fd : FuncData) : Prop where
  F : Fun K nm qual st f fd
  M : Meth K C nm f
  b : L2.Binds K fd ps []
def spAhead (K : PySem.W.Frag) (C : Addr) : Sp := fun vs H Q _ => ∃ dx n sg p l g S, vs = [.ref p] ∧ RD K C dx n sg p l g H S ∧ Q (.str (sing (hdc sg S))) H
def spTaken (K : PySem.W.Frag) (C : Addr) : Sp := fun vs H Q _ => ∃ dx n sg p l g S, vs = [.ref p] ∧ RD K C dx n sg p l g H S ∧ hdc sg S ≠ 10 ∧ ∀ H', Off p l g H H' → RD K C dx n sg p l g H' S.adv → Q (.str (sing (hdc sg S))) H'
def spTakes (K : PySem.W.Frag) (C : Addr) : Sp := fun vs H Q _ => ∃ dx n sg p l g S c, vs = [.ref p, .str (sing c)] ∧ RD K C dx n sg p l g H S ∧ c ≠ 10 ∧
  (hdc sg S = c → ∀ H', Off p l g H H' → RD K C dx n sg p l g H' S.adv → Q (.bl true) H') ∧ (hdc sg S ≠ c → Q (.bl false) H)
section
variable {P : Program} {w : World} {K : PySem.W.Frag} {mg : Str → Option Value} {base : Heap} {C : Addr}
theorem scAhead : FnScope ["self"] ["self"] (defScope rAhead) := ⟨rfl, rfl, rfl, by decide +kernel, rfl, by decide +kernel, by decide +kernel⟩
theorem ok_ahead {f : Addr} {fd : FuncData} (m : MF K C "_ahead" "PatternReader._ahead" rAhead ["self"] f fd) (T : RCls K C) : FnOk P w K mg base CX0 1 f fd ["self"] (spAhead K C) := by
  refine m.F.ok scAhead (fun vs H Q E h => ?_) (fun cdv A outer s H vs Q E hr h => ?_)
  · obtain ⟨dx, n, sg, p, l, g, S, rfl, _⟩ := h
    rfl
  · obtain ⟨dx, n, sg, p, l, g, S, rfl, R, q⟩ := h
    refine ⟨_, pss_one (ps_ret (pe_ix ix_str (pe_fld (pv 0) rfl) (pe_fld (pv 0) rfl) (fun _ _ => rfl))), ?_⟩
    exact ⟨_, rfl, p, C, dx, _, _, rfl, R.ins, T.cl, T.n2, rf_signs, _, rfl, p, C, dx, _, _, rfl, R.ins, T.cl, T.n3, rf_at, sg, _, _, rfl, rfl, small (by have := R.sl; omega), R.hd_at, q⟩
theorem scTaken : FnScope ["self"] ["self"] (defScope rTaken) := ⟨rfl, rfl, rfl, by decide +kernel, rfl, by decide +kernel, by decide +kernel⟩
theorem ok_taken {f : Addr} {fd : FuncData} (m : MF K C "_taken" "PatternReader._taken" rTaken ["self"] f fd) (T : RCls K C) : FnOk P w K mg base CX0 1 f fd ["self"] (spTaken K C) := by
  refine m.F.ok scTaken (fun vs H Q E h => ?_) (fun cdv A outer s H vs Q E hr h => ?_)
  · obtain ⟨dx, n, sg, p, l, g, S, rfl, _⟩ := h
    rfl
  · obtain ⟨dx, n, sg, p, l, g, S, rfl, R, n10, q⟩ := h
    refine ⟨_, pss_cons (ps_fldaug (pv 0) pe_int in_add) (pss_one (ps_ret (pe_ix ix_str (pe_fld (pv 0) rfl) (pe_op op_sub (pe_fld (pv 0) rfl) pe_int) (fun _ _ => rfl)))), ?_⟩
    have nx : S.at' + 1 < sg.length := R.last _ R.inn n10
    obtain ⟨R1, o1⟩ := R.move nx
    refine ⟨_, rfl, p, C, dx, _, _, rfl, R.ins, T.cl, T.n3, rf_at, _, _, rfl, rfl, dx, _, R.ins, (by show 5 < 1000; decide), ?_⟩
    have e1 : ((S.at' : Int) + 1) = ((S.at' + 1 : Nat) : Int) := by omega
    rw [rf_put, e1]
    refine ⟨_, rfl, p, C, dx, _, _, rfl, R1.ins, T.cl, T.n2, rf_signs, _, rfl, p, C, dx, _, _, rfl, R1.ins, T.cl, T.n3, rf_at, _, _, rfl, rfl, sg, _, _, rfl, rfl, small (by have := R.sl; omega), ?_, q _ o1 R1⟩
    have e2 : (((S.at' + 1 : Nat) : Int) - 1) = (S.at' : Int) := by omega
    rw [e2]
    exact R.hd_at
theorem scTakes : FnScope ["self", "sign"] ["self", "sign"] (defScope rTakes) := ⟨rfl, rfl, rfl, by decide +kernel, rfl, by decide +kernel, by decide +kernel⟩
theorem ok_takes {f fA : Addr} {fd fdA : FuncData} (m : MF K C "_takes" "PatternReader._takes" rTakes ["self", "sign"] f fd) (T : RCls K C) (mA : MF K C "_ahead" "PatternReader._ahead" rAhead ["self"] fA fdA) : FnOk P w K mg base CX0 2 f fd ["self", "sign"] (spTakes K C) := by
  have GA : FnOk P w K mg base CX0 1 fA fdA ["self"] (spAhead K C) := ok_ahead mA T
  refine m.F.ok scTakes (fun vs H Q E h => ?_) (fun cdv A outer s H vs Q E hr h => ?_)
  · obtain ⟨dx, n, sg, p, l, g, S, c, rfl, _⟩ := h
    rfl
  · obtain ⟨dx, n, sg, p, l, g, S, c, rfl, R, n10, qt, qf⟩ := h
    refine ⟨_, pss_cons (ps_if (pt_cmpR op_ne (pe_meth0 (pv 0) T.cl mA.M GA hr mA.b .nil pass0) (pv 1) (nomark _)) (pss_one (ps_ret pe_bl)) pss_nil) (pss_cons (ps_fldaug (pv 0) pe_int in_add) (pss_one (ps_ret pe_bl))), ?_⟩
    refine ⟨_, rfl, p, dx, _, rfl, R.ins, rfl, dx, n, sg, p, l, g, S, rfl, R, _, rfl, rfl, _, rfl, ?_⟩
    by_cases e : hdc sg S = c
    · subst e
      rw [show (!decide (V.str (sing (hdc sg S)) = V.str (sing (hdc sg S)))) = false from by rw [decide_eq_true rfl]; rfl]
      have nx : S.at' + 1 < sg.length := R.last _ R.inn n10
      obtain ⟨R1, o1⟩ := R.move nx
      refine iteF ⟨_, rfl, p, C, dx, _, _, rfl, R.ins, T.cl, T.n3, rf_at, _, _, rfl, rfl, dx, _, R.ins, (by show 5 < 1000; decide), ?_⟩
      have e1 : ((S.at' : Int) + 1) = ((S.at' + 1 : Nat) : Int) := by omega
      rw [rf_put, e1]
      exact qt rfl _ o1 R1
    · have ne : ¬ V.str (sing (hdc sg S)) = V.str (sing c) := fun z => e (by injection z with z; unfold sing at z; injection z with z; injection z with z; injection z with z)
      rw [show (!decide (V.str (sing (hdc sg S)) = V.str (sing c))) = true from by rw [decide_eq_false ne]; rfl]
      exact iteT (qf e)
end
end K04

namespace K04
open PySem PySem.Spec PyProof.Rows PySem.ErrX L2
theorem sing_inj {c d : Nat} (h : sing c = sing d) : c = d := by
  have e : [c] = [d] := congrArg (fun y : Str => y.cps.toList) h
  exact (List.cons.inj e).1
theorem asc_uniq : ∀ xs ys : List Nat, xs.Pairwise (· < ·) → ys.Pairwise (· < ·) → (∀ k, k ∈ xs ↔ k ∈ ys) → xs = ys
  | [], [], _, _, _ => rfl
  | [], y :: ys, _, _, m => absurd ((m y).2 List.mem_cons_self) (by simp)
  | x :: xs, [], _, _, m => absurd ((m x).1 List.mem_cons_self) (by simp)
  | x :: xs, y :: ys, hx, hy, m => by
    obtain ⟨hx1, hx2⟩ := List.pairwise_cons.mp hx
    obtain ⟨hy1, hy2⟩ := List.pairwise_cons.mp hy
    have e : x = y := by
      rcases List.mem_cons.mp ((m x).1 List.mem_cons_self) with a | a
      · exact a
      · rcases List.mem_cons.mp ((m y).2 List.mem_cons_self) with b | b
        · exact b.symm
        · have := hx1 y b
          have := hy1 x a
          omega
    subst e
    rw [asc_uniq xs ys hx2 hy2 fun k => ?_]
    have mk := m k
    rw [List.mem_cons, List.mem_cons] at mk
    constructor
    · intro a
      rcases mk.1 (.inr a) with b | b
      · have := hx1 k a
        omega
      · exact b
    · intro a
      rcases mk.2 (.inr a) with b | b
      · have := hy1 k a
        omega
      · exact b
theorem rise_le : ∀ (l : List Nat) (p : Nat), risingS (sing p) (l.map sing) = true → (p :: l).Pairwise (· ≤ ·)
  | [], p, _ => List.pairwise_singleton _ _
  | x :: l, p, h => by
    have h' : (!ltCps [x] [p] && risingS (sing x) (l.map sing)) = true := h
    rw [Bool.and_eq_true] at h'
    have ih := rise_le l x h'.2
    have px : p ≤ x := by
      have z : ltCps [x] [p] = false := by
        cases q : ltCps [x] [p] with
        | false => rfl
        | true =>
          rw [q] at h'
          exact absurd h'.1 (by decide)
      by_cases y : x < p
      · have z2 : ltCps [x] [p] = true := by simp [ltCps, y]
        rw [z2] at z
        cases z
      · omega
    refine List.pairwise_cons.mpr ⟨fun k hk => ?_, ih⟩
    rcases List.mem_cons.mp hk with e | e
    · omega
    · have := (List.pairwise_cons.mp ih).1 k e
      omega
theorem sorted_le (l : List Nat) (h : sortedS (l.map sing) = true) : l.Pairwise (· ≤ ·) := by
  cases l with
  | nil => exact List.Pairwise.nil
  | cons x l => exact rise_le l x h
theorem lt_of : ∀ l : List Nat, l.Pairwise (· ≤ ·) → l.Nodup → l.Pairwise (· < ·)
  | [], _, _ => List.Pairwise.nil
  | x :: l, h, d => by
    obtain ⟨h1, h2⟩ := List.pairwise_cons.mp h
    obtain ⟨d1, d2⟩ := List.nodup_cons.mp d
    refine List.pairwise_cons.mpr ⟨fun y hy => ?_, lt_of l h2 d2⟩
    have a := h1 y hy
    have b : x ≠ y := fun z => d1 (z ▸ hy)
    omega
theorem joinL_sing : ∀ cs : List Nat, TL.joinL [] (cs.map fun c => [c]) = cs
  | [] => rfl
  | [_] => rfl
  | c :: d :: cs => by
    have ih := joinL_sing (d :: cs)
    show [c] ++ ([] ++ TL.joinL [] ((d :: cs).map fun c => [c])) = c :: d :: cs
    rw [ih]
    rfl
theorem join_sing (cs : List Nat) : (Txt.join "" (cs.map sing)).cps.toList = cs := by
  rw [TL.join_eq]
  show TL.tl (Str.join "" (cs.map sing)) = cs
  rw [TL.tl_join, List.map_map]
  exact joinL_sing cs
theorem total_le : ∀ (ws : List Str) (n : Nat), (∀ w ∈ ws, w.length ≤ n) → (ws.map (·.length)).sum ≤ ws.length * n
  | [], n, _ => by simp
  | w :: ws, n, h => by
    have ih := total_le ws n fun y hy => h y (List.mem_cons_of_mem _ hy)
    have h1 := h w List.mem_cons_self
    rw [List.map_cons, List.sum_cons, List.length_cons, Nat.succ_mul]
    omega

def abc : Str := "abcdefghijklmnopqrstuvwxyz"
/-- the letters of a class, in their order -/
def sortN (xs : List Nat) : List Nat := abc.cps.toList.filter fun c => decide (c ∈ xs)
def strN (xs : List Nat) : Str := ⟨xs.toArray⟩
theorem abc_up : abc.cps.toList.Pairwise (· < ·) := by decide +kernel
theorem sort_is {xs : List Nat} (nd : xs.Nodup) (low : ∀ c ∈ xs, c ∈ abc.cps.toList) {ys : List Str} (perm : ys.Perm (xs.map sing)) (so : sortedS ys = true) : ys = (sortN xs).map sing := by
  obtain ⟨cs, rfl⟩ : ∃ cs : List Nat, ys = cs.map sing := by
    have all : ∀ k ∈ ys, ∃ c, k = sing c := fun k hk => by
      obtain ⟨c, _, e⟩ := List.mem_map.mp (perm.mem_iff.mp hk)
      exact ⟨c, e.symm⟩
    clear so perm
    induction ys with
    | nil => exact ⟨[], rfl⟩
    | cons y ys ih =>
      obtain ⟨c, rfl⟩ := all y List.mem_cons_self
      obtain ⟨cs, rfl⟩ := ih fun k hk => all k (List.mem_cons_of_mem _ hk)
      exact ⟨c :: cs, rfl⟩
  have m2 : ∀ c, c ∈ cs ↔ c ∈ xs := fun c => by
    have h := perm.mem_iff (a := sing c)
    rw [List.mem_map, List.mem_map] at h
    exact ⟨fun hc => by obtain ⟨d, hd, e⟩ := h.1 ⟨c, hc, rfl⟩; rw [← sing_inj e]; exact hd, fun hc => by obtain ⟨d, hd, e⟩ := h.2 ⟨c, hc, rfl⟩; rw [← sing_inj e]; exact hd⟩
  have nd2 : cs.Nodup := by
    have z : (cs.map sing).Nodup := perm.nodup_iff.mpr (List.Pairwise.map _ (fun a b h e => h (sing_inj e)) nd)
    exact (List.pairwise_map.mp z).imp fun h e => h (congrArg sing e)
  rw [asc_uniq cs (sortN xs) (lt_of cs (sorted_le cs so) nd2) (abc_up.filter _) fun k => by
    rw [m2 k]
    unfold sortN
    rw [List.mem_filter]
    exact ⟨fun h => ⟨low k h, decide_eq_true h⟩, fun h => of_decide_eq_true h.2⟩]
theorem join_signs (cs : List Nat) : Txt.join "" (cs.map sing) = strN cs := by
  have z := join_sing cs
  have e : (Txt.join "" (cs.map sing)).cps = cs.toArray := by
    have z2 := congrArg List.toArray z
    rw [Array.toArray_toList] at z2
    exact z2
  unfold strN
  rw [← e]
theorem inV_sing (c : Nat) : ∀ xs : List Nat, inV (.str (sing c)) ((xs.map sing).map V.str) = decide (c ∈ xs) := fun xs => by
  induction xs with
  | nil => rfl
  | cons x xs ih =>
    show (eqV (.str (sing x)) (.str (sing c)) || inV (.str (sing c)) ((xs.map sing).map V.str)) = _
    rw [ih]
    show ((sing x == sing c) || decide (c ∈ xs)) = _
    by_cases e : x = c
    · subst e
      have z : (sing x == sing x) = true := beq_iff_eq.mpr rfl
      rw [z, Bool.true_or, decide_eq_true (List.mem_cons_self)]
    · have z : (sing x == sing c) = false := Bool.eq_false_iff.mpr fun q => e (sing_inj (beq_iff_eq.mp q))
      rw [z, Bool.false_or]
      refine decide_eq_decide.mpr ?_
      rw [List.mem_cons]
      exact ⟨.inr, fun h => h.elim (fun q => absurd q.symm e) id⟩
theorem flat_strs : ∀ xs : List Str, (xs.map V.str).all flatV = true
  | [] => rfl
  | _ :: xs => flat_strs xs
end K04

namespace K04
open PySem PySem.Spec PyProof.Rows PySem.ErrX L2
theorem paired_get {α β : Type} {F : α → β → Prop} : ∀ {as : List α} {bs : List β}, Paired F as bs → ∀ i, i < bs.length → ∃ a b, as[i]? = some a ∧ bs[i]? = some b ∧ F a b
  | _, _, .nil, i, h => absurd h (Nat.not_lt_zero _)
  | _, _, .cons r _, 0, _ => ⟨_, _, rfl, rfl, r⟩
  | _, _, .cons _ rs, i + 1, h => paired_get rs i (Nat.lt_of_succ_lt_succ h)
theorem paired_set {α β : Type} {F : α → β → Prop} : ∀ {as : List α} {bs : List β}, Paired F as bs → ∀ i a b, F a b → Paired F (as.set i a) (bs.set i b)
  | _, _, .nil, i, _, _, _ => .nil
  | _, _, .cons r rs, 0, _, _, h => .cons h rs
  | _, _, .cons r rs, i + 1, _, _, h => .cons r (paired_set rs i _ _ h)
theorem paired_snoc {α β : Type} {F : α → β → Prop} {a : α} {b : β} (h : F a b) : ∀ {as : List α} {bs : List β}, Paired F as bs → Paired F (as ++ [a]) (bs ++ [b])
  | _, _, .nil => .cons h .nil
  | _, _, .cons r rs => .cons r (paired_snoc h rs)
theorem paired_len {α β : Type} {F : α → β → Prop} {as : List α} {bs : List β} (h : Paired F as bs) : as.length = bs.length := Paired.length h
theorem ixN_n {n j : Nat} (hj : j < n) : ixN n (j : Int) = some j := by
  unfold ixN
  rw [if_pos (by omega), if_pos (by omega), Int.toNat_natCast]
theorem linkF_len (ys : List Nat) : ∀ (xs : List Nat) (F : List (List Nat)), (linkF F xs ys).length = F.length
  | [], _ => rfl
  | x :: xs, F => by
    show (linkF (F.set x _) xs ys).length = _
    rw [linkF_len ys xs, List.length_set]
theorem linkF_snoc (F : List (List Nat)) (xs ys : List Nat) (x : Nat) : linkF F (xs ++ [x]) ys = (linkF F xs ys).set x (uni ((linkF F xs ys).getD x []) ys) := by
  unfold linkF
  rw [List.foldl_append]
  rfl
section
variable {K : PySem.W.Frag} {C dx p l g : Addr} {n : Int} {sg : Str} {H H' : Hp} {S : RS}
/-- a place of the follows changed -/
theorem RD.setF (R : RD K C dx n sg p l g H S) {ts : List Addr} (hg : H g = some (.lst (ts.map V.ref))) (tp : Paired (fun t xs => TupI K H t xs) ts S.F) {k : Nat} {q : Addr} {zs : List Nat} (hq : TupI K H q zs) :
    RD K C dx n sg p l g (upd H g (.lst ((ts.map V.ref).set k (.ref q)))) { S with F := S.F.set k zs } ∧ Off p l g H (upd H g (.lst ((ts.map V.ref).set k (.ref q)))) := by
  have of : Off p l g H (upd H g (.lst ((ts.map V.ref).set k (.ref q)))) := fun b o _ _ n3 e => by rw [upd_ne n3]; exact e
  refine ⟨⟨?_, ?_, ⟨ts.set k q, ?_, ?_⟩, R.ne, R.inn, ?_, R.many, R.sl, R.last⟩, of⟩
  · rw [upd_ne R.gp.symm]; exact R.ins
  · rw [upd_ne R.ne]; exact R.lt
  · rw [upd_same, List.map_set]
  · exact paired_imp (paired_set tp k q zs hq) fun _ _ t => R.tup of t
  · rw [List.length_set]; exact R.len
/-- a position more: its letters, and nothing that follows it yet -/
theorem RD.more (R : RD K C dx n sg p l g H S) (room : S.L.length ≤ 12) {ts : List Addr} (hg : H g = some (.lst (ts.map V.ref))) (tp : Paired (fun t xs => TupI K H t xs) ts S.F) {z : Str} {q : Addr} (hq : TupI K H q []) :
    RD K C dx n sg p l g (upd (upd H l (.lst (S.L.map V.str ++ [.str z]))) g (.lst (ts.map V.ref ++ [.ref q]))) { S with L := S.L ++ [z], F := S.F ++ [[]] } ∧ Off p l g H (upd (upd H l (.lst (S.L.map V.str ++ [.str z]))) g (.lst (ts.map V.ref ++ [.ref q]))) := by
  have of : Off p l g H (upd (upd H l (.lst (S.L.map V.str ++ [.str z]))) g (.lst (ts.map V.ref ++ [.ref q]))) := fun b o _ n2 n3 e => by rw [upd_ne n3, upd_ne n2]; exact e
  refine ⟨⟨?_, ?_, ⟨ts ++ [q], ?_, ?_⟩, R.ne, R.inn, ?_, ?_, R.sl, R.last⟩, of⟩
  · rw [upd_ne R.gp.symm, upd_ne R.lp.symm]; exact R.ins
  · rw [upd_ne R.ne, upd_same, List.map_append]; rfl
  · rw [upd_same, List.map_append]; rfl
  · exact paired_imp (paired_snoc hq tp) fun _ _ t => R.tup of t
  · rw [List.length_append, List.length_append, R.len]; rfl
  · rw [List.length_append]; exact Nat.succ_le_succ room
end
def spLink (K : PySem.W.Frag) (C : Addr) : Sp := fun vs H Q _ => ∃ dx n sg p l g S a b xs ys, vs = [.ref p, .ref a, .ref b] ∧ RD K C dx n sg p l g H S ∧ TupI K H a xs ∧ TupI K H b ys ∧ (∀ x ∈ xs, x < S.F.length) ∧
  ∀ H', Off p l g H H' → RD K C dx n sg p l g H' { S with F := linkF S.F xs ys } → Q .non H'
section
variable {P : Program} {w : World} {K : PySem.W.Frag} {mg : Str → Option Value} {base : Heap} {C : Addr}
theorem scLink : FnScope ["self", "ends", "begins", "position"] ["self", "ends", "begins"] (defScope rLink) := ⟨rfl, rfl, rfl, by decide +kernel, rfl, by decide +kernel, by decide +kernel⟩
theorem ok_link {f fU : Addr} {fd fdU : FuncData} (m : MF K C "_link" "PatternReader._link" rLink ["self", "ends", "begins"] f fd) (T : RCls K C) (B : Blt0 mg) (FU : Fun K "united" "united" sUnited fU fdU) (bU : L2.Binds K fdU ["one", "other"] []) (gU : mg "united" = some (.ref fU)) : FnOk P w K mg base CX0 2 f fd ["self", "ends", "begins"] (spLink K C) := by
  have GU : FnOk P w K mg base CX0 1 fU fdU ["one", "other"] (spUni K) := ok_united FU B
  refine m.F.ok scLink (fun vs H Q E h => ?_) (fun cdv A outer s H vs Q E hr h => ?_)
  · obtain ⟨dx, n, sg, p, l, g, S, a, b, xs, ys, rfl, _⟩ := h
    rfl
  · obtain ⟨dx, n, sg, p, l, g, S, a, b, xs, ys, rfl, R, ta, tb, bnd, q⟩ := h
    refine ⟨_, pss_one (ps_for PassesOwn.never rfl (pi_tup (pv 1)) (pg_name (i := 3) scLink.nd rfl (.inl rfl)) (pss_one (ps_asg (pe_call GU hr (by rfl) gU FU.kp bU .nil pass0 (pa_cons (pe_ix ix_list (pe_fld (pv 0) rfl) (pv 3) (fun _ _ => rfl)) (pa_cons (pv 2) pa_nil))) (pg_sub (pe_fld (pv 0) rfl) (pv 3) set_list)))), ?_⟩
    have lx := posV_len xs
    refine ⟨.ref a, rfl, a, rfl, ⟨_, ta.1⟩, for_tup (K := K) (a := a) (xs := posV xs) (fun i σ H' => ∃ y, σ = [some (.ref p), some (.ref a), some (.ref b), y] ∧ Off p l g H H' ∧ RD K C dx n sg p l g H' { S with F := linkF S.F (xs.take i) ys })
      ⟨_, rfl, Off.refl, R⟩ (fun i σ H' _ ⟨_, _, o, R'⟩ => R.seq o ta.1) ?_ ?_⟩
    · rintro i x σ H1 hi ⟨y, rfl, o1, R1⟩
      have hi' : i < xs.length := by
        have := (List.getElem?_eq_some_iff.mp hi).1
        omega
      obtain rfl : x = V.int ((xs[i] : Nat) : Int) := by
        unfold posV at hi
        rw [List.getElem?_map, List.getElem?_eq_getElem hi'] at hi
        exact (Option.some.inj hi).symm
      obtain ⟨ts, hg, tp⟩ := R1.fo
      have kb : xs[i] < (linkF S.F (xs.take i) ys).length := by rw [linkF_len]; exact bnd _ (List.getElem_mem hi')
      obtain ⟨t, zs, e1, e2, ht⟩ := paired_get tp xs[i] kb
      have lt := paired_len tp
      have e1' : (ts.map V.ref)[xs[i]]? = some (.ref t) := by rw [List.getElem?_map, e1]; rfl
      refine ⟨_, rfl, p, C, dx, _, _, rfl, R1.ins, T.cl, T.n5, rf_follows, _, rfl, g, ts.map V.ref, _, .ref t, rfl, rfl, SqL.of hg, atI_nat e1', _, rfl, ?_⟩
      refine ⟨t, b, zs, ys, rfl, ht, R.tup o1 tb, fun u H2 s2 hu => ?_⟩
      have R2 := R1.same s2
      have hg2 := s2 _ _ hg
      obtain ⟨R3, o3⟩ := R2.setF (k := xs[i]) hg2 (paired_imp tp fun _ _ z => z.same s2) hu
      refine ⟨_, rfl, p, C, dx, _, _, rfl, R2.ins, T.cl, T.n5, rf_follows, _, rfl, g, ts.map V.ref, _, xs[i], rfl, rfl, hg2, ixN_n (by rw [List.length_map, lt]; exact kb), ?_⟩
      refine ⟨_, rfl, o1.trans ((Off.of s2).trans o3), ?_⟩
      have ef : linkF S.F (xs.take (i + 1)) ys = (linkF S.F (xs.take i) ys).set xs[i] (uni zs ys) := by
        rw [List.take_add_one, List.getElem?_eq_getElem hi', Option.toList_some, linkF_snoc, List.getD_eq_getElem?_getD, e2]
        rfl
      rw [ef]
      exact R3
    · rintro σ H1 ⟨y, rfl, o1, R1⟩
      rw [lx, List.take_length] at R1
      exact q H1 o1 R1
end
end K04

namespace K04
open PySem PySem.Spec PyProof.Rows PySem.ErrX L2
/-! ### a class's letters -/
def inAbc (c : Nat) : Bool := decide (c ∈ abc.cps.toList)
def classL (sg : Str) : Nat → RS → List Nat → Option (RS × List Nat)
  | 0, _, _ => none
  | m + 1, S, fd => if (inAbc (hdc sg S) && !decide (hdc sg S ∈ fd)) = true then classL sg m S.adv (fd ++ [hdc sg S]) else some (S, fd)
/-- what a class tells: its letters, ascending, and the state behind it; or where it goes wrong -/
def classM (sg : Str) (S : RS) : Option (Except Nat (RS × Str)) :=
  match classL sg 50 S [] with
  | none => none
  | some (S1, fd) => some (if fd = [] then .error S1.at' else if hdc sg S1 = 93 then .ok (S1.adv, strN (sortN fd)) else .error S1.at')
theorem abc_no10 : (10 : Nat) ∉ abc.cps.toList := by decide +kernel
theorem abc_len : abc.cps.toList.length = 26 := by decide +kernel
/-- the errors' class -/
structure PErr (K : PySem.W.Frag) (mg : Str → Option Value) (Cb Ib : Addr) : Prop where
  err : ErrTxt K mg "BadPattern" "at" Cb Ib
  ty : PySem.W.typeIn K (.ref Cb) = some (.type "type")
structure Own0 (mg : Str → Option Value) : Prop where
  letters : ∃ t, mg "LETTERS" = some (.str abc t)
  most : ∃ t, mg "MOST_POSITIONS" = some (.int 12 t)
  chars : ∃ t, mg "MOST_CHARACTERS" = some (.int 40 t)
  tend : ∃ t, mg "TEXT_END" = some (.str "\n" t)
  len : mg "len" = none
def Fails (Cb p l g : Addr) (H : Hp) (E : XK) (i : Nat) : Prop := ∀ H1 d, Off p l g H H1 → H1 d = none → E (.ref Cb) (some d) (upd H1 d (.xd [(("at" : Str), .int (i : Nat))]))
theorem Fails.off {Cb p l g : Addr} {H H' : Hp} {E : XK} {i : Nat} (o : Off p l g H H') (f : Fails Cb p l g H E i) : Fails Cb p l g H' E i := fun H1 d o1 nd => f H1 d (o.trans o1) nd
def spClass (K : PySem.W.Frag) (C Cb : Addr) : Sp := fun vs H Q E => ∃ dx n sg p l g S r, vs = [.ref p] ∧ RD K C dx n sg p l g H S ∧ classM sg S = some r ∧
  (∀ i, r = .error i → Fails Cb p l g H E i) ∧ (∀ S' z, r = .ok (S', z) → ∀ H', Off p l g H H' → RD K C dx n sg p l g H' S' → Q (.str z) H')
theorem nodup_few : ∀ (xs ys : List Nat), xs.Nodup → (∀ x ∈ xs, x ∈ ys) → xs.length ≤ ys.length
  | [], ys, _, _ => Nat.zero_le _
  | x :: xs, ys, nd, sub => by
    obtain ⟨n1, n2⟩ := List.nodup_cons.mp nd
    have hx := sub x List.mem_cons_self
    have ih := nodup_few xs (ys.erase x) n2 fun y hy => by
      have ne : y ≠ x := fun z => n1 (z ▸ hy)
      exact (List.mem_erase_of_ne ne).mpr (sub y (List.mem_cons_of_mem _ hy))
    rw [List.length_erase_of_mem hx] at ih
    have : 0 < ys.length := List.length_pos_of_mem hx
    rw [List.length_cons]
    omega
section
variable {K : PySem.W.Frag} {C dx p l g : Addr} {n : Int} {sg : Str} {H H' : Hp} {S : RS}
/-- another list changed -/
theorem RD.other (R : RD K C dx n sg p l g H S) {q : Addr} {ys zs : List V} (hq : H q = some (.lst ys)) (nl : q ≠ l) (ng : q ≠ g) : RD K C dx n sg p l g (upd H q (.lst zs)) S := by
  have np : q ≠ p := fun z => by
    rw [z, R.ins] at hq
    cases hq
  have keep : ∀ t xs, TupI K H t xs → TupI K (upd H q (.lst zs)) t xs := fun t xs h => by
    refine ⟨?_, h.2⟩
    rcases h.1 with (h | ⟨u, h⟩) | h
    · refine .inl (.inl ?_)
      rw [upd_ne fun z => by rw [z, hq] at h; cases h]
      exact h
    · refine .inl (.inr ⟨u, ?_⟩)
      rw [upd_ne fun z => by rw [z, hq] at h; cases h]
      exact h
    · exact .inr h
  obtain ⟨ts, hg, tp⟩ := R.fo
  exact ⟨by rw [upd_ne np.symm]; exact R.ins, by rw [upd_ne nl.symm]; exact R.lt, ⟨ts, by rw [upd_ne ng.symm]; exact hg, paired_imp tp fun t xs h => keep t xs h⟩, R.ne, R.inn, R.len, R.many, R.sl, R.last⟩
theorem Off.new {q : Addr} {o : HO} (of : Off p l g H H') (nq : H q = none) : Off p l g H (upd H' q o) := fun b u n1 n2 n3 e => by
  rw [upd_ne (ne_of_none e nq)]
  exact of b u n1 n2 n3 e
end
section
variable {P : Program} {w : World} {K : PySem.W.Frag} {mg : Str → Option Value} {base : Heap} {C Cb Ib : Addr}
theorem passE {Pp : Program} {ww : World} {N : List Str} {qual : Str} {scope : Scope} {f : Addr} {cd : Value} {A : Around} {outer : List Env} {s : Shared} {H : Hp} {E : XK} : Passes (L2.CX Pp ww) (cxOf (L2.CX Pp ww) Pp ww K mg base N qual scope f cd A outer s H E) E :=
  passes_call (takes_of rfl rfl rfl rfl) (fun _ _ _ _ h => h)
theorem scClass : FnScope ["self", "found"] ["self"] (defScope rClass) := ⟨rfl, rfl, rfl, by decide +kernel, rfl, by decide +kernel, by decide +kernel⟩
theorem ok_class {f fA fT fK : Addr} {fd fdA fdT fdK : FuncData} (m : MF K C "_class_letters" "PatternReader._class_letters" rClass ["self"] f fd) (T : RCls K C) (B : Blt0 mg) (O : Own0 mg) (R0 : PErr K mg Cb Ib)
    (mA : MF K C "_ahead" "PatternReader._ahead" rAhead ["self"] fA fdA) (mT : MF K C "_taken" "PatternReader._taken" rTaken ["self"] fT fdT) (mK : MF K C "_takes" "PatternReader._takes" rTakes ["self", "sign"] fK fdK) : FnOk P w K mg base (L2.CX P w) 3 f fd ["self"] (spClass K C Cb) := by
  have GA : FnOk P w K mg base CX0 1 fA fdA ["self"] (spAhead K C) := ok_ahead mA T
  have GT : FnOk P w K mg base CX0 1 fT fdT ["self"] (spTaken K C) := ok_taken mT T
  have GK : FnOk P w K mg base CX0 2 fK fdK ["self", "sign"] (spTakes K C) := ok_takes mK T mA
  obtain ⟨t1, gl⟩ := O.letters
  refine m.F.okX scClass (fun vs H Q E h => ?_) (fun cdv A outer s H vs Q E hr h => ?_)
  · obtain ⟨dx, n, sg, p, l, g, S, r, rfl, _⟩ := h
    rfl
  · obtain ⟨dx, n, sg, p, l, g, S, r, rfl, R, hm, bad, good⟩ := h
    have h1 : Room 1 _ := hr.mono (by decide)
    refine ⟨_, pss_cons (ps_set (i := 1) scClass.nd rfl (.inl rfl) (pe_lst pa_nil))
      (pss_cons (ps_while (passes_of rfl) (PW.pt (pw_and (pt_cmpR op_in_sign (pe_meth0 (pv 0) T.cl mA.M GA h1 mA.b .nil pass0) (pe_str1 gl) (by rfl)) (pw_and1 (pt_cmpR op_notIn_seq (pe_meth0 (pv 0) T.cl mA.M GA h1 mA.b .nil pass0) (pv 1) (by rfl)))))
        (pss_one (ps_expr (pe_bm PySem.F.plainAttrs_list PySem.F.slot_list_append PySem.F.type_list_append mt_append (pv 1) (pa_cons (pe_meth0 (pv 0) T.cl mT.M GT h1 mT.b .nil pass0) pa_nil)))))
      (pss_cons (ps_if (PW.pt (pw_or (pt_cmpR op_eq (pe_callB call_len_seq (by rfl) O.len PySem.boot_len (pa_cons (pv 1) pa_nil)) pe_int (nomark _)) (pw_or1 (pt_not (pt_val (pe_meth (pv 0) T.cl mK.M GK hr mK.b .nil pass0 (pa_cons pe_str pa_nil)))))))
        (pss_one (ps_raiseErr rfl R0.err R0.ty hr (takes_of rfl rfl rfl rfl) (pa_cons (pe_fld (pv 0) rfl) pa_nil))) pss_nil)
      (pss_one (ps_ret (pe_join pe_str (pe_callB cr_sortedS (by rfl) B.sorted boot_sorted (pa_cons (pv 1) pa_nil))))))), ?_⟩
    obtain ⟨S2, fd2, hl, hr2⟩ : ∃ S2 fd2, classL sg 50 S [] = some (S2, fd2) ∧ r = (if fd2 = [] then .error S2.at' else if hdc sg S2 = 93 then .ok (S2.adv, strN (sortN fd2)) else .error S2.at') := by
      unfold classM at hm
      split at hm
      · cases hm
      · exact ⟨_, _, by assumption, (Option.some.inj hm).symm⟩
    refine ⟨Nat.zero_le _, fun q nq => ?_⟩
    have sq := same_upd (o := .lst []) nq
    have Rq := R.same sq
    have qp : q ≠ p := fun z => by rw [z, R.ins] at nq; cases nq
    have ql : q ≠ l := fun z => by rw [z, R.lt] at nq; cases nq
    have qg : q ≠ g := fun z => by
      obtain ⟨ts, hg, _⟩ := R.fo
      rw [z, hg] at nq
      cases nq
    refine ⟨fun m σ H' => ∃ S1 fd, σ = [some (.ref p), some (.ref q)] ∧ Off p l g H H' ∧ RD K C dx n sg p l g H' S1 ∧ H' q = some (.lst ((fd.map sing).map V.str)) ∧ fd.Nodup ∧ (∀ c ∈ fd, c ∈ abc.cps.toList) ∧ classL sg m S1 fd = some (S2, fd2),
      ⟨50, S, [], rfl, Off.of sq, Rq, upd_same, List.nodup_nil, fun c hc => (by simp at hc), hl⟩, ?_⟩
    rintro m σ H1 ⟨S1, fd, rfl, o1, R1, hq1, nd, low, hl1⟩
    have fdl : fd.length ≤ 26 := by
      have z := nodup_few fd abc.cps.toList nd low
      rw [abc_len] at z
      exact z
    match m, hl1 with
    | 0, hl1 => cases hl1
    | m + 1, hl1 =>
    have step : classL sg (m + 1) S1 fd = if (inAbc (hdc sg S1) && !decide (hdc sg S1 ∈ fd)) = true then classL sg m S1.adv (fd ++ [hdc sg S1]) else some (S1, fd) := rfl
    rw [step] at hl1
    refine ⟨_, rfl, p, dx, _, rfl, R1.ins, rfl, dx, n, sg, p, l, g, S1, rfl, R1, hdc sg S1, abc, rfl, rfl, _, rfl, ?_⟩
    have fin : S1 = S2 → fd = fd2 → (tSeq (tIfS (tOr (tTest (tOp rEq (tCB (fun xs H_1 Q => ∃ p ys, xs = [V.ref p] ∧ (SqL K H_1 p ys ∨ SqT K H_1 p ys) ∧ Q (V.int ↑ys.length) H_1) (tCons (tVar 1) tNil)) (tC (V.int 0))))
            (tNot (tB (tMeth C "_takes" (spTakes K C) [] E0 (tVar 0) (tCons (tC (V.str "]")) tNil))))) (tRaiseErr Cb "at" (fun cls d x H => E cls d H) (tCons (tFld K (tVar 0) "_at") tNil)) tNext)
        (tRet (tM1 (fun x xs H_1 Q => ∃ a p ys, x = V.str a ∧ xs = [V.ref p] ∧ (SqL K H_1 p (List.map V.str ys) ∨ SqT K H_1 p (List.map V.str ys)) ∧ (List.map (fun x => x.length) ys).sum + ys.length * a.length ≤ 16777216 ∧ Q (V.str (Txt.join a ys)) H_1) (tC (V.str ""))
            (tCB (rSortedS K) (tCons (tVar 1) tNil)))))
        { nx := fun x H' => Q V.non H', rt := Q } [some (.ref p), some (.ref q)] H1 := fun eS ef => by
      subst eS ef
      have lenq : ((fd.map sing).map V.str).length = fd.length := by rw [List.length_map, List.length_map]
      have raise : r = .error S1.at' → ∀ H5, Off p l g H H5 → RD K C dx n sg p l g H5 S1 → tRaiseErr Cb "at" (fun cls d x H => E cls d H) (tCons (tFld K (tVar 0) "_at") tNil) { nx := fun x H' => Q V.non H', rt := Q } [some (.ref p), some (.ref q)] H5 := fun e H5 o5 R5 =>
        ⟨_, rfl, p, C, dx, _, _, rfl, R5.ins, T.cl, T.n3, rf_at, _, rfl, fun d nd => bad _ e H5 d o5 nd⟩
      refine ⟨_, rfl, q, _, rfl, .inl (.of hq1), rfl, _, rfl, ?_⟩
      rw [lenq]
      by_cases e : fd = []
      · have e0 : decide (V.int ((fd.length : Nat) : Int) = V.int 0) = true := decide_eq_true (by rw [e]; rfl)
        rw [e0]
        rw [if_pos e] at hr2
        exact iteT (iteT (raise hr2 H1 o1 R1))
      · have e0 : decide (V.int ((fd.length : Nat) : Int) = V.int 0) = false := decide_eq_false fun z => e (by
          injection z with z
          cases fd with
          | nil => rfl
          | cons x xs => rw [List.length_cons] at z; omega)
        rw [e0]
        rw [if_neg e] at hr2
        refine iteF ⟨_, rfl, p, dx, _, rfl, R1.ins, rfl, dx, n, sg, p, l, g, S1, 93, rfl, R1, by decide, fun e2 H2 o2 R2 => ⟨_, rfl, iteF ?_⟩, fun e2 => ⟨_, rfl, iteT ?_⟩⟩
        · rw [if_pos e2] at hr2
          have np : p ≠ q := qp.symm
          have hq2 := o2 _ _ qp ql qg hq1
          refine ⟨⟨_, rfl⟩, _, rfl, q, fd.map sing, rfl, .of hq2, by rw [List.length_map]; omega, fun ys t perm so nt => ?_⟩
          have ey := sort_is nd low perm so
          refine ⟨_, t, ys, rfl, rfl, .inl (.of upd_same), ?_, ?_⟩
          · have t1 := total_le ys 1 fun y hy => by
              rw [ey] at hy
              obtain ⟨c, _, rfl⟩ := List.mem_map.mp hy
              exact Nat.le_refl 1
            have t2 := perm.length_eq
            rw [List.length_map] at t2
            have e1 : ("" : Str).length = 0 := rfl
            rw [e1]
            omega
          · rw [ey, join_signs]
            exact good _ _ hr2 _ ((o1.trans o2).trans (Off.of (same_upd nt))) (R2.same (same_upd nt))
        · rw [if_neg e2] at hr2
          exact raise hr2 H1 o1 R1
    by_cases a1 : decide (hdc sg S1 ∈ abc.cps.toList) = true
    · rw [a1]
      refine iteT ?_
      refine ⟨_, rfl, p, dx, _, rfl, R1.ins, rfl, dx, n, sg, p, l, g, S1, rfl, R1, _, rfl, q, _, rfl, .inl (.of hq1), rfl, flat_strs _, _, rfl, ?_⟩
      rw [if_pos rfl, inV_sing]
      by_cases a2 : hdc sg S1 ∈ fd
      · rw [decide_eq_true a2]
        have c0 : ¬ (inAbc (hdc sg S1) && !decide (hdc sg S1 ∈ fd)) = true := by rw [decide_eq_true a2, Bool.not_true, Bool.and_false]; decide
        rw [if_neg c0] at hl1
        cases hl1
        exact iteF (fin rfl rfl)
      · rw [decide_eq_false a2]
        have c0 : (inAbc (hdc sg S1) && !decide (hdc sg S1 ∈ fd)) = true := by unfold inAbc; rw [decide_eq_false a2, a1]; rfl
        rw [if_pos c0] at hl1
        have no10 : hdc sg S1 ≠ 10 := fun z => abc_no10 (z ▸ of_decide_eq_true a1)
        refine iteT ⟨_, fun σ' H' h => ⟨m, Nat.lt_succ_self m, h⟩, ?_⟩
        refine ⟨_, rfl, .inl ⟨rfl, _, .of hq1⟩, _, rfl, p, dx, _, rfl, R1.ins, rfl, dx, n, sg, p, l, g, S1, rfl, R1, no10, fun H2 o2 R2 => ?_⟩
        have hq2 := o2 _ _ qp ql qg hq1
        refine ⟨q, _, _, rfl, rfl, hq2, ?_, S1.adv, fd ++ [hdc sg S1], rfl, (o1.trans o2).new nq, R2.other hq2 ql qg, ?_, ?_, ?_, hl1⟩
        · have z : 1000 < sizeLine := by decide
          rw [List.length_map, List.length_map]
          omega
        · rw [upd_same, List.map_append, List.map_append]
          rfl
        · exact List.nodup_append.mpr ⟨nd, by simp, fun x hx y hy e => a2 (by rw [List.mem_singleton.mp hy] at e; exact e ▸ hx)⟩
        · intro c hc
          rcases List.mem_append.mp hc with z | z
          · exact low c z
          · rw [List.mem_singleton.mp z]
            exact of_decide_eq_true a1
    · have a1' := Bool.eq_false_iff.mpr a1
      rw [a1']
      have c0 : ¬ (inAbc (hdc sg S1) && !decide (hdc sg S1 ∈ fd)) = true := by unfold inAbc; rw [a1', Bool.false_and]; decide
      rw [if_neg c0] at hl1
      cases hl1
      exact iteF (iteF (fin rfl rfl))
end
end K04

namespace K04
open PySem PySem.Spec PyProof.Rows PySem.ErrX L2
/-! ### parts: the positions with which words begin and end, whether the empty word is one -/
abbrev Part := List Nat × List Nat × Bool
abbrev Out := Except Nat (RS × Part)
def RS.more (S : RS) (z : Str) : RS := { S with L := S.L ++ [z], F := S.F ++ [[]] }
def onePart (S : RS) (z : Str) : Out := .ok (S.more z, [S.L.length], [S.L.length], false)
def posM (sg : Str) (S : RS) : Option Out :=
  if hdc sg S = 10 then none else if 12 < S.L.length then none else
  if hdc sg S = 46 then some (onePart S.adv abc) else
  if hdc sg S = 91 then (match classM sg S.adv with
    | none => none
    | some (.error i) => some (.error i)
    | some (.ok (S2, z)) => some (onePart S2 z))
  else some (onePart S.adv (sing (hdc sg S)))
def joinM (S : RS) (row it : Part) : RS × Part := ({ S with F := linkF S.F row.2.1 it.1 }, if row.2.2 = true then uni row.1 it.1 else row.1, if it.2.2 = true then uni row.2.1 it.2.1 else it.2.1, row.2.2 && it.2.2)
def PartAt (K : PySem.W.Frag) (H : Hp) (a : Addr) (k : Nat) (pt : Part) : Prop := ∃ x y, SqT K H a [.ref x, .ref y, .bl pt.2.2] ∧ TupI K H x pt.1 ∧ TupI K H y pt.2.1 ∧ ∀ i ∈ pt.2.1, i < k
theorem PartAt.same {K : PySem.W.Frag} {H H' : Hp} {a : Addr} {k : Nat} {pt : Part} (s : Same H H') (h : PartAt K H a k pt) : PartAt K H' a k pt := by
  obtain ⟨x, y, h1, h2, h3, h4⟩ := h
  exact ⟨x, y, same_seqT s h1, h2.same s, h3.same s, h4⟩
theorem RD.part {K : PySem.W.Frag} {C dx p l g : Addr} {n : Int} {sg : Str} {H H' : Hp} {S : RS} (R : RD K C dx n sg p l g H S) (o : Off p l g H H') {a : Addr} {k k' : Nat} {pt : Part} (le : k ≤ k') (h : PartAt K H a k pt) : PartAt K H' a k' pt := by
  obtain ⟨x, y, h1, h2, h3, h4⟩ := h
  exact ⟨x, y, R.seq o h1, R.tup o h2, R.tup o h3, fun i hi => Nat.lt_of_lt_of_le (h4 i hi) le⟩
/-- what a method promises that reads a part by the model M -/
def spPart (K : PySem.W.Frag) (C Cb : Addr) (M : Str → RS → Option Out) : Sp := fun vs H Q E => ∃ dx n sg p l g S r, vs = [.ref p] ∧ RD K C dx n sg p l g H S ∧ M sg S = some r ∧
  (∀ i, r = .error i → Fails Cb p l g H E i) ∧ (∀ S' pt, r = .ok (S', pt) → ∀ H' a, Off p l g H H' → RD K C dx n sg p l g H' S' → S.F.length ≤ S'.F.length → PartAt K H' a S'.F.length pt → Q (.ref a) H')
theorem fewN_one {k : Nat} (h : k < 16) : fewN [k] := ⟨(by show 1 ≤ 16; decide), fun x hx => by rw [List.mem_singleton.mp hx]; exact h⟩
theorem fewN_nil : fewN [] := ⟨Nat.zero_le _, fun x hx => by simp at hx⟩
theorem classL_L {sg : Str} : ∀ (m : Nat) (S : RS) (fd : List Nat) (S2 : RS) (fd2 : List Nat), classL sg m S fd = some (S2, fd2) → S2.L = S.L
  | 0, _, _, _, _, h => by cases h
  | m + 1, S, fd, S2, fd2, h => by
    unfold classL at h
    split at h
    · show S2.L = S.adv.L
      exact classL_L m S.adv _ S2 _ h
    · cases h
      rfl
theorem classM_L {sg : Str} {S S2 : RS} {z : Str} (h : classM sg S = some (.ok (S2, z))) : S2.L = S.L := by
  unfold classM at h
  split at h
  · cases h
  · rename_i S1 fd q
    have e := Option.some.inj h
    split at e
    · cases e
    · split at e
      · cases e
        show S1.L = S.L
        exact classL_L _ _ _ _ _ q
      · cases e
section
variable {P : Program} {w : World} {K : PySem.W.Frag} {mg : Str → Option Value} {base : Heap} {C Cb Ib : Addr}
theorem scPos : FnScope ["self", "sign", "described", "position"] ["self"] (defScope rPos) := ⟨rfl, rfl, rfl, by decide +kernel, rfl, by decide +kernel, by decide +kernel⟩
theorem ok_pos {f fT fL : Addr} {fd fdT fdL : FuncData} (m : MF K C "_position" "PatternReader._position" rPos ["self"] f fd) (T : RCls K C) (O : Own0 mg)
    (mT : MF K C "_taken" "PatternReader._taken" rTaken ["self"] fT fdT) (mL : MF K C "_class_letters" "PatternReader._class_letters" rClass ["self"] fL fdL) (GL : FnOk P w K mg base (L2.CX P w) 3 fL fdL ["self"] (spClass K C Cb)) : FnOk P w K mg base (L2.CX P w) 4 f fd ["self"] (spPart K C Cb posM) := by
  have GT : FnOk P w K mg base CX0 1 fT fdT ["self"] (spTaken K C) := ok_taken mT T
  obtain ⟨t1, gl⟩ := O.letters
  refine m.F.okX scPos (fun vs H Q E h => ?_) (fun cdv A outer s H vs Q E hr h => ?_)
  · obtain ⟨dx, n, sg, p, l, g, S, r, rfl, _⟩ := h
    rfl
  · obtain ⟨dx, n, sg, p, l, g, S, r, rfl, R, hm, bad, good⟩ := h
    have h1 : Room 1 _ := hr.mono (by decide)
    refine ⟨_, pss_cons (ps_set (i := 1) scPos.nd rfl (.inl rfl) (pe_meth0 (pv 0) T.cl mT.M GT h1 mT.b .nil pass0))
      (pss_cons (ps_if (pt_cmpR op_eq (pv 1) pe_str (nomark _)) (pss_one (ps_set (i := 2) scPos.nd rfl (.inl rfl) (pe_str1 gl)))
        (pss_one (ps_if (pt_cmpR op_eq (pv 1) pe_str (nomark _)) (pss_one (ps_set (i := 2) scPos.nd rfl (.inl rfl) (pe_meth0 (pv 0) T.cl mL.M GL hr mL.b .nil passE))) (pss_one (ps_set (i := 2) scPos.nd rfl (.inl rfl) (pv 1))))))
      (pss_cons (ps_set (i := 3) scPos.nd rfl (.inl rfl) (pe_callB call_len_seq (by rfl) O.len PySem.boot_len (pa_cons (pe_fld (pv 0) rfl) pa_nil)))
      (pss_cons (ps_expr (pe_bm PySem.F.plainAttrs_list PySem.F.slot_list_append PySem.F.type_list_append mt_append (pe_fld (pv 0) rfl) (pa_cons (pv 2) pa_nil)))
      (pss_cons (ps_expr (pe_bm PySem.F.plainAttrs_list PySem.F.slot_list_append PySem.F.type_list_append mt_append (pe_fld (pv 0) rfl) (pa_cons (pe_tup pa_nil) pa_nil)))
      (pss_one (ps_ret (pe_tup (pa_cons (pe_tup (pa_cons (pv 3) pa_nil)) (pa_cons (pe_tup (pa_cons (pv 3) pa_nil)) (pa_cons pe_bl pa_nil)))))))))), ?_⟩
    have no10 : hdc sg S ≠ 10 := fun z => by
      unfold posM at hm
      rw [if_pos z] at hm
      cases hm
    have room : ¬ 12 < S.L.length := fun z => by
      unfold posM at hm
      rw [if_neg no10, if_pos z] at hm
      cases hm
    unfold posM at hm
    rw [if_neg no10, if_neg room] at hm
    refine ⟨_, rfl, p, dx, _, rfl, R.ins, rfl, dx, n, sg, p, l, g, S, rfl, R, no10, fun H1 o1 R1 => ?_⟩
    have fin : ∀ S2 z H2 y1, RD K C dx n sg p l g H2 S2 → Off p l g H H2 → S2.L = S.L → r = onePart S2 z → (tSeq (tAsg (tCB (fun xs H_1 Q => ∃ p ys, xs = [V.ref p] ∧ (SqL K H_1 p ys ∨ SqT K H_1 p ys) ∧ Q (V.int ↑ys.length) H_1) (tCons (tFld K (tVar 0) "_letters") tNil)) (gName 3))
      (tSeq (tDrop (tBM K "list" rAppend (tFld K (tVar 0) "_letters") (tCons (tVar 2) tNil)))
      (tSeq (tDrop (tBM K "list" rAppend (tFld K (tVar 0) "_follows") (tCons (tTup tNil) tNil)))
      (tRet (tTup (tCons (tTup (tCons (tVar 3) tNil)) (tCons (tTup (tCons (tVar 3) tNil)) (tCons (tC (.bl false)) tNil))))))))
        { nx := fun x H' => Q V.non H', rt := Q } [some (.ref p), y1, some (.str z), none] H2 := by
      intro S2 z H2 y1 R2 o2 eL er
      have l12 : S2.L.length ≤ 12 := by rw [eL]; omega
      obtain ⟨ts, hg, tp⟩ := R2.fo
      refine ⟨_, rfl, p, C, dx, _, _, rfl, R2.ins, T.cl, T.n4, rf_letters, l, _, rfl, .inl (.of R2.lt), ?_⟩
      rw [List.length_map]
      refine ⟨_, rfl, p, C, dx, _, _, rfl, R2.ins, T.cl, T.n4, rf_letters, .inl ⟨rfl, _, .of R2.lt⟩, _, rfl, l, _, _, rfl, rfl, R2.lt, ?_, ?_⟩
      · have z : 1000 < sizeLine := by decide
        rw [List.length_map]
        omega
      have hp3 : (upd H2 l (.lst (S2.L.map V.str ++ [.str z]))) p = some (.ins C dx (rf n sg S2.at' l g)) := by rw [upd_ne R2.lp.symm]; exact R2.ins
      have hg3 : (upd H2 l (.lst (S2.L.map V.str ++ [.str z]))) g = some (.lst (ts.map V.ref)) := by rw [upd_ne R2.ne.symm]; exact hg
      refine ⟨_, rfl, p, C, dx, _, _, rfl, hp3, T.cl, T.n5, rf_follows, .inl ⟨rfl, _, .of hg3⟩, Nat.zero_le _, fun u nu => ?_⟩
      have ul : u ≠ l := fun z => by rw [z, upd_same] at nu; cases nu
      have ug : u ≠ g := fun z => by rw [z, hg3] at nu; cases nu
      have nu2 : H2 u = none := by rw [upd_ne ul] at nu; exact nu
      have su := same_upd (o := .tup []) nu2
      have Ru := R2.same su
      obtain ⟨R5, o5⟩ := Ru.more l12 (su _ _ hg) (paired_imp tp fun _ _ t => t.same su) (z := z) (q := u) ⟨.of upd_same, fewN_nil⟩
      refine ⟨g, _, _, rfl, rfl, by rw [upd_ne ug.symm]; exact hg3, ?_, ?_⟩
      · have z : 1000 < sizeLine := by decide
        have z1 := paired_len tp
        have z2 := R2.len
        rw [List.length_map]
        omega
      have comm : upd (upd H2 l (.lst (S2.L.map V.str ++ [.str z]))) u (.tup []) = upd (upd H2 u (.tup [])) l (.lst (S2.L.map V.str ++ [.str z])) := by
        funext b
        by_cases e1 : b = u
        · subst e1
          rw [upd_same, upd_ne ul, upd_same]
        · rw [upd_ne e1]
          by_cases e2 : b = l
          · subst e2
            rw [upd_same, upd_same]
          · rw [upd_ne e2, upd_ne e2, upd_ne e1]
      rw [comm]
      refine ⟨_, rfl, (by show 1 ≤ sizeLine; decide), fun x nx => ⟨_, rfl, (by show 1 ≤ sizeLine; decide), fun y ny => ⟨(by show 3 ≤ sizeLine; decide), fun t nt => ?_⟩⟩⟩
      have sx := same_upd (o := .tup [.int (S2.L.length : Nat)]) nx
      have sy := same_upd (o := .tup [.int (S2.L.length : Nat)]) ny
      have st := same_upd (o := .tup [.ref x, .ref y, .bl false]) nt
      have s3 := sx.trans (sy.trans st)
      refine good _ _ er _ t ((o2.trans (Off.of su)).trans (o5.trans (Off.of s3))) (R5.same s3) ?_ ⟨x, y, .of upd_same, ⟨.of (st _ _ (sy _ _ upd_same)), fewN_one (by omega)⟩, ⟨.of (st _ _ upd_same), fewN_one (by omega)⟩, fun i hi => ?_⟩
      · show S.F.length ≤ (S2.F ++ [[]]).length
        rw [List.length_append, R2.len, R.len, eL]
        omega
      · rw [List.mem_singleton.mp hi]
        show S2.L.length < (S2.F ++ [[]]).length
        rw [List.length_append, R2.len]
        exact Nat.lt_succ_self _
    have teq : ∀ c d : Nat, decide (V.str (sing c) = V.str (sing d)) = decide (c = d) := fun c d => decide_eq_decide.mpr ⟨fun z => sing_inj (by injection z), fun z => by rw [z]⟩
    refine ⟨_, rfl, rfl, _, rfl, ?_⟩
    have z46 : decide (V.str (sing (hdc sg S)) = V.str ".") = decide (hdc sg S = 46) := teq _ 46
    have z91 : decide (V.str (sing (hdc sg S)) = V.str "[") = decide (hdc sg S = 91) := teq _ 91
    rw [z46]
    by_cases e1 : hdc sg S = 46
    · rw [if_pos e1] at hm
      rw [decide_eq_true e1]
      exact iteT (fin S.adv abc H1 _ R1 o1 rfl (Option.some.inj hm).symm)
    · rw [if_neg e1] at hm
      rw [decide_eq_false e1]
      refine iteF ⟨_, rfl, rfl, _, rfl, ?_⟩
      rw [z91]
      by_cases e2 : hdc sg S = 91
      · rw [if_pos e2] at hm
        rw [decide_eq_true e2]
        refine iteT ?_
        obtain ⟨r2, hr2⟩ : ∃ r2, classM sg S.adv = some r2 := by
          cases q : classM sg S.adv with
          | none =>
            rw [q] at hm
            cases hm
          | some r2 => exact ⟨r2, rfl⟩
        rw [hr2] at hm
        refine ⟨_, rfl, p, dx, _, rfl, R1.ins, rfl, dx, n, sg, p, l, g, S.adv, r2, rfl, R1, hr2, fun i ei => ?_, fun S2 z ez H2 o2 R2 => ?_⟩
        · subst ei
          exact (bad i (Option.some.inj hm).symm).off o1
        · subst ez
          exact fin S2 z H2 _ R2 (o1.trans o2) (show S2.L = S.adv.L from classM_L hr2) (Option.some.inj hm).symm
      · rw [if_neg e2] at hm
        rw [decide_eq_false e2]
        exact iteF ⟨_, rfl, fin S.adv _ H1 _ R1 o1 rfl (Option.some.inj hm).symm⟩
theorem scJoin : FnScope ["self", "row", "item", "begins", "ends", "empty", "item_begins", "item_ends", "item_empty"] ["self", "row", "item"] (defScope rJoined) := ⟨rfl, rfl, rfl, by decide +kernel, rfl, by decide +kernel, by decide +kernel⟩
def spJoin (K : PySem.W.Frag) (C : Addr) : Sp := fun vs H Q _ => ∃ dx n sg p l g S a b row it, vs = [.ref p, .ref a, .ref b] ∧ RD K C dx n sg p l g H S ∧ PartAt K H a S.F.length row ∧ PartAt K H b S.F.length it ∧
  ∀ H' c, Off p l g H H' → RD K C dx n sg p l g H' (joinM S row it).1 → PartAt K H' c S.F.length (joinM S row it).2 → Q (.ref c) H'
theorem ok_join {f fK fU : Addr} {fd fdK fdU : FuncData} (m : MF K C "_joined" "PatternReader._joined" rJoined ["self", "row", "item"] f fd) (T : RCls K C) (B : Blt0 mg)
    (mK : MF K C "_link" "PatternReader._link" rLink ["self", "ends", "begins"] fK fdK) (FU : Fun K "united" "united" sUnited fU fdU) (bU : L2.Binds K fdU ["one", "other"] []) (gU : mg "united" = some (.ref fU)) : FnOk P w K mg base CX0 3 f fd ["self", "row", "item"] (spJoin K C) := by
  have GU : FnOk P w K mg base CX0 1 fU fdU ["one", "other"] (spUni K) := ok_united FU B
  have GK : FnOk P w K mg base CX0 2 fK fdK ["self", "ends", "begins"] (spLink K C) := ok_link mK T B FU bU gU
  refine m.F.ok scJoin (fun vs H Q E h => ?_) (fun cdv A outer s H vs Q E hr h => ?_)
  · obtain ⟨dx, n, sg, p, l, g, S, a, b, row, it, rfl, _⟩ := h
    rfl
  · obtain ⟨dx, n, sg, p, l, g, S, a, b, row, it, rfl, R, ha, hb, q⟩ := h
    have h1 : Room 1 _ := hr.mono (by decide)
    refine ⟨_, pss_cons (ps_asg (pv 1) (pg_tup rfl (pgs_cons (pg_name (i := 3) scJoin.nd rfl (.inl rfl)) (pgs_cons (pg_name (i := 4) scJoin.nd rfl (.inl rfl)) (pgs_cons (pg_name (i := 5) scJoin.nd rfl (.inl rfl)) pgs_nil)))))
      (pss_cons (ps_asg (pv 2) (pg_tup rfl (pgs_cons (pg_name (i := 6) scJoin.nd rfl (.inl rfl)) (pgs_cons (pg_name (i := 7) scJoin.nd rfl (.inl rfl)) (pgs_cons (pg_name (i := 8) scJoin.nd rfl (.inl rfl)) pgs_nil)))))
      (pss_cons (ps_expr (pe_meth (pv 0) T.cl mK.M GK hr mK.b .nil pass0 (pa_cons (pv 4) (pa_cons (pv 6) pa_nil))))
      (pss_cons (ps_if (pt_val (pv 5)) (pss_one (ps_set (i := 3) scJoin.nd rfl (.inl rfl) (pe_call GU h1 (by rfl) gU FU.kp bU .nil pass0 (pa_cons (pv 3) (pa_cons (pv 6) pa_nil))))) pss_nil)
      (pss_cons (ps_if (pt_val (pv 8)) (pss_one (ps_set (i := 7) scJoin.nd rfl (.inl rfl) (pe_call GU h1 (by rfl) gU FU.kp bU .nil pass0 (pa_cons (pv 4) (pa_cons (pv 7) pa_nil))))) pss_nil)
      (pss_one (ps_ret (pe_tup (pa_cons (pv 3) (pa_cons (pv 7) (pa_cons (pe_and (pv 5) (pe_one (pv 8))) pa_nil)))))))))), ?_⟩
    obtain ⟨x, y, hrow, hx, hy, bx⟩ := ha
    obtain ⟨x2, y2, hit, hx2, hy2, bx2⟩ := hb
    refine ⟨_, rfl, a, _, rfl, hrow, rfl, _, _, rfl, _, _, rfl, _, _, rfl, rfl, ?_⟩
    refine ⟨_, rfl, b, _, rfl, hit, rfl, _, _, rfl, _, _, rfl, _, _, rfl, rfl, ?_⟩
    refine ⟨_, rfl, p, dx, _, rfl, R.ins, rfl, _, rfl, _, rfl, dx, n, sg, p, l, g, S, y, x2, row.2.1, it.1, rfl, R, hy, hx2, bx, fun H1 o1 R1 => ?_⟩
    have hx1 := R.tup o1 hx
    have hy1 := R.tup o1 hy
    have hx21 := R.tup o1 hx2
    have hy21 := R.tup o1 hy2
    have last : ∀ H2 x' bs, Same H1 H2 → TupI K H2 x' bs → bs = (joinM S row it).2.1 → (tSeq (tIfS (tB (tVar 8)) (tAsg (tCall (spUni K) [] E0 (tCons (tVar 4) (tCons (tVar 7) tNil))) (gName 7)) tNext) (tRet (tTup (tCons (tVar 3) (tCons (tVar 7) (tCons (tAndV (tVar 5) (tVar 8)) tNil))))))
        { nx := fun x H' => Q V.non H', rt := Q } [some (.ref p), some (.ref a), some (.ref b), some (.ref x'), some (.ref y), some (.bl row.2.2), some (.ref x2), some (.ref y2), some (.bl it.2.2)] H2 := by
      intro H2 x' bs s2 hx' eb
      have fin : ∀ H3 y' es, Same H2 H3 → TupI K H3 y' es → es = (joinM S row it).2.2.1 → (tRet (tTup (tCons (tVar 3) (tCons (tVar 7) (tCons (tAndV (tVar 5) (tVar 8)) tNil)))))
          { nx := fun x H' => Q V.non H', rt := Q } [some (.ref p), some (.ref a), some (.ref b), some (.ref x'), some (.ref y), some (.bl row.2.2), some (.ref x2), some (.ref y'), some (.bl it.2.2)] H3 := by
        intro H3 y' es s3 hy' ee
        have done : ∀ t H4, Same H3 H4 → SqT K H4 t [.ref x', .ref y', .bl (row.2.2 && it.2.2)] → Q (.ref t) H4 := fun t H4 s4 ht => by
          have s := s2.trans (s3.trans s4)
          subst eb ee
          refine q H4 t (o1.trans (Off.of s)) (R1.same s) ⟨x', y', ht, hx'.same (s3.trans s4), hy'.same s4, fun i hi => ?_⟩
          have hi' : i ∈ (if it.2.2 = true then uni row.2.1 it.2.1 else it.2.1) := hi
          split at hi'
          · unfold uni at hi'
            rw [List.mem_filter, Bool.or_eq_true, decide_eq_true_eq, decide_eq_true_eq] at hi'
            exact hi'.2.elim (bx i) (bx2 i)
          · exact bx2 i hi'
        refine ⟨_, rfl, _, rfl, _, rfl, row.2.2, rfl, ite2 (fun e => ⟨_, rfl, (by show 3 ≤ sizeLine; decide), fun t nt => ?_⟩) (fun e => ⟨(by show 3 ≤ sizeLine; decide), fun t nt => ?_⟩)⟩
        · refine done t _ (same_upd nt) (.of ?_)
          rw [upd_same, e, Bool.true_and]
        · refine done t _ (same_upd nt) (.of ?_)
          rw [upd_same, Bool.eq_false_iff.mpr e, Bool.false_and]
      refine ⟨_, rfl, it.2.2, rfl, ite2 (fun e => ?_) (fun e => ?_)⟩
      · refine ⟨_, rfl, _, rfl, y, y2, row.2.1, it.2.1, rfl, hy1.same s2, hy21.same s2, fun u H3 s3 hu => fin H3 u _ s3 hu ?_⟩
        show _ = (if it.2.2 = true then uni row.2.1 it.2.1 else it.2.1)
        rw [if_pos e]
      · refine fin H2 y2 _ same_refl (hy21.same s2) ?_
        show _ = (if it.2.2 = true then uni row.2.1 it.2.1 else it.2.1)
        rw [if_neg e]
    refine ⟨_, rfl, row.2.2, rfl, ite2 (fun e => ?_) (fun e => ?_)⟩
    · refine ⟨_, rfl, _, rfl, x, x2, row.1, it.1, rfl, hx1, hx21, fun u H3 s3 hu => last H3 u _ s3 hu ?_⟩
      show _ = (if row.2.2 = true then uni row.1 it.1 else row.1)
      rw [if_pos e]
    · refine last H1 x _ same_refl hx1 ?_
      show _ = (if row.2.2 = true then uni row.1 it.1 else row.1)
      rw [if_neg e]
end
end K04

namespace K04
open PySem PySem.Spec PyProof.Rows PySem.ErrX L2
/-! ### the models of the four methods that call each other -/
def inStars (c : Nat) : Bool := decide (c ∈ ("*+?" : Str).cps.toList)
def inOpen (c : Nat) : Bool := decide (c ∈ (".[(" : Str).cps.toList)
def itemL (sg : Str) : Nat → RS → List Nat → List Nat → Bool → Option Out
  | 0, _, _, _, _ => none
  | m + 1, S, b, e, t => if inStars (hdc sg S) = true then
      itemL sg m (if hdc sg S = 63 then S.adv else { S.adv with F := linkF S.F e b }) b e (if hdc sg S = 43 then t else true)
    else some (.ok (S, b, e, t))
def itemM (A : Str → RS → Option Out) (sg : Str) (S : RS) : Option Out :=
  match A sg S with
  | none => none
  | some (.error i) => some (.error i)
  | some (.ok (S1, b, e, t)) => itemL sg 50 S1 b e t
def branchL (I : Str → RS → Option Out) (sg : Str) : Nat → RS → Part → Option Out
  | 0, _, _ => none
  | m + 1, S, row => if (inAbc (hdc sg S) || inOpen (hdc sg S)) = true then
      (match I sg S with
      | none => none
      | some (.error i) => some (.error i)
      | some (.ok (S1, it)) => branchL I sg m (joinM S1 row it).1 (joinM S1 row it).2)
    else some (.ok (S, row))
def branchM (I : Str → RS → Option Out) (sg : Str) (S : RS) : Option Out := branchL I sg 50 S ([], [], true)
def exprL (B : Str → RS → Option Out) (sg : Str) : Nat → RS → Part → Option Out
  | 0, _, _ => none
  | m + 1, S, pt => if hdc sg S = 124 then
      (match B sg S.adv with
      | none => none
      | some (.error i) => some (.error i)
      | some (.ok (S2, p2)) => exprL B sg m S2 (uni pt.1 p2.1, uni pt.2.1 p2.2.1, pt.2.2 || p2.2.2))
    else some (.ok (S, pt))
def exprM (B : Str → RS → Option Out) (sg : Str) (S : RS) : Option Out :=
  match B sg S with
  | none => none
  | some (.error i) => some (.error i)
  | some (.ok (S1, pt)) => exprL B sg 50 S1 pt
def atomM (X : Str → RS → Option Out) (sg : Str) (S : RS) : Option Out :=
  if hdc sg S = 40 then
    (match X sg S.adv with
    | none => none
    | some (.error i) => some (.error i)
    | some (.ok (S1, pt)) => some (if hdc sg S1 = 41 then .ok (S1.adv, pt) else .error S1.at'))
  else if 12 < S.L.length then some (.error S.at') else posM sg S
def pExpr : Nat → Str → RS → Option Out
  | 0 => fun _ _ => none
  | n + 1 => exprM (branchM (itemM (atomM (pExpr n))))
theorem no10_stars (c : Nat) (h : inStars c = true) : c ≠ 10 := fun z => by
  rw [z] at h
  revert h
  decide +kernel
/-- the row of nothing, that the program holds -/
structure Empty (K : PySem.W.Frag) (mg : Str → Option Value) : Prop where
  row : ∃ a x y, mg "EMPTY_WORD" = some (.ref a) ∧ ∀ H, SqT K H a [.ref x, .ref y, .bl true] ∧ SqT K H x [] ∧ SqT K H y []
theorem teq (c d : Nat) : decide (V.str (sing c) = V.str (sing d)) = decide (c = d) := decide_eq_decide.mpr ⟨fun z => sing_inj (by injection z), fun z => by rw [z]⟩
theorem uni_bnd {xs ys : List Nat} {k : Nat} (hx : ∀ i ∈ xs, i < k) (hy : ∀ i ∈ ys, i < k) : ∀ i ∈ uni xs ys, i < k := fun i hi => by
  unfold uni at hi
  rw [List.mem_filter, Bool.or_eq_true, decide_eq_true_eq, decide_eq_true_eq] at hi
  exact hi.2.elim (hx i) (hy i)
section
variable {P : Program} {w : World} {K : PySem.W.Frag} {mg : Str → Option Value} {base : Heap} {C Cb Ib : Addr}
theorem scItem : FnScope ["self", "begins", "ends", "empty", "sign"] ["self"] (defScope rItem) := ⟨rfl, rfl, rfl, by decide +kernel, rfl, by decide +kernel, by decide +kernel⟩
theorem ok_item {k : Nat} {Mo : Str → RS → Option Out} {f fA fT fK fX fU : Addr} {fd fdA fdT fdK fdX fdU : FuncData} (k3 : 3 ≤ k) (m : MF K C "_item" "PatternReader._item" rItem ["self"] f fd) (T : RCls K C) (B : Blt0 mg)
    (mA : MF K C "_ahead" "PatternReader._ahead" rAhead ["self"] fA fdA) (mT : MF K C "_taken" "PatternReader._taken" rTaken ["self"] fT fdT) (mK : MF K C "_link" "PatternReader._link" rLink ["self", "ends", "begins"] fK fdK)
    (FU : Fun K "united" "united" sUnited fU fdU) (bU : L2.Binds K fdU ["one", "other"] []) (gU : mg "united" = some (.ref fU))
    (mX : MF K C "_atom" "PatternReader._atom" rAtom ["self"] fX fdX) (GX : FnOk P w K mg base (L2.CX P w) k fX fdX ["self"] (spPart K C Cb Mo)) : FnOk P w K mg base (L2.CX P w) (k + 1) f fd ["self"] (spPart K C Cb (itemM Mo)) := by
  have GA : FnOk P w K mg base CX0 1 fA fdA ["self"] (spAhead K C) := ok_ahead mA T
  have GT : FnOk P w K mg base CX0 1 fT fdT ["self"] (spTaken K C) := ok_taken mT T
  have GK : FnOk P w K mg base CX0 2 fK fdK ["self", "ends", "begins"] (spLink K C) := ok_link mK T B FU bU gU
  refine m.F.okX scItem (fun vs H Q E h => ?_) (fun cdv A outer s H vs Q E hr h => ?_)
  · obtain ⟨dx, n, sg, p, l, g, S, r, rfl, _⟩ := h
    rfl
  · obtain ⟨dx, n, sg, p, l, g, S, r, rfl, R, hm, bad, good⟩ := h
    have h1 : Room 1 _ := hr.mono (by omega)
    have h2 : Room 2 _ := hr.mono (by omega)
    refine ⟨_, pss_cons (ps_asg (pe_meth0 (pv 0) T.cl mX.M GX hr mX.b .nil passE) (pg_tup rfl (pgs_cons (pg_name (i := 1) scItem.nd rfl (.inl rfl)) (pgs_cons (pg_name (i := 2) scItem.nd rfl (.inl rfl)) (pgs_cons (pg_name (i := 3) scItem.nd rfl (.inl rfl)) pgs_nil)))))
      (pss_cons (ps_while (passes_of rfl) (pt_cmpR op_in_sign (pe_meth0 (pv 0) T.cl mA.M GA h1 mA.b .nil pass0) pe_str (by rfl))
        (pss_cons (ps_set (i := 4) scItem.nd rfl (.inl rfl) (pe_meth0 (pv 0) T.cl mT.M GT h1 mT.b .nil pass0))
        (pss_cons (ps_if (pt_cmpR op_ne (pv 4) pe_str (nomark _)) (pss_one (ps_expr (pe_meth (pv 0) T.cl mK.M GK h2 mK.b .nil pass0 (pa_cons (pv 2) (pa_cons (pv 1) pa_nil))))) pss_nil)
        (pss_one (ps_if (pt_cmpR op_ne (pv 4) pe_str (nomark _)) (pss_one (ps_set (i := 3) scItem.nd rfl (.inl rfl) pe_bl)) pss_nil)))))
      (pss_one (ps_ret (pe_tup (pa_cons (pv 1) (pa_cons (pv 2) (pa_cons (pv 3) pa_nil))))))), ?_⟩
    obtain ⟨r1, hr1⟩ : ∃ r1, Mo sg S = some r1 := by
      unfold itemM at hm
      cases q : Mo sg S with
      | none =>
        rw [q] at hm
        cases hm
      | some r1 => exact ⟨r1, rfl⟩
    unfold itemM at hm
    rw [hr1] at hm
    refine ⟨_, rfl, p, dx, _, rfl, R.ins, rfl, dx, n, sg, p, l, g, S, r1, rfl, R, hr1, fun i ei => ?_, fun S1 pt ep H1 a o1 R1 le1 hp => ?_⟩
    · subst ei
      exact bad i (Option.some.inj hm).symm
    subst ep
    obtain ⟨b, e, t⟩ := pt
    have hl : itemL sg 50 S1 b e t = some r := hm
    obtain ⟨x, y, hrow, hx, hy, bx⟩ := hp
    refine ⟨a, _, rfl, hrow, rfl, _, _, rfl, _, _, rfl, _, _, rfl, rfl, ?_⟩
    refine ⟨fun m σ H' => ∃ S2 t2 y4, σ = [some (.ref p), some (.ref x), some (.ref y), some (.bl t2), y4] ∧ Off p l g H1 H' ∧ RD K C dx n sg p l g H' S2 ∧ S2.F.length = S1.F.length ∧ itemL sg m S2 b e t2 = some r,
      ⟨50, S1, t, _, rfl, Off.refl, R1, rfl, hl⟩, ?_⟩
    rintro m σ H2 ⟨S2, t2, y4, rfl, o2, R2, eF, hl2⟩
    match m, hl2 with
    | 0, hl2 => cases hl2
    | m + 1, hl2 =>
    have step : itemL sg (m + 1) S2 b e t2 = if inStars (hdc sg S2) = true then itemL sg m (if hdc sg S2 = 63 then S2.adv else { S2.adv with F := linkF S2.F e b }) b e (if hdc sg S2 = 43 then t2 else true) else some (.ok (S2, b, e, t2)) := rfl
    rw [step] at hl2
    refine ⟨_, rfl, p, dx, _, rfl, R2.ins, rfl, dx, n, sg, p, l, g, S2, rfl, R2, hdc sg S2, "*+?", rfl, rfl, _, rfl, ?_⟩
    by_cases st : inStars (hdc sg S2) = true
    · rw [if_pos st] at hl2
      have st' : decide (hdc sg S2 ∈ ("*+?" : Str).cps.toList) = true := st
      rw [st']
      refine iteT ⟨_, fun σ' H' h => ⟨m, Nat.lt_succ_self m, h⟩, ?_⟩
      refine ⟨_, rfl, p, dx, _, rfl, R2.ins, rfl, dx, n, sg, p, l, g, S2, rfl, R2, no10_stars _ st, fun H3 o3 R3 => ?_⟩
      have hx3 := R1.tup (o2.trans o3) hx
      have hy3 := R1.tup (o2.trans o3) hy
      have lastIf : ∀ S4 H4, RD K C dx n sg p l g H4 S4 → Off p l g H1 H4 → S4.F.length = S1.F.length → itemL sg m S4 b e (if hdc sg S2 = 43 then t2 else true) = some r → ∀ D : Ends, (∀ σ H', (∃ S2 t2 y4, σ = [some (.ref p), some (.ref x), some (.ref y), some (.bl t2), y4] ∧ Off p l g H1 H' ∧ RD K C dx n sg p l g H' S2 ∧ S2.F.length = S1.F.length ∧ itemL sg m S2 b e t2 = some r) → D.nx σ H') →
          tIfS (tTest (tOp rNe (tVar 4) (tC (.str "+")))) (tAsg (tC (.bl true)) (gName 3)) tNext D [some (.ref p), some (.ref x), some (.ref y), some (.bl t2), some (.str (sing (hdc sg S2)))] H4 := by
        intro S4 H4 R4 o4 e4 h4 D hD
        refine ⟨_, rfl, rfl, _, rfl, ?_⟩
        rw [show decide (V.str (sing (hdc sg S2)) = V.str "+") = decide (hdc sg S2 = 43) from teq _ 43]
        by_cases c : hdc sg S2 = 43
        · rw [if_pos c] at h4
          rw [decide_eq_true c]
          exact iteF (hD _ _ ⟨S4, t2, _, rfl, o4, R4, e4, h4⟩)
        · rw [if_neg c] at h4
          rw [decide_eq_false c]
          exact iteT (hD _ _ ⟨S4, true, _, rfl, o4, R4, e4, h4⟩)
      refine ⟨_, rfl, rfl, _, rfl, ?_⟩
      rw [show decide (V.str (sing (hdc sg S2)) = V.str "?") = decide (hdc sg S2 = 63) from teq _ 63]
      by_cases c : hdc sg S2 = 63
      · rw [if_pos c] at hl2
        rw [decide_eq_true c]
        exact iteF (lastIf _ H3 R3 (o2.trans o3) eF hl2 _ fun σ' H' h => h)
      · rw [if_neg c] at hl2
        rw [decide_eq_false c]
        refine iteT ⟨_, rfl, p, dx, _, rfl, R3.ins, rfl, _, rfl, _, rfl, dx, n, sg, p, l, g, S2.adv, y, x, e, b, rfl, R3, hy3, hx3, fun i hi => ?_, fun H4 o4 R4 => ?_⟩
        · show i < S2.F.length
          rw [eF]
          exact bx i hi
        · exact lastIf _ H4 R4 ((o2.trans o3).trans o4) (by show (linkF S2.F e b).length = _; rw [linkF_len]; exact eF) hl2 _ fun σ' H' h => h
    · rw [if_neg st] at hl2
      have st' : decide (hdc sg S2 ∈ ("*+?" : Str).cps.toList) = false := Bool.eq_false_iff.mpr st
      rw [st']
      refine iteF ⟨_, rfl, _, rfl, _, rfl, (by show 3 ≤ sizeLine; decide), fun u nu => ?_⟩
      have su := same_upd (o := .tup [.ref x, .ref y, .bl t2]) nu
      exact good S2 (b, e, t2) (Option.some.inj hl2).symm _ u ((o1.trans o2).trans (Off.of su)) (R2.same su) (by rw [eF]; exact le1) ⟨x, y, .of upd_same, (R1.tup o2 hx).same su, (R1.tup o2 hy).same su, fun i hi => by rw [eF]; exact bx i hi⟩
end
end K04

namespace K04
open PySem PySem.Spec PyProof.Rows PySem.ErrX L2
theorem no10_open (c : Nat) (h : (inAbc c || inOpen c) = true) : c ≠ 10 := fun z => by
  rw [z] at h
  revert h
  decide +kernel
section
variable {P : Program} {w : World} {K : PySem.W.Frag} {mg : Str → Option Value} {base : Heap} {C Cb Ib : Addr}
theorem scBranch : FnScope ["self", "row"] ["self"] (defScope rBranch) := ⟨rfl, rfl, rfl, by decide +kernel, rfl, by decide +kernel, by decide +kernel⟩
theorem ok_branch {k : Nat} {Mo : Str → RS → Option Out} {f fA fJ fK fX fU : Addr} {fd fdA fdJ fdK fdX fdU : FuncData} (k3 : 3 ≤ k) (m : MF K C "_branch" "PatternReader._branch" rBranch ["self"] f fd) (T : RCls K C) (B : Blt0 mg) (O : Own0 mg) (Z : Empty K mg)
    (mA : MF K C "_ahead" "PatternReader._ahead" rAhead ["self"] fA fdA) (mJ : MF K C "_joined" "PatternReader._joined" rJoined ["self", "row", "item"] fJ fdJ) (mK : MF K C "_link" "PatternReader._link" rLink ["self", "ends", "begins"] fK fdK)
    (FU : Fun K "united" "united" sUnited fU fdU) (bU : L2.Binds K fdU ["one", "other"] []) (gU : mg "united" = some (.ref fU))
    (mX : MF K C "_item" "PatternReader._item" rItem ["self"] fX fdX) (GX : FnOk P w K mg base (L2.CX P w) k fX fdX ["self"] (spPart K C Cb Mo)) : FnOk P w K mg base (L2.CX P w) (k + 1) f fd ["self"] (spPart K C Cb (branchM Mo)) := by
  have GA : FnOk P w K mg base CX0 1 fA fdA ["self"] (spAhead K C) := ok_ahead mA T
  have GJ : FnOk P w K mg base CX0 3 fJ fdJ ["self", "row", "item"] (spJoin K C) := ok_join mJ T B mK FU bU gU
  obtain ⟨t1, gl⟩ := O.letters
  obtain ⟨ae, xe, ye, ge, he⟩ := Z.row
  refine m.F.okX scBranch (fun vs H Q E h => ?_) (fun cdv A outer s H vs Q E hr h => ?_)
  · obtain ⟨dx, n, sg, p, l, g, S, r, rfl, _⟩ := h
    rfl
  · obtain ⟨dx, n, sg, p, l, g, S, r, rfl, R, hm, bad, good⟩ := h
    have h1 : Room 1 _ := hr.mono (by omega)
    have h3 : Room 3 _ := hr.mono (by omega)
    refine ⟨_, pss_cons (ps_set (i := 1) scBranch.nd rfl (.inl rfl) (pe_glob (v := .ref ae) rfl ge rfl))
      (pss_cons (ps_while (passes_of rfl) (PW.pt (pw_or (pt_cmpR op_in_sign (pe_meth0 (pv 0) T.cl mA.M GA h1 mA.b .nil pass0) (pe_str1 gl) (by rfl)) (pw_or1 (pt_cmpR op_in_sign (pe_meth0 (pv 0) T.cl mA.M GA h1 mA.b .nil pass0) pe_str (by rfl)))))
        (pss_one (ps_set (i := 1) scBranch.nd rfl (.inl rfl) (pe_meth (pv 0) T.cl mJ.M GJ h3 mJ.b .nil pass0 (pa_cons (pv 1) (pa_cons (pe_meth0 (pv 0) T.cl mX.M GX hr mX.b .nil passE) pa_nil))))))
      (pss_one (ps_ret (pv 1)))), ?_⟩
    have hl : branchL Mo sg 50 S ([], [], true) = some r := hm
    refine ⟨fun m σ H' => ∃ S2 row a, σ = [some (.ref p), some (.ref a)] ∧ Off p l g H H' ∧ RD K C dx n sg p l g H' S2 ∧ S.F.length ≤ S2.F.length ∧ PartAt K H' a S2.F.length row ∧ branchL Mo sg m S2 row = some r,
      ⟨50, S, ([], [], true), ae, rfl, Off.refl, R, Nat.le_refl _, ⟨xe, ye, (he H).1, ⟨(he H).2.1, fewN_nil⟩, ⟨(he H).2.2, fewN_nil⟩, fun i hi => by simp at hi⟩, hl⟩, ?_⟩
    rintro m σ H2 ⟨S2, row, a, rfl, o2, R2, le2, hp, hl2⟩
    match m, hl2 with
    | 0, hl2 => cases hl2
    | m + 1, hl2 =>
    have step : branchL Mo sg (m + 1) S2 row = if (inAbc (hdc sg S2) || inOpen (hdc sg S2)) = true then (match Mo sg S2 with | none => none | some (.error i) => some (.error i) | some (.ok (S1, it)) => branchL Mo sg m (joinM S1 row it).1 (joinM S1 row it).2) else some (.ok (S2, row)) := rfl
    rw [step] at hl2
    have goes : (inAbc (hdc sg S2) || inOpen (hdc sg S2)) = true → ∃ N : L2.St → Hp → Prop, (∀ σ' H', N σ' H' → ∃ m', m' < m + 1 ∧ ∃ S2 row a, σ' = [some (.ref p), some (.ref a)] ∧ Off p l g H H' ∧ RD K C dx n sg p l g H' S2 ∧ S.F.length ≤ S2.F.length ∧ PartAt K H' a S2.F.length row ∧ branchL Mo sg m' S2 row = some r) ∧
        tAsg (tMeth C "_joined" (spJoin K C) [] E0 (tVar 0) (tCons (tVar 1) (tCons (tMeth C "_item" (spPart K C Cb Mo) [] E (tVar 0) tNil) tNil))) (gName 1) { nx := N, ct := N, bk := fun σ H' => tRet (tVar 1) { nx := fun x H' => Q V.non H', rt := Q } σ H', rt := Q } [some (.ref p), some (.ref a)] H2 := fun c => by
      rw [if_pos c] at hl2
      obtain ⟨r1, hr1⟩ : ∃ r1, Mo sg S2 = some r1 := by
        cases q : Mo sg S2 with
        | none =>
          rw [q] at hl2
          cases hl2
        | some r1 => exact ⟨r1, rfl⟩
      rw [hr1] at hl2
      refine ⟨_, fun σ' H' h => ⟨m, Nat.lt_succ_self m, h⟩, ?_⟩
      refine ⟨_, rfl, p, dx, _, rfl, R2.ins, rfl, _, rfl, _, rfl, p, dx, _, rfl, R2.ins, rfl, dx, n, sg, p, l, g, S2, r1, rfl, R2, hr1, fun i ei => ?_, fun S3 it ep H3 b o3 R3 le3 hb => ?_⟩
      · subst ei
        exact (bad i (Option.some.inj hl2).symm).off o2
      subst ep
      refine ⟨dx, n, sg, p, l, g, S3, a, b, row, it, rfl, R3, R2.part o3 le3 hp, hb, fun H4 c2 o4 R4 h4 => ?_⟩
      have eF : (joinM S3 row it).1.F.length = S3.F.length := linkF_len _ _ _
      exact ⟨(joinM S3 row it).1, (joinM S3 row it).2, c2, rfl, (o2.trans o3).trans o4, R4, by rw [eF]; omega, by rw [eF]; exact h4, hl2⟩
    have stops : ¬ (inAbc (hdc sg S2) || inOpen (hdc sg S2)) = true → tRet (tVar 1) { nx := fun x H' => Q V.non H', rt := Q } [some (.ref p), some (.ref a)] H2 := fun c => by
      rw [if_neg c] at hl2
      exact ⟨_, rfl, good S2 row (Option.some.inj hl2).symm H2 a o2 R2 le2 hp⟩
    refine ⟨_, rfl, p, dx, _, rfl, R2.ins, rfl, dx, n, sg, p, l, g, S2, rfl, R2, hdc sg S2, abc, rfl, rfl, _, rfl, ?_⟩
    by_cases a1 : inAbc (hdc sg S2) = true
    · have a1' : decide (hdc sg S2 ∈ abc.cps.toList) = true := a1
      rw [a1']
      exact iteT (iteT (goes (by rw [a1, Bool.true_or])))
    · have a1' : decide (hdc sg S2 ∈ abc.cps.toList) = false := Bool.eq_false_iff.mpr a1
      rw [a1']
      refine iteF ⟨_, rfl, p, dx, _, rfl, R2.ins, rfl, dx, n, sg, p, l, g, S2, rfl, R2, hdc sg S2, ".[(", rfl, rfl, _, rfl, ?_⟩
      by_cases a2 : inOpen (hdc sg S2) = true
      · have a2' : decide (hdc sg S2 ∈ (".[(" : Str).cps.toList) = true := a2
        rw [a2']
        exact iteT (goes (by rw [a2, Bool.or_true]))
      · have a2' : decide (hdc sg S2 ∈ (".[(" : Str).cps.toList) = false := Bool.eq_false_iff.mpr a2
        rw [a2']
        exact iteF (stops (by rw [Bool.eq_false_iff.mpr a1, Bool.eq_false_iff.mpr a2]; decide))
theorem scExpr : FnScope ["self", "begins", "ends", "empty", "more_begins", "more_ends", "more_empty"] ["self"] (defScope rExpr) := ⟨rfl, rfl, rfl, by decide +kernel, rfl, by decide +kernel, by decide +kernel⟩
theorem ok_expr {k : Nat} {Mo : Str → RS → Option Out} {f fA fT fX fU : Addr} {fd fdA fdT fdX fdU : FuncData} (k3 : 3 ≤ k) (m : MF K C "_expression" "PatternReader._expression" rExpr ["self"] f fd) (T : RCls K C) (B : Blt0 mg)
    (mA : MF K C "_ahead" "PatternReader._ahead" rAhead ["self"] fA fdA) (mT : MF K C "_takes" "PatternReader._takes" rTakes ["self", "sign"] fT fdT)
    (FU : Fun K "united" "united" sUnited fU fdU) (bU : L2.Binds K fdU ["one", "other"] []) (gU : mg "united" = some (.ref fU))
    (mX : MF K C "_branch" "PatternReader._branch" rBranch ["self"] fX fdX) (GX : FnOk P w K mg base (L2.CX P w) k fX fdX ["self"] (spPart K C Cb Mo)) : FnOk P w K mg base (L2.CX P w) (k + 1) f fd ["self"] (spPart K C Cb (exprM Mo)) := by
  have GU : FnOk P w K mg base CX0 1 fU fdU ["one", "other"] (spUni K) := ok_united FU B
  have GT : FnOk P w K mg base CX0 2 fT fdT ["self", "sign"] (spTakes K C) := ok_takes mT T mA
  refine m.F.okX scExpr (fun vs H Q E h => ?_) (fun cdv A outer s H vs Q E hr h => ?_)
  · obtain ⟨dx, n, sg, p, l, g, S, r, rfl, _⟩ := h
    rfl
  · obtain ⟨dx, n, sg, p, l, g, S, r, rfl, R, hm, bad, good⟩ := h
    have h1 : Room 1 _ := hr.mono (by omega)
    have h2 : Room 2 _ := hr.mono (by omega)
    refine ⟨_, pss_cons (ps_asg (pe_meth0 (pv 0) T.cl mX.M GX hr mX.b .nil passE) (pg_tup rfl (pgs_cons (pg_name (i := 1) scExpr.nd rfl (.inl rfl)) (pgs_cons (pg_name (i := 2) scExpr.nd rfl (.inl rfl)) (pgs_cons (pg_name (i := 3) scExpr.nd rfl (.inl rfl)) pgs_nil)))))
      (pss_cons (ps_while (passes_of rfl) (pt_val (pe_meth (pv 0) T.cl mT.M GT h2 mT.b .nil pass0 (pa_cons pe_str pa_nil)))
        (pss_cons (ps_asg (pe_meth0 (pv 0) T.cl mX.M GX hr mX.b .nil passE) (pg_tup rfl (pgs_cons (pg_name (i := 4) scExpr.nd rfl (.inl rfl)) (pgs_cons (pg_name (i := 5) scExpr.nd rfl (.inl rfl)) (pgs_cons (pg_name (i := 6) scExpr.nd rfl (.inl rfl)) pgs_nil)))))
        (pss_cons (ps_set (i := 1) scExpr.nd rfl (.inl rfl) (pe_call GU h1 (by rfl) gU FU.kp bU .nil pass0 (pa_cons (pv 1) (pa_cons (pv 4) pa_nil))))
        (pss_cons (ps_set (i := 2) scExpr.nd rfl (.inl rfl) (pe_call GU h1 (by rfl) gU FU.kp bU .nil pass0 (pa_cons (pv 2) (pa_cons (pv 5) pa_nil))))
        (pss_one (ps_set (i := 3) scExpr.nd rfl (.inl rfl) (pe_or (pv 3) (pe_one (pv 6)))))))))
      (pss_one (ps_ret (pe_tup (pa_cons (pv 1) (pa_cons (pv 2) (pa_cons (pv 3) pa_nil))))))), ?_⟩
    obtain ⟨r1, hr1⟩ : ∃ r1, Mo sg S = some r1 := by
      unfold exprM at hm
      cases q : Mo sg S with
      | none =>
        rw [q] at hm
        cases hm
      | some r1 => exact ⟨r1, rfl⟩
    unfold exprM at hm
    rw [hr1] at hm
    refine ⟨_, rfl, p, dx, _, rfl, R.ins, rfl, dx, n, sg, p, l, g, S, r1, rfl, R, hr1, fun i ei => ?_, fun S1 pt ep H1 a o1 R1 le1 hp => ?_⟩
    · subst ei
      exact bad i (Option.some.inj hm).symm
    subst ep
    have hl : exprL Mo sg 50 S1 pt = some r := hm
    obtain ⟨x, y, hrow, hx, hy, bx⟩ := hp
    refine ⟨a, _, rfl, hrow, rfl, _, _, rfl, _, _, rfl, _, _, rfl, rfl, ?_⟩
    refine ⟨fun m σ H' => ∃ S2 pt2 x2 y2 z4 z5 z6, σ = [some (.ref p), some (.ref x2), some (.ref y2), some (.bl pt2.2.2), z4, z5, z6] ∧ Off p l g H H' ∧ RD K C dx n sg p l g H' S2 ∧ S.F.length ≤ S2.F.length ∧ TupI K H' x2 pt2.1 ∧ TupI K H' y2 pt2.2.1 ∧ (∀ i ∈ pt2.2.1, i < S2.F.length) ∧ exprL Mo sg m S2 pt2 = some r,
      ⟨50, S1, pt, x, y, _, _, _, rfl, o1, R1, le1, hx, hy, bx, hl⟩, ?_⟩
    rintro m σ H2 ⟨S2, pt2, x2, y2, z4, z5, z6, rfl, o2, R2, le2, hx2, hy2, bx2, hl2⟩
    match m, hl2 with
    | 0, hl2 => cases hl2
    | m + 1, hl2 =>
    have step : exprL Mo sg (m + 1) S2 pt2 = if hdc sg S2 = 124 then (match Mo sg S2.adv with | none => none | some (.error i) => some (.error i) | some (.ok (S2, p2)) => exprL Mo sg m S2 (uni pt2.1 p2.1, uni pt2.2.1 p2.2.1, pt2.2.2 || p2.2.2)) else some (.ok (S2, pt2)) := rfl
    rw [step] at hl2
    refine ⟨_, rfl, p, dx, _, rfl, R2.ins, rfl, dx, n, sg, p, l, g, S2, 124, rfl, R2, by decide, fun e H3 o3 R3 => ⟨_, rfl, iteT ?_⟩, fun e => ⟨_, rfl, iteF ?_⟩⟩
    · rw [if_pos e] at hl2
      refine ⟨_, fun σ' H' h => ⟨m, Nat.lt_succ_self m, h⟩, ?_⟩
      obtain ⟨r2, hr2⟩ : ∃ r2, Mo sg S2.adv = some r2 := by
        cases q : Mo sg S2.adv with
        | none =>
          rw [q] at hl2
          cases hl2
        | some r2 => exact ⟨r2, rfl⟩
      rw [hr2] at hl2
      refine ⟨_, rfl, p, dx, _, rfl, R3.ins, rfl, dx, n, sg, p, l, g, S2.adv, r2, rfl, R3, hr2, fun i ei => ?_, fun S4 p4 ep H4 b o4 R4 le4 hp4 => ?_⟩
      · subst ei
        exact (bad i (Option.some.inj hl2).symm).off (o2.trans o3)
      subst ep
      obtain ⟨x4, y4, hrow4, hx4, hy4, bx4⟩ := hp4
      have o24 := o3.trans o4
      have hx24 := R2.tup o24 hx2
      have hy24 := R2.tup o24 hy2
      have le24 : S2.F.length ≤ S4.F.length := le4
      refine ⟨b, _, rfl, hrow4, rfl, _, _, rfl, _, _, rfl, _, _, rfl, rfl, ?_⟩
      refine ⟨_, rfl, _, rfl, x2, x4, pt2.1, p4.1, rfl, hx24, hx4, fun u H5 s5 hu => ?_⟩
      refine ⟨_, rfl, _, rfl, y2, y4, pt2.2.1, p4.2.1, rfl, hy24.same s5, hy4.same s5, fun v H6 s6 hv => ?_⟩
      have fin : ∀ c, c = (pt2.2.2 || p4.2.2) → ∃ S2_1 pt2_1 x2_1 y2_1 z4 z5 z6, ([some (.ref p), some (.ref u), some (.ref v), some (.bl c), some (.ref x4), some (.ref y4), some (.bl p4.2.2)] : L2.St) = [some (.ref p), some (.ref x2_1), some (.ref y2_1), some (.bl pt2_1.2.2), z4, z5, z6] ∧ Off p l g H H6 ∧ RD K C dx n sg p l g H6 S2_1 ∧ S.F.length ≤ S2_1.F.length ∧ TupI K H6 x2_1 pt2_1.1 ∧ TupI K H6 y2_1 pt2_1.2.1 ∧ (∀ i ∈ pt2_1.2.1, i < S2_1.F.length) ∧ exprL Mo sg m S2_1 pt2_1 = some r := fun c ec => by
        subst ec
        exact ⟨S4, (uni pt2.1 p4.1, uni pt2.2.1 p4.2.1, pt2.2.2 || p4.2.2), u, v, _, _, _, rfl, (o2.trans o24).trans (Off.of (s5.trans s6)), R4.same (s5.trans s6), by omega, hu.same s6, hv, uni_bnd (fun i hi => Nat.lt_of_lt_of_le (bx2 i hi) le24) bx4, hl2⟩
      refine ⟨_, rfl, pt2.2.2, rfl, ite2 (fun e => ?_) (fun e => ⟨_, rfl, ?_⟩)⟩
      · exact fin true (by rw [e, Bool.true_or])
      · exact fin p4.2.2 (by rw [Bool.eq_false_iff.mpr e, Bool.false_or])
    · rw [if_neg e] at hl2
      refine ⟨_, rfl, _, rfl, _, rfl, (by show 3 ≤ sizeLine; decide), fun u nu => ?_⟩
      have su := same_upd (o := .tup [.ref x2, .ref y2, .bl pt2.2.2]) nu
      exact good S2 pt2 (Option.some.inj hl2).symm _ u (o2.trans (Off.of su)) (R2.same su) le2 ⟨x2, y2, .of upd_same, hx2.same su, hy2.same su, bx2⟩
theorem scAtom : FnScope ["self", "inner"] ["self"] (defScope rAtom) := ⟨rfl, rfl, rfl, by decide +kernel, rfl, by decide +kernel, by decide +kernel⟩
theorem ok_atom {k : Nat} {Mo : Str → RS → Option Out} {f fA fT fP fX : Addr} {fd fdA fdT fdP fdX : FuncData} (k3 : 4 ≤ k) (m : MF K C "_atom" "PatternReader._atom" rAtom ["self"] f fd) (T : RCls K C) (O : Own0 mg) (R0 : PErr K mg Cb Ib)
    (mA : MF K C "_ahead" "PatternReader._ahead" rAhead ["self"] fA fdA) (mT : MF K C "_takes" "PatternReader._takes" rTakes ["self", "sign"] fT fdT)
    (mP : MF K C "_position" "PatternReader._position" rPos ["self"] fP fdP) (GP : FnOk P w K mg base (L2.CX P w) 4 fP fdP ["self"] (spPart K C Cb posM))
    (mX : MF K C "_expression" "PatternReader._expression" rExpr ["self"] fX fdX) (GX : FnOk P w K mg base (L2.CX P w) k fX fdX ["self"] (spPart K C Cb Mo)) : FnOk P w K mg base (L2.CX P w) (k + 1) f fd ["self"] (spPart K C Cb (atomM Mo)) := by
  have GT : FnOk P w K mg base CX0 2 fT fdT ["self", "sign"] (spTakes K C) := ok_takes mT T mA
  obtain ⟨t2, gm⟩ := O.most
  refine m.F.okX scAtom (fun vs H Q E h => ?_) (fun cdv A outer s H vs Q E hr h => ?_)
  · obtain ⟨dx, n, sg, p, l, g, S, r, rfl, _⟩ := h
    rfl
  · obtain ⟨dx, n, sg, p, l, g, S, r, rfl, R, hm, bad, good⟩ := h
    have h2 : Room 2 _ := hr.mono (by omega)
    have h4 : Room 4 _ := hr.mono (by omega)
    refine ⟨_, pss_cons (ps_if (pt_val (pe_meth (pv 0) T.cl mT.M GT h2 mT.b .nil pass0 (pa_cons pe_str pa_nil)))
        (pss_cons (ps_set (i := 1) scAtom.nd rfl (.inl rfl) (pe_meth0 (pv 0) T.cl mX.M GX hr mX.b .nil passE))
        (pss_cons (ps_if (pt_not (pt_val (pe_meth (pv 0) T.cl mT.M GT h2 mT.b .nil pass0 (pa_cons pe_str pa_nil)))) (pss_one (ps_raiseErr rfl R0.err R0.ty hr (takes_of rfl rfl rfl rfl) (pa_cons (pe_fld (pv 0) rfl) pa_nil))) pss_nil)
        (pss_one (ps_ret (pv 1))))) pss_nil)
      (pss_cons (ps_if (pt_cmpR op_gt (pe_callB call_len_seq (by rfl) O.len PySem.boot_len (pa_cons (pe_fld (pv 0) rfl) pa_nil)) (pe_int1 gm) (nomark _)) (pss_one (ps_raiseErr rfl R0.err R0.ty hr (takes_of rfl rfl rfl rfl) (pa_cons (pe_fld (pv 0) rfl) pa_nil))) pss_nil)
      (pss_one (ps_ret (pe_meth0 (pv 0) T.cl mP.M GP h4 mP.b .nil passE)))), ?_⟩
    unfold atomM at hm
    refine ⟨_, rfl, p, dx, _, rfl, R.ins, rfl, dx, n, sg, p, l, g, S, 40, rfl, R, by decide, fun e H1 o1 R1 => ⟨_, rfl, iteT ?_⟩, fun e => ⟨_, rfl, iteF ?_⟩⟩
    · rw [if_pos e] at hm
      obtain ⟨r1, hr1⟩ : ∃ r1, Mo sg S.adv = some r1 := by
        cases q : Mo sg S.adv with
        | none =>
          rw [q] at hm
          cases hm
        | some r1 => exact ⟨r1, rfl⟩
      rw [hr1] at hm
      refine ⟨_, rfl, p, dx, _, rfl, R1.ins, rfl, dx, n, sg, p, l, g, S.adv, r1, rfl, R1, hr1, fun i ei => ?_, fun S2 pt ep H2 a o2 R2 le2 hp => ?_⟩
      · subst ei
        exact (bad i (Option.some.inj hm).symm).off o1
      subst ep
      have hm' : r = (if hdc sg S2 = 41 then .ok (S2.adv, pt) else .error S2.at') := (Option.some.inj hm).symm
      refine ⟨_, rfl, p, dx, _, rfl, R2.ins, rfl, dx, n, sg, p, l, g, S2, 41, rfl, R2, by decide, fun e2 H3 o3 R3 => ⟨_, rfl, iteF ?_⟩, fun e2 => ⟨_, rfl, iteT ?_⟩⟩
      · rw [if_pos e2] at hm'
        exact ⟨_, rfl, good _ _ hm' H3 a ((o1.trans o2).trans o3) R3 le2 (R2.part o3 (Nat.le_refl _) hp)⟩
      · rw [if_neg e2] at hm'
        exact ⟨_, rfl, p, C, dx, _, _, rfl, R2.ins, T.cl, T.n3, rf_at, _, rfl, fun d nd => bad _ hm' H2 d (o1.trans o2) nd⟩
    · rw [if_neg e] at hm
      refine ⟨_, rfl, p, C, dx, _, _, rfl, R.ins, T.cl, T.n4, rf_letters, l, _, rfl, .inl (.of R.lt), _, _, rfl, rfl, _, rfl, ?_⟩
      rw [List.length_map]
      by_cases c : 12 < S.L.length
      · rw [if_pos c] at hm
        have c' : decide ((S.L.length : Int) > 12) = true := decide_eq_true (by omega)
        rw [c']
        exact iteT ⟨_, rfl, p, C, dx, _, _, rfl, R.ins, T.cl, T.n3, rf_at, _, rfl, fun d nd => bad _ (Option.some.inj hm).symm H d Off.refl nd⟩
      · rw [if_neg c] at hm
        have c' : decide ((S.L.length : Int) > 12) = false := decide_eq_false (by omega)
        rw [c']
        exact iteF ⟨_, rfl, p, dx, _, rfl, R.ins, rfl, dx, n, sg, p, l, g, S, r, rfl, R, hm, bad, good⟩
end
end K04

namespace L2
open PySem PySem.Spec PyProof.Rows PySem.ErrX
section
variable {X : Cx} {o : Expr} {f : Str} {pos : Pos} {ta : TE}
/-- o.f as a target among several -/
def gFld (K : PySem.W.Frag) (ta : TE) (f : Str) : TG := fun v σ H Q => ta σ H fun x H1 => ∃ a C dx fs, x = .ref a ∧ H1 a = some (.ins C dx fs) ∧ Cls K C ∧ NoAttr K C f ∧ fs.length < 1000 ∧ Q σ (upd H1 a (.ins C dx (putF f v fs)))
theorem pg_fld (he : PE X o ta) : PG X (.Attribute o f pos) (gFld X.K ta f) := by
  refine ⟨fun pins s σ H v u Q I r h => PySem.W.kas_attr (thn (he.run pins s σ H _ I h) fun ov s1 goal => ?_)⟩
  obtain ⟨x, H1, I1, rx, a, C, dx, fs, ex, ea, c, n, l, q⟩ := goal
  subst ex
  obtain rfl : ov = Value.ref a := rx
  exact setattr_ok I1 ea c n l r fun s2 I2 => ⟨σ, _, I2, q⟩
end
end L2
namespace K04
open PySem PySem.Spec PyProof.Rows PySem.ErrX L2
/-- all that the reader's methods need, at their addresses -/
structure Kit (K : PySem.W.Frag) (mg : Str → Option Value) (C Cb Ib : Addr) (a : Nat → Addr) (d : Nat → FuncData) : Prop where
  T : RCls K C
  B : Blt0 mg
  O : Own0 mg
  R0 : PErr K mg Cb Ib
  Z : Empty K mg
  FU : Fun K "united" "united" sUnited (a 20) (d 20)
  bU : L2.Binds K (d 20) ["one", "other"] []
  gU : mg "united" = some (.ref (a 20))
  ahead : MF K C "_ahead" "PatternReader._ahead" rAhead ["self"] (a 2) (d 2)
  taken : MF K C "_taken" "PatternReader._taken" rTaken ["self"] (a 3) (d 3)
  takes : MF K C "_takes" "PatternReader._takes" rTakes ["self", "sign"] (a 4) (d 4)
  expr : MF K C "_expression" "PatternReader._expression" rExpr ["self"] (a 5) (d 5)
  branch : MF K C "_branch" "PatternReader._branch" rBranch ["self"] (a 6) (d 6)
  joined : MF K C "_joined" "PatternReader._joined" rJoined ["self", "row", "item"] (a 7) (d 7)
  item : MF K C "_item" "PatternReader._item" rItem ["self"] (a 8) (d 8)
  atom : MF K C "_atom" "PatternReader._atom" rAtom ["self"] (a 9) (d 9)
  pos : MF K C "_position" "PatternReader._position" rPos ["self"] (a 10) (d 10)
  cls : MF K C "_class_letters" "PatternReader._class_letters" rClass ["self"] (a 11) (d 11)
  link : MF K C "_link" "PatternReader._link" rLink ["self", "ends", "begins"] (a 12) (d 12)
def spTakes2 (K : PySem.W.Frag) (C : Addr) : Sp := fun vs H Q _ => ∃ dx n sg p l g S c, vs = [.ref p, .str (sing c)] ∧ RD K C dx n sg p l g H S ∧ c ≠ 10 ∧
  ∀ H', Off p l g H H' → RD K C dx n sg p l g H' (if hdc sg S = c then S.adv else S) → Q (.bl (decide (hdc sg S = c))) H'
section
variable {P : Program} {w : World} {K : PySem.W.Frag} {mg : Str → Option Value} {base : Heap} {C Cb Ib : Addr} {a : Nat → Addr} {d : Nat → FuncData}
theorem ok_takes2 (k : Kit K mg C Cb Ib a d) : FnOk P w K mg base CX0 2 (a 4) (d 4) ["self", "sign"] (spTakes2 K C) :=
  (ok_takes k.takes k.T k.ahead).imp fun vs H Q E ⟨dx, n, sg, p, l, g, S, c, e, R, n10, q⟩ => by
    refine ⟨dx, n, sg, p, l, g, S, c, e, R, n10, fun ec H' o R' => ?_, fun ec => ?_⟩
    · have z := q H' o
      rw [if_pos ec, decide_eq_true ec] at z
      exact z R'
    · have z := q H Off.refl
      rw [if_neg ec, decide_eq_false ec] at z
      exact z R
theorem reader (k : Kit K mg C Cb Ib a d) : ∀ n : Nat, FnOk P w K mg base (L2.CX P w) (4 * n + 4) (a 5) (d 5) ["self"] (spPart K C Cb (pExpr n))
  | 0 => by
    have no : ∀ vs H Q E, ¬ spPart K C Cb (pExpr 0) vs H Q E := fun vs H Q E h => by
      obtain ⟨dx, n, sg, p, l, g, S, r, _, _, z, _⟩ := h
      cases z
    exact ⟨fun vs H Q E h => absurd h (no vs H Q E), fun A outer s H args us vs Q E _ _ _ _ h => absurd h (no vs H Q E)⟩
  | n + 1 => by
    have ih : FnOk P w K mg base (L2.CX P w) (4 * n + 4) (a 5) (d 5) ["self"] (spPart K C Cb (pExpr n)) := reader k n
    have GL : FnOk P w K mg base (L2.CX P w) 3 (a 11) (d 11) ["self"] (spClass K C Cb) := ok_class k.cls k.T k.B k.O k.R0 k.ahead k.taken k.takes
    have GP : FnOk P w K mg base (L2.CX P w) 4 (a 10) (d 10) ["self"] (spPart K C Cb posM) := ok_pos k.pos k.T k.O k.taken k.cls GL
    have G1 : FnOk P w K mg base (L2.CX P w) (4 * n + 4 + 1) (a 9) (d 9) ["self"] (spPart K C Cb (atomM (pExpr n))) := ok_atom (by omega) k.atom k.T k.O k.R0 k.ahead k.takes k.pos GP k.expr ih
    have G2 : FnOk P w K mg base (L2.CX P w) (4 * n + 4 + 1 + 1) (a 8) (d 8) ["self"] (spPart K C Cb (itemM (atomM (pExpr n)))) := ok_item (by omega) k.item k.T k.B k.ahead k.taken k.link k.FU k.bU k.gU k.atom G1
    have G3 : FnOk P w K mg base (L2.CX P w) (4 * n + 4 + 1 + 1 + 1) (a 6) (d 6) ["self"] (spPart K C Cb (branchM (itemM (atomM (pExpr n))))) := ok_branch (by omega) k.branch k.T k.B k.O k.Z k.ahead k.joined k.link k.FU k.bU k.gU k.item G2
    exact ok_expr (by omega) k.expr k.T k.B k.ahead k.takes k.FU k.bU k.gU k.branch G3
end
/-! ### the whole text -/
structure PM where
  fs : Bool
  te : Bool
  L : List Str
  F : List (List Nat)
  e : List Nat
def deep : Nat := 42
def readM (len : Nat) (sg : Str) (S : RS) : Option (Except Nat PM) :=
  match pExpr deep sg (if hdc sg S = 94 then S.adv else S) with
  | none => none
  | some (.error i) => some (.error i)
  | some (.ok (S2, b, e, t)) =>
    let S3 := if hdc sg S2 = 36 then S2.adv else S2
    some (if S3.at' < len then .error S3.at' else .ok ⟨decide (hdc sg S = 94), decide (hdc sg S2 = 36), S3.L, S3.F.set 0 b, if t = true then 0 :: e else e⟩)
def PatV (K : PySem.W.Frag) (H : Hp) (a : Addr) (m : PM) : Prop := ∃ x y z ts, SqT K H a [.bl m.fs, .bl m.te, .ref x, .ref y, .ref z] ∧ SqT K H x (m.L.map V.str) ∧ SqT K H y (ts.map V.ref) ∧ Paired (fun t xs => TupI K H t xs) ts m.F ∧ SqT K H z (posV m.e)
def spRead (K : PySem.W.Frag) (C Cb : Addr) : Sp := fun vs H Q E => ∃ dx len sg p l g S r, vs = [.ref p] ∧ RD K C dx ((len : Nat) : Int) sg p l g H S ∧ S.F ≠ [] ∧ readM len sg S = some r ∧
  (∀ i, r = .error i → Fails Cb p l g H E i) ∧ (∀ m, r = .ok m → ∀ H' a, Off p l g H H' → PatV K H' a m → Q (.ref a) H')
section
variable {P : Program} {w : World} {K : PySem.W.Frag} {mg : Str → Option Value} {base : Heap} {C Cb Ib : Addr} {a : Nat → Addr} {d : Nat → FuncData}
theorem scRead : FnScope ["self", "from_start", "begins", "ends", "empty", "to_end"] ["self"] (defScope rRead) := ⟨rfl, rfl, rfl, by decide +kernel, rfl, by decide +kernel, by decide +kernel⟩
theorem ok_read (k : Kit K mg C Cb Ib a d) (m : MF K C "read" "PatternReader.read" rRead ["self"] (a 1) (d 1)) : FnOk P w K mg base (L2.CX P w) (4 * deep + 5) (a 1) (d 1) ["self"] (spRead K C Cb) := by
  have GT : FnOk P w K mg base CX0 2 (a 4) (d 4) ["self", "sign"] (spTakes2 K C) := ok_takes2 k
  have GX : FnOk P w K mg base (L2.CX P w) (4 * deep + 4) (a 5) (d 5) ["self"] (spPart K C Cb (pExpr deep)) := reader k deep
  refine m.F.okX scRead (fun vs H Q E h => ?_) (fun cdv A outer s H vs Q E hr h => ?_)
  · obtain ⟨dx, len, sg, p, l, g, S, r, rfl, _⟩ := h
    rfl
  · obtain ⟨dx, len, sg, p, l, g, S, r, rfl, R, nF, hm, bad, good⟩ := h
    have h2 : Room 2 _ := hr.mono (by decide)
    refine ⟨_, pss_cons (ps_set (i := 1) scRead.nd rfl (.inl rfl) (pe_meth (pv 0) k.T.cl k.takes.M GT h2 k.takes.b .nil pass0 (pa_cons pe_str pa_nil)))
      (pss_cons (ps_asg (pe_meth0 (pv 0) k.T.cl k.expr.M GX hr k.expr.b .nil passE) (pg_tup rfl (pgs_cons (pg_name (i := 2) scRead.nd rfl (.inl rfl)) (pgs_cons (pg_name (i := 3) scRead.nd rfl (.inl rfl)) (pgs_cons (pg_name (i := 4) scRead.nd rfl (.inl rfl)) pgs_nil)))))
      (pss_cons (ps_set (i := 5) scRead.nd rfl (.inl rfl) (pe_meth (pv 0) k.T.cl k.takes.M GT h2 k.takes.b .nil pass0 (pa_cons pe_str pa_nil)))
      (pss_cons (ps_if (pt_cmpR op_lt (pe_fld (pv 0) rfl) (pe_fld (pv 0) rfl) (nomark _)) (pss_one (ps_raiseErr rfl k.R0.err k.R0.ty hr (takes_of rfl rfl rfl rfl) (pa_cons (pe_fld (pv 0) rfl) pa_nil))) pss_nil)
      (pss_cons (ps_if (pt_val (pv 4)) (pss_one (ps_set (i := 3) scRead.nd rfl (.inl rfl) (pe_tup (pa_cons pe_int (StX.pa_star (pv 3) pa_nil))))) pss_nil)
      (pss_cons (ps_asg (pv 2) (pg_sub (pe_fld (pv 0) rfl) pe_int set_list))
      (pss_one (ps_ret (pe_tup (pa_cons (pv 1) (pa_cons (pv 5) (pa_cons (pe_callTy call_tuple_of (by rfl) k.B.tuple boot_tuple (pa_cons (pe_fld (pv 0) rfl) pa_nil)) (pa_cons (pe_callTy call_tuple_of (by rfl) k.B.tuple boot_tuple (pa_cons (pe_fld (pv 0) rfl) pa_nil)) (pa_cons (pv 3) pa_nil))))))))))))), ?_⟩
    unfold readM at hm
    refine ⟨_, rfl, p, dx, _, rfl, R.ins, rfl, dx, _, sg, p, l, g, S, 94, rfl, R, by decide, fun H1 o1 R1 => ?_⟩
    obtain ⟨S1, eS1⟩ : ∃ S1, S1 = (if hdc sg S = 94 then S.adv else S) := ⟨_, rfl⟩
    rw [← eS1] at hm R1
    obtain ⟨r1, hr1⟩ : ∃ r1, pExpr deep sg S1 = some r1 := by
      cases q : pExpr deep sg S1 with
      | none =>
        rw [q] at hm
        cases hm
      | some r1 => exact ⟨r1, rfl⟩
    rw [hr1] at hm
    refine ⟨_, rfl, p, dx, _, rfl, R1.ins, rfl, dx, _, sg, p, l, g, S1, r1, rfl, R1, hr1, fun i ei => ?_, fun S2 pt ep H2 b o2 R2 le2 hp => ?_⟩
    · subst ei
      exact (bad i (Option.some.inj hm).symm).off o1
    subst ep
    obtain ⟨b1, e1, t1⟩ := pt
    obtain ⟨x, y, hrow, hx, hy, bx⟩ := hp
    refine ⟨b, _, rfl, hrow, rfl, _, _, rfl, _, _, rfl, _, _, rfl, rfl, ?_⟩
    refine ⟨_, rfl, p, dx, _, rfl, R2.ins, rfl, dx, _, sg, p, l, g, S2, 36, rfl, R2, by decide, fun H3 o3 R3 => ?_⟩
    obtain ⟨S3, eS3⟩ : ∃ S3, S3 = (if hdc sg S2 = 36 then S2.adv else S2) := ⟨_, rfl⟩
    have hm' : r = (if S3.at' < len then .error S3.at' else .ok ⟨decide (hdc sg S = 94), decide (hdc sg S2 = 36), S3.L, S3.F.set 0 b1, if t1 = true then 0 :: e1 else e1⟩) := by
      rw [eS3]
      exact (Option.some.inj hm).symm
    rw [← eS3] at R3
    have o13 := (o1.trans o2).trans o3
    have hx3 := R2.tup o3 hx
    have hy3 := R2.tup o3 hy
    refine ⟨_, rfl, p, C, dx, _, _, rfl, R3.ins, k.T.cl, k.T.n3, rf_at, _, rfl, p, C, dx, _, _, rfl, R3.ins, k.T.cl, k.T.n1, rf_length, _, _, rfl, rfl, _, rfl, ?_⟩
    have nonF : 0 < S3.F.length := by
      have z1 : 0 < S.F.length := List.length_pos_iff.mpr nF
      have z2 : S1.F = S.F := by
        rw [eS1]
        split <;> rfl
      have z3 : S3.F = S2.F := by
        rw [eS3]
        split <;> rfl
      rw [z3]
      rw [z2] at le2
      omega
    by_cases c : S3.at' < len
    · rw [if_pos c] at hm'
      have c' : decide ((S3.at' : Int) < (len : Int)) = true := decide_eq_true (by omega)
      rw [c']
      exact iteT ⟨_, rfl, p, C, dx, _, _, rfl, R3.ins, k.T.cl, k.T.n3, rf_at, _, rfl, fun d nd => bad _ hm' H3 d o13 nd⟩
    · rw [if_neg c] at hm'
      have c' : decide ((S3.at' : Int) < (len : Int)) = false := decide_eq_false (by omega)
      rw [c']
      refine iteF ?_
      have fin : ∀ H4 z, Same H3 H4 → SqT K H4 z (posV (if t1 = true then 0 :: e1 else e1)) → (tSeq (tAsg (tVar 2) (gSub (tFld K (tVar 0) "_follows") (tC (.int 0)) rSetL)) (tRet (tTup (tCons (tVar 1) (tCons (tVar 5) (tCons (tCB (fun xs H_1 Q => ∃ p ys, xs = [V.ref p] ∧ ((SqL K H_1 p ys ∧ ∀ (l : Addr), H_1 l = none → Q (V.ref l) (upd H_1 l (HO.tup ys))) ∨ SqT K H_1 p ys ∧ Q (V.ref p) H_1)) (tCons (tFld K (tVar 0) "_letters") tNil))
          (tCons (tCB (fun xs H_1 Q => ∃ p ys, xs = [V.ref p] ∧ ((SqL K H_1 p ys ∧ ∀ (l : Addr), H_1 l = none → Q (V.ref l) (upd H_1 l (HO.tup ys))) ∨ SqT K H_1 p ys ∧ Q (V.ref p) H_1)) (tCons (tFld K (tVar 0) "_follows") tNil)) (tCons (tVar 3) tNil))))))))
          { nx := fun x H' => Q V.non H', rt := Q } [some (.ref p), some (.bl (decide (hdc sg S = 94))), some (.ref x), some (.ref z), some (.bl t1), some (.bl (decide (hdc sg S2 = 36)))] H4 := by
        intro H4 z s4 hz
        have R4 := R3.same s4
        obtain ⟨ts, hg, tp⟩ := R4.fo
        have lt := paired_len tp
        obtain ⟨R5, o5⟩ := R4.setF (k := 0) (q := x) hg tp (hx3.same s4)
        refine ⟨_, rfl, _, rfl, p, C, dx, _, _, rfl, R4.ins, k.T.cl, k.T.n5, rf_follows, g, _, 0, 0, rfl, rfl, hg, ixN_n (j := 0) (by rw [List.length_map, lt]; exact nonF), ?_⟩
        obtain ⟨H5, e5⟩ : ∃ H5, H5 = upd H4 g (.lst ((ts.map V.ref).set 0 (.ref x))) := ⟨_, rfl⟩
        rw [← e5] at R5 o5 ⊢
        have hz5 := R4.seq o5 hz
        obtain ⟨ts5, hg5, tp5⟩ := R5.fo
        refine ⟨_, rfl, _, rfl, _, rfl, p, C, dx, _, _, rfl, R5.ins, k.T.cl, k.T.n4, rf_letters, l, _, rfl, .inl ⟨.of R5.lt, fun u nu => ?_⟩⟩
        have su := same_upd (o := .tup (S3.L.map V.str)) nu
        refine ⟨_, rfl, p, C, dx, _, _, rfl, su _ _ R5.ins, k.T.cl, k.T.n5, rf_follows, g, _, rfl, .inl ⟨.of (su _ _ hg5), fun v nv => ?_⟩⟩
        have sv := same_upd (o := .tup (ts5.map V.ref)) nv
        refine ⟨_, rfl, (by show 5 ≤ sizeLine; decide), fun t nt => ?_⟩
        have st := same_upd (o := .tup [.bl (decide (hdc sg S = 94)), .bl (decide (hdc sg S2 = 36)), .ref u, .ref v, .ref z]) nt
        have sA := su.trans (sv.trans st)
        exact good _ hm' _ t ((o13.trans (Off.of s4)).trans (o5.trans (Off.of sA))) ⟨u, v, z, ts5, .of upd_same, .of (st _ _ (sv _ _ upd_same)), .of (st _ _ upd_same), paired_imp tp5 fun _ _ h => h.same sA, same_seqT sA hz5⟩
      refine ⟨_, rfl, t1, rfl, ite2 (fun e => ?_) (fun e => ?_)⟩
      · refine ⟨_, rfl, y, _, rfl, .inl hy3.1, ?_, fun u nu => ?_⟩
        · have z := hy3.2.1
          have z2 : (posV e1).length = e1.length := posV_len e1
          have z3 : e1.length ≤ 16 := z
          refine small ?_
          simp only [List.length_cons, List.length_append, List.length_nil]
          show (posV e1).length + 0 + 1 ≤ 1000
          omega
        · refine fin _ u (same_upd nu) (.of ?_)
          rw [upd_same, if_pos e]
          show _ = some (HO.tup (posV (0 :: e1)))
          simp [posV]
      · refine fin H3 y same_refl ?_
        rw [if_neg e]
        exact hy3.1
end
end K04

namespace K04
open PySem PySem.Spec PyProof.Rows PySem.ErrX L2
/-- the kinds of values that are asked -/
inductive Kind (K : PySem.W.Frag) (H : Hp) : V → Prop
  | non : Kind K H .non
  | bl (b : Bool) : Kind K H (.bl b)
  | int (i : Int) : Kind K H (.int i)
  | str (x : Str) (h : x.length ≤ 1000) : Kind K H (.str x)
  | tup (a : Addr) (xs : List V) (h : H a = some (.tup xs)) : Kind K H (.ref a)
  | lst (a : Addr) (xs : List V) (h : H a = some (.lst xs)) : Kind K H (.ref a)
  | dct (a : Addr) (kvs : List (L2.Key × V)) (h : H a = some (.dK kvs)) : Kind K H (.ref a)
theorem Kind.same {K : PySem.W.Frag} {H H' : Hp} {x : V} (s : Same H H') : Kind K H x → Kind K H' x
  | .non => .non
  | .bl b => .bl b
  | .int i => .int i
  | .str x h => .str x h
  | .tup a xs h => .tup a xs (s _ _ h)
  | .lst a xs h => .lst a xs (s _ _ h)
  | .dct a xs h => .dct a xs (s _ _ h)
def isStr : V → Bool
  | .str _ => true
  | _ => false
theorem Kind.ofStr {K : PySem.W.Frag} {H : Hp} {x : V} (k : Kind K H x) {Q : VK} (h : Q (.bl (isStr x)) H) : rIsi K [x, .ty "str"] H Q := by
  cases k with
  | non => exact ⟨_, _, _, _, false, rfl, .ty _, .base .non, kit_ty (by decide +kernel), h⟩
  | bl b => exact ⟨_, _, _, _, false, rfl, .ty _, .base (.bl b), kit_ty (by decide +kernel), h⟩
  | int i => exact ⟨_, _, _, _, false, rfl, .ty _, .base (.int i), kit_ty (by decide +kernel), h⟩
  | str x _ => exact ⟨_, _, _, _, true, rfl, .ty _, .base (.str x), kit_ty (by decide +kernel), h⟩
  | tup a xs e => exact ⟨_, _, _, _, false, rfl, .ty _, .base (.tup e), kit_ty (by decide +kernel), h⟩
  | lst a xs e => exact ⟨_, _, _, _, false, rfl, .ty _, .base (.lst e), kit_ty (by decide +kernel), h⟩
  | dct a xs e => exact ⟨_, _, _, _, false, rfl, .ty _, .base (.dK e), kit_ty (by decide +kernel), h⟩
def rOfStr (K : PySem.W.Frag) : List V → Hp → VK → Prop := fun xs H Q => ∃ x, xs = [x, .ty "str"] ∧ Kind K H x ∧ Q (.bl (isStr x)) H
theorem call_ofStr {X : Cx} : CallR X (.builtin "isinstance") (rOfStr X.K) := fun pins s σ H xs us Q I r ⟨_, e, k, q⟩ => by
  subst e
  exact call_isi pins s σ H _ us Q I r (k.ofStr q)
theorem pe_ty {X : Cx} {x : Str} {n : String} {pos : Pos} (hm : X.mg x = none) (hv : bootBuiltins x = some (.type n)) (hg : Gl X x := by rfl) (hn : x ≠ "__name__" := by decide) (hdb : (x == ("__debug__" : Str)) = false := by decide) : PE X (.Name x pos) (tC (.ty n)) := pe_bltn (v := .ty n) hg hm hv rfl hn hdb
theorem boot_str : bootBuiltins "str" = some (.type "str") := by decide +kernel

/-! ### a reader made -/
def sgOf (z : Str) : Str := cutS z none (some 40) ++ "\n"
def S0 : RS := ⟨0, [""], [[]]⟩
theorem sgOf_list (z : Str) : (sgOf z).cps.toList = z.cps.toList.take 40 ++ [10] := by
  have e1 : (sgOf z).cps.toList = (cutS z none (some 40)).cps.toList ++ ("\n" : Str).cps.toList := TL.tl_append _ _
  have e2 : (cutS z none (some 40)).cps.toList = z.cps.toList.take 40 := by
    show (((z.cps.toList.drop (HT.sIx z.length 0 none)).take (HT.sIx z.length z.length (some ((40 : Nat) : Int)) - HT.sIx z.length 0 none)).toArray).toList = _
    rw [HT.sIx_none, HT.sIx_nat, List.drop_zero, Nat.sub_zero]
    have l : z.length = z.cps.toList.length := Array.length_toList.symm
    rw [l, ← List.take_eq_take_min]
  rw [e1, e2]
  rfl
theorem sgOf_len (z : Str) : (sgOf z).length = min 40 z.length + 1 := by
  have e : (sgOf z).length = (sgOf z).cps.toList.length := Array.length_toList.symm
  have l : z.length = z.cps.toList.length := Array.length_toList.symm
  rw [e, sgOf_list, List.length_append, List.length_take, l]
  rfl
theorem sgOf_last (z : Str) (k : Nat) (h : k < (sgOf z).length) (n : (sgOf z).cps.toList.getD k 10 ≠ 10) : k + 1 < (sgOf z).length := by
  have e : (sgOf z).length = (sgOf z).cps.toList.length := Array.length_toList.symm
  rw [e, sgOf_list] at h ⊢
  rw [sgOf_list] at n
  rw [List.length_append] at h ⊢
  have one : ([10] : List Nat).length = 1 := rfl
  rw [one] at h ⊢
  by_cases c : k < (z.cps.toList.take 40).length
  · omega
  · refine absurd ?_ n
    have ek : k = (z.cps.toList.take 40).length := by omega
    rw [List.getD_eq_getElem?_getD, List.getElem?_append_right (by omega), ek, Nat.sub_self]
    rfl
def spInit (K : PySem.W.Frag) (C : Addr) : Sp := fun vs H Q _ => ∃ p dx z, vs = [.ref p, .str z] ∧ H p = some (.ins C dx []) ∧ z.length ≤ 1000 ∧
  ∀ H' l g, (∀ b o, b ≠ p → H b = some o → H' b = some o) → H l = none → H g = none → RD K C dx ((z.length : Nat) : Int) (sgOf z) p l g H' S0 → Q .non H'
section
variable {P : Program} {w : World} {K : PySem.W.Frag} {mg : Str → Option Value} {base : Heap} {C Cb Ib : Addr} {a : Nat → Addr} {d : Nat → FuncData}
theorem scInit : FnScope ["self", "text"] ["self", "text"] (defScope rInit) := ⟨rfl, rfl, rfl, by decide +kernel, rfl, by decide +kernel, by decide +kernel⟩
theorem ok_init (k : Kit K mg C Cb Ib a d) (F : Fun K "__init__" "PatternReader.__init__" rInit (a 0) (d 0)) : FnOk P w K mg base CX0 1 (a 0) (d 0) ["self", "text"] (spInit K C) := by
  obtain ⟨t1, gm⟩ := k.O.chars
  obtain ⟨t2, ge⟩ := k.O.tend
  refine F.ok scInit (fun vs H Q E h => ?_) (fun cdv A outer s H vs Q E hr h => ?_)
  · obtain ⟨p, dx, z, rfl, _⟩ := h
    rfl
  · obtain ⟨p, dx, z, rfl, hp, hz, q⟩ := h
    refine ⟨_, pss_cons (ps_fld (pv 0) (pe_callB call_len_str (by rfl) k.O.len PySem.boot_len (pa_cons (pv 1) pa_nil)) rfl)
      (pss_cons (ps_fld (pv 0) (pe_op op_add_str (pe_slice sl_str (pv 1) po_none (po_some (pe_int1 gm))) (pe_str1 ge)) rfl)
      (pss_cons (ps_fld (pv 0) pe_int rfl) (pss_cons (ps_fld (pv 0) (pe_lst (pa_cons pe_str pa_nil)) rfl) (pss_one (ps_fld (pv 0) (pe_lst (pa_cons (pe_tup pa_nil) pa_nil)) rfl))))), ?_⟩
    have zs := small hz
    have cl := cutS_length z none (some 40)
    refine ⟨_, rfl, z, rfl, zs, _, rfl, p, C, dx, _, rfl, hp, k.T.cl, k.T.n1, (by show 0 < 1000; decide), ?_⟩
    refine ⟨_, rfl, 40, rfl, z, rfl, zs, _, _, rfl, rfl, ?_, ?_⟩
    · have z1 : 2000 ≤ sizeLine := by decide
      have z2 : ("\n" : Str).length = 1 := rfl
      omega
    refine ⟨_, rfl, p, C, dx, _, rfl, upd_same, k.T.cl, k.T.n2, (by show 1 < 1000; decide), ?_⟩
    refine ⟨_, rfl, p, C, dx, _, rfl, upd_same, k.T.cl, k.T.n3, (by show 2 < 1000; decide), ?_⟩
    obtain ⟨H3, e3⟩ : ∃ H3, H3 = upd (upd (upd H p (.ins C dx (putF "_length" (.int z.length) []))) p (.ins C dx (putF "_signs" (.str (sgOf z)) (putF "_length" (.int z.length) [])))) p (.ins C dx (putF "_at" (.int 0) (putF "_signs" (.str (sgOf z)) (putF "_length" (.int z.length) [])))) := ⟨_, rfl⟩
    have hp3 : H3 p = some (.ins C dx (putF "_at" (.int 0) (putF "_signs" (.str (sgOf z)) (putF "_length" (.int z.length) [])))) := by rw [e3]; exact upd_same
    have off3 : ∀ b, b ≠ p → H3 b = H b := fun b n => by rw [e3, upd_ne n, upd_ne n, upd_ne n]
    have g3 : tSeq (sFld K (tVar 0) (tLst (tCons (tC (.str "")) tNil)) "_letters") (sFld K (tVar 0) (tLst (tCons (tTup tNil) tNil)) "_follows") { nx := fun x H' => Q V.non H', rt := Q } [some (.ref p), some (.str z)] H3 := by
      refine ⟨(by show 1 ≤ sizeLine; decide), fun l nl => ?_⟩
      have lp : p ≠ l := fun y => by rw [← y, hp3] at nl; cases nl
      refine ⟨_, rfl, p, C, dx, _, rfl, (by rw [upd_ne lp]; exact hp3), k.T.cl, k.T.n4, (by show 3 < 1000; decide), ?_⟩
      refine ⟨Nat.zero_le _, fun u nu => ⟨(by show 1 ≤ sizeLine; decide), fun g ng => ?_⟩⟩
      have up : u ≠ p := fun y => by rw [y, upd_same] at nu; cases nu
      have ul : u ≠ l := fun y => by rw [y, upd_ne lp.symm, upd_same] at nu; cases nu
      have gu : g ≠ u := fun y => by rw [y, upd_same] at ng; cases ng
      have gp : g ≠ p := fun y => by rw [y, upd_ne up.symm, upd_same] at ng; cases ng
      have gl : g ≠ l := fun y => by rw [y, upd_ne ul.symm, upd_ne lp.symm, upd_same] at ng; cases ng
      have nl0 : H l = none := by rw [← off3 l lp.symm]; exact nl
      have ng0 : H g = none := by
        rw [upd_ne gu, upd_ne gp, upd_ne gl, off3 g gp] at ng
        exact ng
      have nu0 : H u = none := by
        rw [upd_ne up, upd_ne ul, off3 u up] at nu
        exact nu
      refine ⟨_, rfl, p, C, dx, _, rfl, (by rw [upd_ne gp.symm, upd_ne up.symm]; exact upd_same), k.T.cl, k.T.n5, (by show 4 < 1000; decide), ?_⟩
      refine q _ l g (fun b o n e => ?_) nl0 ng0 ⟨upd_same, ?_, ⟨[u], ?_, .cons ⟨.of ?_, fewN_nil⟩ .nil⟩, gl.symm, ?_, rfl, (by decide), ?_, sgOf_last z⟩
      · rw [upd_ne n, upd_ne (ne_of_none e ng0), upd_ne (ne_of_none e nu0), upd_ne n, upd_ne (ne_of_none e nl0), off3 b n]
        exact e
      · rw [upd_ne lp.symm, upd_ne gl.symm, upd_ne ul.symm, upd_ne lp.symm, upd_same]
        rfl
      · rw [upd_ne gp, upd_same]
        rfl
      · rw [upd_ne up, upd_ne gu.symm, upd_same]
        rfl
      · rw [sgOf_len]
        exact Nat.succ_pos _
      · rw [sgOf_len]
        omega
    rw [e3] at g3
    exact g3
end
end K04

namespace K04
open PySem PySem.Spec PyProof.Rows PySem.ErrX L2
def patM (z : Str) : Option (Except Nat PM) := readM z.length (sgOf z) S0
def Bad (Cb : Addr) (H : Hp) (E : XK) (v : V) : Prop := ∀ H1 d, Same H H1 → H1 d = none → E (.ref Cb) (some d) (upd H1 d (.xd [(("at" : Str), v)]))
def spReadP (K : PySem.W.Frag) (Cb : Addr) : Sp := fun vs H Q E => ∃ z r, vs = [.str z] ∧ z.length ≤ 1000 ∧ patM z = some r ∧ (∀ i, r = .error i → Bad Cb H E (.int (i : Nat))) ∧ (∀ m, r = .ok m → ∀ H' a, Same H H' → PatV K H' a m → Q (.ref a) H')
/-- the fields of a pattern -/
def pf (z : Str) (m : PM) (x y u : Addr) : List (Str × V) := [("_from_start", .bl m.fs), ("_to_end", .bl m.te), ("_letters", .ref x), ("_follows", .ref y), ("_ends", .ref u), ("_text", .str z)]
def PatObj (K : PySem.W.Frag) (CP : Addr) (H : Hp) (q : Addr) (z : Str) (m : PM) : Prop := ∃ dx x y u ts, H q = some (.ins CP dx (pf z m x y u)) ∧ SqT K H x (m.L.map V.str) ∧ SqT K H y (ts.map V.ref) ∧ Paired (fun t xs => TupI K H t xs) ts m.F ∧ SqT K H u (posV m.e)
structure PCls (K : PySem.W.Frag) (C : Addr) : Prop where
  cl : Cls K C
  n1 : NoAttr K C "_from_start"
  n2 : NoAttr K C "_to_end"
  n3 : NoAttr K C "_letters"
  n4 : NoAttr K C "_follows"
  n5 : NoAttr K C "_ends"
  n6 : NoAttr K C "_text"
def spPat (K : PySem.W.Frag) (CP Cb : Addr) : Sp := fun vs H Q E => ∃ q dx x, vs = [.ref q, x] ∧ H q = some (.ins CP dx []) ∧ Kind K H x ∧ (isStr x = false → Bad Cb H E .non) ∧
  (∀ z, x = .str z → z.length ≤ 1000 ∧ ∃ r, patM z = some r ∧ (∀ i, r = .error i → Bad Cb H E (.int (i : Nat))) ∧ (∀ m, r = .ok m → ∀ H', (∀ b o, b ≠ q → H b = some o → H' b = some o) → PatObj K CP H' q z m → Q .non H'))
theorem seq_ins {K : PySem.W.Frag} {H : Hp} {q C dx : Addr} {fs fs' : List (Str × V)} (hq : H q = some (.ins C dx fs)) {a : Addr} {xs : List V} (h : SqT K H a xs) : SqT K (upd H q (.ins C dx fs')) a xs := by
  rcases h with (h | ⟨u, h⟩) | h
  · refine .inl (.inl ?_)
    rw [upd_ne fun z => by rw [z, hq] at h; cases h]
    exact h
  · refine .inl (.inr ⟨u, ?_⟩)
    rw [upd_ne fun z => by rw [z, hq] at h; cases h]
    exact h
  · exact .inr h
theorem passLen {X : Cx} {W : WX} {n : Nat} (tk : Takes X W) (hn : X.N.length = n) : Passes (L2.CX X.prog X.w) X (fun cls d H => ∀ σ : L2.St, σ.length = n → W cls d σ H) :=
  fun _ σ _ _ e s' I c => tk e s' (XE.of_call I (fun _ _ _ h => h σ (I.len.trans hn)) c)
section
variable {P : Program} {w : World} {K : PySem.W.Frag} {mg : Str → Option Value} {base : Heap} {C Cb Ib CP : Addr} {a : Nat → Addr} {d : Nat → FuncData}
theorem scReadP : FnScope ["text"] ["text"] (defScope sReadP) := ⟨rfl, rfl, rfl, by decide +kernel, rfl, by decide +kernel, by decide +kernel⟩
theorem ok_readP {f : Addr} {fd : FuncData} (k : Kit K mg C Cb Ib a d) (F : Fun K "read_pattern" "read_pattern" sReadP f fd) (mk : Mk K C (a 0)) (gC : mg "PatternReader" = some (.ref C)) (FI : Fun K "__init__" "PatternReader.__init__" rInit (a 0) (d 0)) (bI : L2.Binds K (d 0) ["self", "text"] [])
    (mR : MF K C "read" "PatternReader.read" rRead ["self"] (a 1) (d 1)) : FnOk P w K mg base (L2.CX P w) (4 * deep + 6) f fd ["text"] (spReadP K Cb) := by
  have GI : FnOk P w K mg base CX0 1 (a 0) (d 0) ["self", "text"] (spInit K C) := ok_init k FI
  have GR : FnOk P w K mg base (L2.CX P w) (4 * deep + 5) (a 1) (d 1) ["self"] (spRead K C Cb) := ok_read k mR
  refine F.okX scReadP (fun vs H Q E h => ?_) (fun cdv A outer s H vs Q E hr h => ?_)
  · obtain ⟨z, r, rfl, _⟩ := h
    rfl
  · obtain ⟨z, r, rfl, hz, hm, bad, good⟩ := h
    have h2 : Room (1 + 1) _ := hr.mono (by decide)
    refine ⟨_, pss_one (ps_ret (pe_meth0 (pe_make mk GI h2 (by rfl) gC bI .nil pass0 (pa_cons (pv 0) pa_nil)) k.T.cl mR.M GR hr mR.b .nil passE)), ?_⟩
    refine ⟨_, rfl, fun p dx np nd ne => ⟨p, dx, z, rfl, upd_same, hz, fun H1 l g keep nl ng R => ⟨rfl, ?_⟩⟩⟩
    have sm : Same H (upd (upd H dx (.own p)) p (.ins C dx [])) := fun b o e => by
      rw [upd_ne (ne_of_none e np), upd_ne (ne_of_none e nd)]
      exact e
    have s1 : Same H H1 := fun b o e => keep b o (ne_of_none e np) (sm b o e)
    have nl0 := sm.free nl
    have ng0 := sm.free ng
    have off : ∀ H2, Off p l g H1 H2 → Same H H2 := fun H2 o b u e => o b u (ne_of_none e np) (ne_of_none e nl0) (ne_of_none e ng0) (s1 b u e)
    refine ⟨p, dx, _, rfl, R.ins, rfl, dx, z.length, sgOf z, p, l, g, S0, r, rfl, R, by decide, hm, fun i ei H2 d2 o2 nd2 => bad i ei H2 d2 (off H2 o2) nd2, fun m em H2 t o2 hv => good m em H2 t (off H2 o2) hv⟩
theorem scPat : FnScope ["self", "text"] ["self", "text"] (defScope pInit) := ⟨rfl, rfl, rfl, by decide +kernel, rfl, by decide +kernel, by decide +kernel⟩
theorem ok_pat {f fR : Addr} {fd fdR : FuncData} (F : Fun K "__init__" "Pattern.__init__" pInit f fd) (T : PCls K CP) (R0 : PErr K mg Cb Ib) (zi : mg "isinstance" = none) (zs : mg "str" = none)
    (FR : Fun K "read_pattern" "read_pattern" sReadP fR fdR) (bR : L2.Binds K fdR ["text"] []) (gR : mg "read_pattern" = some (.ref fR)) (GR : FnOk P w K mg base (L2.CX P w) (4 * deep + 6) fR fdR ["text"] (spReadP K Cb)) : FnOk P w K mg base (L2.CX P w) (4 * deep + 7) f fd ["self", "text"] (spPat K CP Cb) := by
  refine F.okX scPat (fun vs H Q E h => ?_) (fun cdv A outer s H vs Q E hr h => ?_)
  · obtain ⟨q, dx, x, rfl, _⟩ := h
    rfl
  · obtain ⟨q, dx, x, rfl, hq, kd, off, on⟩ := h
    refine ⟨_, pss_cons (ps_if (pt_not (pt_val (pe_callB call_ofStr (by rfl) zi PyProof.Rows.boot_isinstance (pa_cons (pv 1) (pa_cons (pe_ty zs boot_str) pa_nil))))) (pss_one (ps_raiseErr rfl R0.err R0.ty hr (takes_of rfl rfl rfl rfl) (pa_cons pe_non pa_nil))) pss_nil)
      (pss_cons (ps_asg (pe_call GR hr (by rfl) gR FR.kp bR .nil passE (pa_cons (pv 1) pa_nil)) (pg_tup rfl (pgs_cons (pg_fld (pv 0)) (pgs_cons (pg_fld (pv 0)) (pgs_cons (pg_fld (pv 0)) (pgs_cons (pg_fld (pv 0)) (pgs_cons (pg_fld (pv 0)) pgs_nil)))))))
      (pss_one (ps_fld (pv 0) (pv 1) rfl))), ?_⟩
    refine ⟨x, rfl, x, rfl, kd, _, rfl, ?_⟩
    by_cases st : isStr x = true
    case neg =>
      have st' := Bool.eq_false_iff.mpr st
      rw [st']
      exact iteT ⟨_, rfl, fun d nd => off st' H d same_refl nd⟩
    rw [st]
    refine iteF ?_
    obtain ⟨z, rfl⟩ : ∃ z, x = .str z := by
      cases x with
      | str z => exact ⟨z, rfl⟩
      | _ => cases st
    obtain ⟨hz, r, hm, bad, good⟩ := on z rfl
    refine ⟨_, rfl, z, r, rfl, hz, hm, bad, fun m em H1 b s1 hv => ?_⟩
    obtain ⟨x1, y1, u1, ts, ht, hx, hy, hp, hu⟩ := hv
    have q1 := s1 _ _ hq
    refine ⟨b, _, rfl, ht, rfl, _, _, rfl, _, rfl, q, CP, dx, _, rfl, q1, T.cl, T.n1, (by show 0 < 1000; decide), ?_⟩
    refine ⟨_, _, rfl, _, rfl, q, CP, dx, _, rfl, upd_same, T.cl, T.n2, (by show 1 < 1000; decide), ?_⟩
    refine ⟨_, _, rfl, _, rfl, q, CP, dx, _, rfl, upd_same, T.cl, T.n3, (by show 2 < 1000; decide), ?_⟩
    refine ⟨_, _, rfl, _, rfl, q, CP, dx, _, rfl, upd_same, T.cl, T.n4, (by show 3 < 1000; decide), ?_⟩
    refine ⟨_, _, rfl, _, rfl, q, CP, dx, _, rfl, upd_same, T.cl, T.n5, (by show 4 < 1000; decide), rfl, ?_⟩
    refine ⟨_, rfl, _, rfl, q, CP, dx, _, rfl, upd_same, T.cl, T.n6, (by show 5 < 1000; decide), ?_⟩
    have six : ∀ {t : Addr} {vs : List V}, SqT K H1 t vs → SqT K (upd (upd (upd (upd (upd (upd H1 q (.ins CP dx (putF "_from_start" (.bl m.fs) []))) q (.ins CP dx (putF "_to_end" (.bl m.te) (putF "_from_start" (.bl m.fs) [])))) q (.ins CP dx (putF "_letters" (.ref x1) (putF "_to_end" (.bl m.te) (putF "_from_start" (.bl m.fs) []))))) q (.ins CP dx (putF "_follows" (.ref y1) (putF "_letters" (.ref x1) (putF "_to_end" (.bl m.te) (putF "_from_start" (.bl m.fs) [])))))) q (.ins CP dx (putF "_ends" (.ref u1) (putF "_follows" (.ref y1) (putF "_letters" (.ref x1) (putF "_to_end" (.bl m.te) (putF "_from_start" (.bl m.fs) []))))))) q (.ins CP dx (putF "_text" (.str z) (putF "_ends" (.ref u1) (putF "_follows" (.ref y1) (putF "_letters" (.ref x1) (putF "_to_end" (.bl m.te) (putF "_from_start" (.bl m.fs) [])))))))) t vs := fun h =>
      seq_ins upd_same (seq_ins upd_same (seq_ins upd_same (seq_ins upd_same (seq_ins upd_same (seq_ins q1 h)))))
    refine good m em _ (fun c o n e => ?_) ⟨dx, x1, y1, u1, ts, upd_same, six hx, six hy, paired_imp hp fun _ _ h => ⟨six h.1, h.2⟩, six hu⟩
    rw [upd_ne n, upd_ne n, upd_ne n, upd_ne n, upd_ne n, upd_ne n]
    exact s1 _ _ e
/-! ### the law's _law_told -/
def spTold (K : PySem.W.Frag) : Sp := fun vs H Q _ => ∃ x, vs = [x] ∧ Kind K H x ∧ (isStr x = false → ∀ p H', Same H H' → H' p = some (.lst [.str "bad", .non]) → Q (.ref p) H') ∧
  (∀ z, x = .str z → z.length ≤ 1000 ∧ ∃ r, patM z = some r ∧ (∀ i, r = .error i → ∀ p H', Same H H' → H' p = some (.lst [.str "bad", .int (i : Nat)]) → Q (.ref p) H') ∧ (∀ m, r = .ok m → ∀ H', Same H H' → Q .non H'))
theorem scTold : FnScope ["_law_text_here", "e"] ["_law_text_here"] (defScope sTold) := ⟨rfl, rfl, rfl, by decide +kernel, rfl, by decide +kernel, by decide +kernel⟩
theorem ok_told {f fP : Addr} {fd fdP : FuncData} (F : Fun K "_law_told" "_law_told" sTold f fd) (R0 : PErr K mg Cb Ib) (ex : PySem.W.exmOne K (.ref Cb) (.ref Cb) = some true) (mk : Mk K CP fP) (gP : mg "Pattern" = some (.ref CP)) (bP : L2.Binds K fdP ["self", "text"] [])
    (GP : FnOk P w K mg base (L2.CX P w) (4 * deep + 7) fP fdP ["self", "text"] (spPat K CP Cb)) : FnOk P w K mg base CX0 (4 * deep + 9) f fd ["_law_text_here"] (spTold K) := by
  refine F.ok scTold (fun vs H Q E h => ?_) (fun cdv A outer s H vs Q E hr h => ?_)
  · obtain ⟨x, rfl, _⟩ := h
    rfl
  · obtain ⟨x, rfl, kd, off, on⟩ := h
    refine ⟨_, pss_cons (ps_try_ases (i := 1) (n := "e") (l := [(.ref Cb, fun a cls d => tRet (tLst (tCons (tC (.str "bad")) (tCons (tOfErr Cb "at" a cls d (tVar 1)) tNil))))])
        (tb := fun W => tDrop (tMake CP (spPat K CP Cb) [] (fun cls d H => ∀ σ : L2.St, σ.length = 2 → W cls d σ H) (tCons (tVar 0) tNil))) (Wout := fun _ _ _ _ => False) rfl rfl scTold.nd rfl rfl takes0
        (fun W pn xe tk _ => pss_one (ps_expr (pe_make mk GP hr rfl gP bP .nil (passLen tk rfl) (by exact (pa_cons (pv 0) pa_nil)))))
        (.cons ⟨rfl, by decide, .inl R0.err.gC⟩ (fun a oe cls d pn hz hf => pss_one (ps_ret (pe_lst (pa_cons pe_str (pa_cons (pe_ofErr R0.err hz hf (pv 1)) pa_nil))))) .nil))
      (pss_one (ps_ret pe_non)), ?_⟩
    refine ⟨_, rfl, fun q dx nq nd ne => ?_⟩
    have sm : Same H (upd (upd H dx (.own q)) q (.ins CP dx [])) := fun b o e => by
      rw [upd_ne (ne_of_none e nq), upd_ne (ne_of_none e nd)]
      exact e
    have raise : ∀ v, (∀ p H', Same H H' → H' p = some (.lst [.str "bad", v]) → Q (.ref p) H') → Bad Cb (upd (upd H dx (.own q)) q (.ins CP dx [])) (fun cls d H_2 => ∀ (σ : L2.St), List.length σ = 2 → wAses K 1 (fun x x_1 x_2 x_3 => False) { nx := tRet (tC V.non) { nx := fun x H' => Q V.non H', rt := Q }, rt := Q }
        [(Value.ref Cb, fun a cls d => tRet (tLst (tCons (tC (V.str "bad")) (tCons (tOfErr Cb "at" a cls d (tVar 1)) tNil))))] cls d σ H_2) v := by
      intro v good H1 d1 s1 nd1 σ hσ
      match σ, hσ with
      | [y0, y1], _ =>
        have s2 := same_upd (o := .xd [(("at" : Str), v)]) nd1
        refine ⟨true, ex, fun _ e na => ?_, fun z => Bool.noConfusion z⟩
        exact ⟨.ref e, rfl, rfl, rfl, d1, v, rfl, upd_same, (by show 2 ≤ sizeLine; decide), fun p np => good p _ (sm.trans (s1.trans (s2.trans (same_upd np)))) upd_same⟩
    refine ⟨q, dx, x, rfl, upd_same, kd.same sm, fun e => raise .non (off e), fun z ez => ?_⟩
    obtain ⟨hz, r, hm, bad, good⟩ := on z ez
    refine ⟨hz, r, hm, fun i ei => raise _ (bad i ei), fun m em H' keep _ => ⟨rfl, good m em H' fun b o e => keep b o (ne_of_none e nq) (sm b o e)⟩⟩
end
end K04

namespace K04
open PySem PySem.Spec PyProof.Rows PySem.ErrX L2
/-! ### the forms that the law draws, and what the reader makes of their texts -/
inductive Form
  | any
  | letter (c : Nat)
  | cls (cs : List Nat)
  | none
  | join (a b : Form)
  | or (a b : Form)
  | many (x : Form)
  | some (x : Form)
  | maybe (x : Form)
def br (ok : Bool) (t : List Nat) : List Nat := if ok = true then t else [40] ++ t ++ [41]
def tx : Form → Nat → List Nat
  | .any, _ => [46]
  | .letter c, _ => [c]
  | .cls cs, _ => [91] ++ cs ++ [93]
  | .none, w => if w < 3 then [] else [40, 41]
  | .join a b, w => br (decide (w ≤ 2)) (tx a 2 ++ tx b 2)
  | .or a b, w => br (decide (w ≤ 1)) (tx a 1 ++ [124] ++ tx b 1)
  | .many x, w => br (decide (w ≤ 3)) (tx x 3 ++ [42])
  | .some x, w => br (decide (w ≤ 3)) (tx x 3 ++ [43])
  | .maybe x, w => br (decide (w ≤ 3)) (tx x 3 ++ [63])
def pos : Form → Nat
  | .any => 1
  | .letter _ => 1
  | .cls _ => 1
  | .none => 0
  | .join a b => pos a + pos b
  | .or a b => pos a + pos b
  | .many x => pos x
  | .some x => pos x
  | .maybe x => pos x
def sz : Form → Nat
  | .any => 1
  | .letter _ => 1
  | .cls _ => 1
  | .none => 1
  | .join a b => sz a + sz b + 1
  | .or a b => sz a + sz b + 1
  | .many x => sz x + 1
  | .some x => sz x + 1
  | .maybe x => sz x + 1
def okF : Form → Prop
  | .any => True
  | .letter c => c ∈ abc.cps.toList
  | .cls cs => cs ≠ [] ∧ cs.Nodup ∧ ∀ c ∈ cs, c ∈ abc.cps.toList
  | .none => True
  | .join a b => okF a ∧ okF b
  | .or a b => okF a ∧ okF b
  | .many x => okF x
  | .some x => okF x
  | .maybe x => okF x
/-- the text from here on -/
def From (sg : Str) (S : RS) (t : List Nat) : Prop := sg.cps.toList.drop S.at' = t
def Adv (S : RS) (k m : Nat) (S' : RS) : Prop := S'.at' = S.at' + k ∧ S'.L.length = S.L.length + m
theorem From.hd {sg : Str} {S : RS} {c : Nat} {r : List Nat} (h : From sg S (c :: r)) : hdc sg S = c := by
  unfold From at h
  unfold hdc
  rw [List.getD_eq_getElem?_getD, ← List.head?_drop, h]
  rfl
theorem From.adv {sg : Str} {S : RS} {c : Nat} {r : List Nat} (h : From sg S (c :: r)) : From sg S.adv r := by
  unfold From at h ⊢
  show sg.cps.toList.drop (S.at' + 1) = r
  rw [← List.drop_drop, h]
  rfl
theorem From.go {sg : Str} {S S' : RS} {t r : List Nat} {m : Nat} (h : From sg S (t ++ r)) (a : Adv S t.length m S') : From sg S' r := by
  unfold From at h ⊢
  rw [a.1, ← List.drop_drop, h, List.drop_left]
def notStar (r : List Nat) : Prop := ∀ c t, r = c :: t → inStars c = false
def notOpen (r : List Nat) : Prop := ∀ c t, r = c :: t → (inAbc c || inOpen c) = false
theorem Adv.trans {S S1 S2 : RS} {k m k2 m2 : Nat} (a : Adv S k m S1) (b : Adv S1 k2 m2 S2) : Adv S (k + k2) (m + m2) S2 := ⟨by rw [b.1, a.1]; omega, by rw [b.2, a.2]; omega⟩
theorem Adv.one (S : RS) : Adv S 1 0 S.adv := ⟨rfl, rfl⟩
theorem Adv.refl (S : RS) : Adv S 0 0 S := ⟨rfl, rfl⟩
theorem From.hd_of {sg : Str} {S : RS} {r : List Nat} {p : Nat → Bool} (h : From sg S r) (n : ∀ c t, r = c :: t → p c = false) (ten : p 10 = false) : p (hdc sg S) = false := by
  cases r with
  | nil =>
    unfold From at h
    unfold hdc
    rw [List.getD_eq_getElem?_getD, ← List.head?_drop, h]
    exact ten
  | cons c t =>
    rw [h.hd]
    exact n c t rfl
theorem stars_go (sg : Str) : ∀ (ss : List Nat) (m : Nat) (S : RS) (b e : List Nat) (t : Bool) (rest : List Nat), (∀ c ∈ ss, inStars c = true) → From sg S (ss ++ rest) → notStar rest → ss.length < m → ∃ S' pt, itemL sg m S b e t = some (.ok (S', pt)) ∧ Adv S ss.length 0 S'
  | [], 0, _, _, _, _, _, _, _, _, h => absurd h (Nat.lt_irrefl _)
  | [], m + 1, S, b, e, t, rest, _, fr, ns, _ => by
    have z : inStars (hdc sg S) = false := From.hd_of fr ns (by decide +kernel)
    refine ⟨S, (b, e, t), ?_, Adv.refl S⟩
    unfold itemL
    rw [z]
    rfl
  | c :: ss, 0, _, _, _, _, _, _, _, _, h => absurd h (Nat.not_lt_zero _)
  | c :: ss, m + 1, S, b, e, t, rest, al, fr, ns, lt => by
    have hc : hdc sg S = c := fr.hd
    have z : inStars (hdc sg S) = true := by rw [hc]; exact al c List.mem_cons_self
    have step : itemL sg (m + 1) S b e t = itemL sg m (if hdc sg S = 63 then S.adv else { S.adv with F := linkF S.F e b }) b e (if hdc sg S = 43 then t else true) := by
      show (if inStars (hdc sg S) = true then _ else _) = _
      rw [if_pos z]
    obtain ⟨S1, e1, e2⟩ : ∃ S1, S1 = (if hdc sg S = 63 then S.adv else { S.adv with F := linkF S.F e b }) ∧ Adv S 1 0 S1 := by
      refine ⟨_, rfl, ?_⟩
      split
      · exact Adv.one S
      · exact ⟨rfl, rfl⟩
    rw [step, ← e1]
    have f1 : From sg S1 (ss ++ rest) := From.go (t := [c]) fr e2
    obtain ⟨S', pt, h1, h2⟩ := stars_go sg ss m S1 b e _ rest (fun x hx => al x (List.mem_cons_of_mem _ hx)) f1 ns (Nat.lt_of_succ_lt_succ lt)
    refine ⟨S', pt, h1, ?_⟩
    have z2 := e2.trans h2
    rw [Nat.add_comm 1] at z2
    exact z2
/-- a class's letters, read -/
theorem class_go (sg : Str) : ∀ (cs fd : List Nat) (m : Nat) (S : RS) (rest : List Nat), (∀ c ∈ cs, c ∈ abc.cps.toList) → cs.Nodup → (∀ c ∈ cs, c ∉ fd) → From sg S (cs ++ 93 :: rest) → cs.length < m → ∃ S', classL sg m S fd = some (S', fd ++ cs) ∧ Adv S cs.length 0 S'
  | [], fd, 0, _, _, _, _, _, _, h => absurd h (Nat.lt_irrefl _)
  | [], fd, m + 1, S, rest, _, _, _, fr, _ => by
    have hc : hdc sg S = 93 := fr.hd
    refine ⟨S, ?_, Adv.refl S⟩
    unfold classL
    have z : (inAbc (hdc sg S) && !decide (hdc sg S ∈ fd)) = false := by
      rw [hc]
      have : inAbc 93 = false := by decide +kernel
      rw [this, Bool.false_and]
    rw [z, List.append_nil]
    rfl
  | c :: cs, fd, 0, _, _, _, _, _, _, h => absurd h (Nat.not_lt_zero _)
  | c :: cs, fd, m + 1, S, rest, low, nd, new, fr, lt => by
    have hc : hdc sg S = c := fr.hd
    obtain ⟨n1, n2⟩ := List.nodup_cons.mp nd
    have z : (inAbc (hdc sg S) && !decide (hdc sg S ∈ fd)) = true := by
      rw [hc]
      unfold inAbc
      rw [decide_eq_true (low c List.mem_cons_self), decide_eq_false (new c List.mem_cons_self)]
      rfl
    have step : classL sg (m + 1) S fd = classL sg m S.adv (fd ++ [hdc sg S]) := by
      show (if (inAbc (hdc sg S) && !decide (hdc sg S ∈ fd)) = true then _ else _) = _
      rw [if_pos z]
    rw [step, hc]
    obtain ⟨S', h1, h2⟩ := class_go sg cs (fd ++ [c]) m S.adv rest (fun x hx => low x (List.mem_cons_of_mem _ hx)) n2 (fun x hx q => by
      rcases List.mem_append.mp q with q | q
      · exact new x (List.mem_cons_of_mem _ hx) q
      · rw [List.mem_singleton.mp q] at hx
        exact n1 hx) fr.adv (Nat.lt_of_succ_lt_succ lt)
    refine ⟨S', ?_, ?_⟩
    · rw [h1, List.append_assoc]
      rfl
    · have z2 := (Adv.one S).trans h2
      rw [Nat.add_comm 1] at z2
      exact z2
theorem low_facts (c : Nat) (h : c ∈ abc.cps.toList) : c ≠ 10 ∧ c ≠ 46 ∧ c ≠ 91 ∧ c ≠ 40 ∧ inAbc c = true ∧ inStars c = false ∧ c ≠ 124 ∧ c ≠ 41 := by
  have k : ∀ c ∈ abc.cps.toList, c ≠ 10 ∧ c ≠ 46 ∧ c ≠ 91 ∧ c ≠ 40 ∧ inAbc c = true ∧ inStars c = false ∧ c ≠ 124 ∧ c ≠ 41 := by decide +kernel
  exact k c h
/-- what the text of an item is, with stars behind it -/
def ItemOk (d : Nat) (f : Form) : Prop := ∀ (sg : Str) (S : RS) (ss rest : List Nat), From sg S (tx f 3 ++ ss ++ rest) → (∀ c ∈ ss, inStars c = true) → notStar rest → S.L.length + pos f ≤ 13 → (tx f 3).length + ss.length < 45 →
  ∃ S' pt, itemM (atomM (pExpr d)) sg S = some (.ok (S', pt)) ∧ Adv S ((tx f 3).length + ss.length) (pos f) S'
def BranchOk (d : Nat) (f : Form) : Prop := ∀ (sg : Str) (S : RS) (row : Part) (rest : List Nat), From sg S (tx f 2 ++ rest) → notStar rest → S.L.length + pos f ≤ 13 → (tx f 2).length < 45 →
  ∃ S' row' j, j ≤ (tx f 2).length ∧ (∀ m, branchL (itemM (atomM (pExpr d))) sg (m + j) S row = branchL (itemM (atomM (pExpr d))) sg m S' row') ∧ Adv S (tx f 2).length (pos f) S'
def cmb (p q : Part) : Part := (uni p.1 q.1, uni p.2.1 q.2.1, p.2.2 || q.2.2)
/-- an alternative more, then the loop -/
def exprS (B : Str → RS → Option Out) (sg : Str) (m : Nat) (acc : Option Part) (S : RS) : Option Out :=
  match B sg S with
  | Option.none => Option.none
  | Option.some (.error i) => Option.some (.error i)
  | Option.some (.ok (S1, pt)) => exprL B sg m S1 (match acc with | Option.none => pt | Option.some q => cmb q pt)
def ExprOk (d : Nat) (f : Form) : Prop := ∀ (sg : Str) (S : RS) (acc : Option Part) (rest : List Nat), From sg S (tx f 1 ++ rest) → notStar rest → notOpen rest → S.L.length + pos f ≤ 13 → (tx f 1).length < 45 →
  ∃ S' pt j, j ≤ (tx f 1).length ∧ (∀ m, exprS (branchM (itemM (atomM (pExpr d)))) sg (m + j) acc S = exprL (branchM (itemM (atomM (pExpr d)))) sg m S' pt) ∧ Adv S (tx f 1).length (pos f) S'
end K04

namespace K04
open PySem PySem.Spec PyProof.Rows PySem.ErrX L2
def open' (c : Nat) : Bool := inAbc c || inOpen c
theorem open_star (c : Nat) (h : (inAbc c || inOpen c) = true) : inStars c = false := by
  rcases (Bool.or_eq_true _ _).mp h with h | h
  · exact (low_facts c (of_decide_eq_true h)).2.2.2.2.2.1
  · have k : ∀ c ∈ (".[(" : Str).cps.toList, inStars c = false := by decide +kernel
    exact k c (of_decide_eq_true h)
theorem tx3_head : ∀ f, okF f → ∃ c t, tx f 3 = c :: t ∧ (inAbc c || inOpen c) = true
  | .any, _ => ⟨46, [], rfl, by decide +kernel⟩
  | .letter c, h => ⟨c, [], rfl, by rw [(low_facts c h).2.2.2.2.1, Bool.true_or]⟩
  | .cls cs, _ => ⟨91, cs ++ [93], rfl, by decide +kernel⟩
  | .none, _ => ⟨40, [41], rfl, by decide +kernel⟩
  | .join a b, _ => ⟨40, _, rfl, by decide +kernel⟩
  | .or a b, _ => ⟨40, _, rfl, by decide +kernel⟩
  | .many x, h => by
    obtain ⟨c, t, e, o⟩ := tx3_head x h
    exact ⟨c, t ++ [42], by show tx x 3 ++ [42] = _; rw [e]; rfl, o⟩
  | .some x, h => by
    obtain ⟨c, t, e, o⟩ := tx3_head x h
    exact ⟨c, t ++ [43], by show tx x 3 ++ [43] = _; rw [e]; rfl, o⟩
  | .maybe x, h => by
    obtain ⟨c, t, e, o⟩ := tx3_head x h
    exact ⟨c, t ++ [63], by show tx x 3 ++ [63] = _; rw [e]; rfl, o⟩
theorem tx2_head : ∀ f, okF f → tx f 2 = [] ∨ ∃ c t, tx f 2 = c :: t ∧ (inAbc c || inOpen c) = true
  | .none, _ => .inl rfl
  | .join a b, h => by
    have e : tx (.join a b) 2 = tx a 2 ++ tx b 2 := rfl
    rw [e]
    rcases tx2_head a h.1 with z | ⟨c, t, z, o⟩
    · rw [z]
      exact tx2_head b h.2
    · rw [z]
      exact .inr ⟨c, _, rfl, o⟩
  | .or a b, _ => .inr ⟨40, _, rfl, by decide +kernel⟩
  | .any, h => .inr (tx3_head .any h)
  | .letter c, h => .inr (tx3_head (.letter c) h)
  | .cls cs, h => .inr (tx3_head (.cls cs) h)
  | .many x, h => .inr (tx3_head (.many x) h)
  | .some x, h => .inr (tx3_head (.some x) h)
  | .maybe x, h => .inr (tx3_head (.maybe x) h)
theorem notStar_tx {f : Form} (h : okF f) {rest : List Nat} (n : notStar rest) : notStar (tx f 2 ++ rest) := by
  rcases tx2_head f h with z | ⟨c, t, z, o⟩
  · rw [z]
    exact n
  · rw [z]
    intro c' t' e
    injection e with e _
    rw [← e]
    exact open_star c o
def AtomOk (d : Nat) (f : Form) : Prop := ∀ (sg : Str) (S : RS) (rest : List Nat), From sg S (tx f 3 ++ rest) → S.L.length + pos f ≤ 13 → (tx f 3).length < 45 →
  ∃ S' pt, atomM (pExpr d) sg S = some (.ok (S', pt)) ∧ Adv S (tx f 3).length (pos f) S'
theorem item_of_atom {d : Nat} {f : Form} (A : AtomOk d f) : ItemOk d f := by
  intro sg S ss rest fr al ns room len
  rw [List.append_assoc] at fr
  obtain ⟨S1, ⟨b, e, t⟩, h1, a1⟩ := A sg S (ss ++ rest) fr room (by omega)
  have fr1 : From sg S1 (ss ++ rest) := fr.go a1
  obtain ⟨S', pt, h2, a2⟩ := stars_go sg ss 50 S1 b e t rest al fr1 ns (by omega)
  refine ⟨S', pt, ?_, ?_⟩
  · unfold itemM
    rw [h1]
    exact h2
  · exact a1.trans a2
theorem item_star {d : Nat} {f x : Form} {c : Nat} (e : tx f 3 = tx x 3 ++ [c]) (ep : pos f = pos x) (sc : inStars c = true) (X : ItemOk d x) : ItemOk d f := by
  intro sg S ss rest fr al ns room len
  rw [e] at fr len ⊢
  rw [ep] at room ⊢
  rw [List.length_append] at len ⊢
  have one : ([c] : List Nat).length = 1 := rfl
  rw [one] at len ⊢
  have fr2 : From sg S (tx x 3 ++ (c :: ss) ++ rest) := by
    rw [List.append_assoc, List.append_assoc] at fr
    rw [List.append_assoc]
    exact fr
  obtain ⟨S', pt, h1, a1⟩ := X sg S (c :: ss) rest fr2 (fun y hy => by
    rcases List.mem_cons.mp hy with z | z
    · rw [z]; exact sc
    · exact al y z) ns room (by rw [List.length_cons]; omega)
  rw [List.length_cons] at a1
  refine ⟨S', pt, h1, ?_⟩
  have z : (tx x 3).length + 1 + ss.length = (tx x 3).length + (ss.length + 1) := by omega
  rw [z]
  exact a1
theorem branch_of_item {d : Nat} {f : Form} (e : tx f 2 = tx f 3) (h : okF f) (I : ItemOk d f) : BranchOk d f := by
  intro sg S row rest fr ns room len
  rw [e] at fr len ⊢
  obtain ⟨c, t, ec, oc⟩ := tx3_head f h
  have hc : hdc sg S = c := by
    rw [ec] at fr
    exact From.hd fr
  obtain ⟨S1, it, h1, a1⟩ := I sg S [] rest (by rw [List.append_nil]; exact fr) (fun c hc => by simp at hc) ns room (by exact len)
  refine ⟨(joinM S1 row it).1, (joinM S1 row it).2, 1, by rw [ec]; exact Nat.succ_le_succ (Nat.zero_le _), fun m => ?_, a1⟩
  show (if (inAbc (hdc sg S) || inOpen (hdc sg S)) = true then (match itemM (atomM (pExpr d)) sg S with | Option.none => Option.none | Option.some (.error i) => Option.some (.error i) | Option.some (.ok (S1, it)) => branchL (itemM (atomM (pExpr d))) sg m (joinM S1 row it).1 (joinM S1 row it).2) else Option.some (.ok (S, row))) = _
  rw [hc, if_pos oc, h1]
theorem branch_none (d : Nat) : BranchOk d .none := fun sg S row rest fr ns room len => ⟨S, row, 0, Nat.le_refl _, fun m => rfl, Adv.refl S⟩
theorem branch_join {d : Nat} {a b : Form} (hb : okF b) (A : BranchOk d a) (B : BranchOk d b) : BranchOk d (.join a b) := by
  intro sg S row rest fr ns room len
  have e : tx (.join a b) 2 = tx a 2 ++ tx b 2 := rfl
  rw [e] at fr len ⊢
  rw [List.append_assoc] at fr
  rw [List.length_append] at len ⊢
  have room' : S.L.length + (pos a + pos b) ≤ 13 := room
  obtain ⟨S1, r1, j1, l1, h1, a1⟩ := A sg S row _ fr (notStar_tx hb ns) (by omega) (by omega)
  obtain ⟨S2, r2, j2, l2, h2, a2⟩ := B sg S1 r1 rest (fr.go a1) ns (by rw [a1.2]; omega) (by omega)
  refine ⟨S2, r2, j1 + j2, by omega, fun m => ?_, a1.trans a2⟩
  have z := h1 (m + j2)
  rw [show m + j2 + j1 = m + (j1 + j2) from by omega] at z
  rw [z]
  exact h2 m
/-- from a branch to an expression -/
theorem expr_of_branch {d : Nat} {f : Form} (e : tx f 1 = tx f 2) (B : BranchOk d f) : ExprOk d f := by
  intro sg S acc rest fr ns no room len
  rw [e] at fr len ⊢
  obtain ⟨S1, r1, j, lj, h1, a1⟩ := B sg S ([], [], true) rest fr ns room len
  have stop : branchL (itemM (atomM (pExpr d))) sg (50 - j) S1 r1 = Option.some (.ok (S1, r1)) := by
    obtain ⟨m, hm⟩ : ∃ m, 50 - j = m + 1 := ⟨49 - j, by omega⟩
    rw [hm]
    have z : (inAbc (hdc sg S1) || inOpen (hdc sg S1)) = false := From.hd_of (p := fun c => inAbc c || inOpen c) (fr.go a1) no (by decide +kernel)
    show (if (inAbc (hdc sg S1) || inOpen (hdc sg S1)) = true then _ else _) = _
    rw [z]
    rfl
  have hB : branchM (itemM (atomM (pExpr d))) sg S = Option.some (.ok (S1, r1)) := by
    unfold branchM
    rw [← stop, ← h1 (50 - j)]
    congr 1
    omega
  refine ⟨S1, (match acc with | Option.none => r1 | Option.some q => cmb q r1), 0, Nat.zero_le _, fun m => ?_, a1⟩
  unfold exprS
  rw [hB]
  rfl
theorem expr_or {d : Nat} {a b : Form} (A : ExprOk d a) (B : ExprOk d b) : ExprOk d (.or a b) := by
  intro sg S acc rest fr ns no room len
  have e : tx (.or a b) 1 = tx a 1 ++ [124] ++ tx b 1 := rfl
  rw [e] at fr len ⊢
  rw [List.append_assoc, List.append_assoc] at fr
  rw [List.length_append, List.length_append] at len ⊢
  have one : ([124] : List Nat).length = 1 := rfl
  rw [one] at len ⊢
  have room' : S.L.length + (pos a + pos b) ≤ 13 := room
  obtain ⟨S1, p1, j1, l1, h1, a1⟩ := A sg S acc _ fr (fun c t e => by injection e with e _; rw [← e]; decide +kernel) (fun c t e => by injection e with e _; rw [← e]; decide +kernel) (by omega) (by omega)
  have fr1 : From sg S1 (124 :: (tx b 1 ++ rest)) := fr.go a1
  obtain ⟨S2, p2, j2, l2, h2, a2⟩ := B sg S1.adv (Option.some p1) rest fr1.adv ns no (by show S1.L.length + pos b ≤ 13; rw [a1.2]; omega) (by omega)
  refine ⟨S2, p2, j1 + 1 + j2, by omega, fun m => ?_, (a1.trans (Adv.one S1)).trans a2⟩
  have z := h1 (m + j2 + 1)
  rw [show m + j2 + 1 + j1 = m + (j1 + 1 + j2) from by omega] at z
  rw [z, ← h2 m]
  show (if hdc sg S1 = 124 then _ else _) = _
  rw [if_pos fr1.hd]
  rfl
/-- a whole expression, where none goes on behind it -/
theorem expr_whole {d : Nat} {f : Form} (X : ExprOk d f) {sg : Str} {S : RS} {rest : List Nat} (fr : From sg S (tx f 1 ++ rest)) (ns : notStar rest) (no : notOpen rest) (nb : ∀ c t, rest = c :: t → c ≠ 124) (room : S.L.length + pos f ≤ 13) (len : (tx f 1).length < 45) :
    ∃ S' pt, pExpr (d + 1) sg S = Option.some (.ok (S', pt)) ∧ Adv S (tx f 1).length (pos f) S' := by
  obtain ⟨S1, p1, j, lj, h1, a1⟩ := X sg S Option.none rest fr ns no room len
  refine ⟨S1, p1, ?_, a1⟩
  have z : hdc sg S1 ≠ 124 := fun q => by
    have k : (decide (hdc sg S1 = 124)) = false := From.hd_of (p := fun c => decide (c = 124)) (fr.go a1) (fun c t e => decide_eq_false (nb c t e)) (by decide)
    rw [decide_eq_true q] at k
    cases k
  have stop : exprL (branchM (itemM (atomM (pExpr d)))) sg (50 - j) S1 p1 = Option.some (.ok (S1, p1)) := by
    obtain ⟨m, hm⟩ : ∃ m, 50 - j = m + 1 := ⟨49 - j, by omega⟩
    rw [hm]
    show (if hdc sg S1 = 124 then _ else _) = _
    rw [if_neg z]
  have w := h1 (50 - j)
  rw [stop, show 50 - j + j = 50 from by omega] at w
  exact w
theorem tx_w0 (f : Form) : tx f 0 = tx f 1 := by cases f <;> rfl
/-- a form in brackets -/
theorem atom_br {d : Nat} {f : Form} (e : tx f 3 = [40] ++ tx f 1 ++ [41]) (X : ExprOk d f) : AtomOk (d + 1) f := by
  intro sg S rest fr room len
  rw [e] at fr len ⊢
  rw [List.append_assoc, List.append_assoc] at fr
  have fr' : From sg S (40 :: (tx f 1 ++ (41 :: rest))) := fr
  rw [List.length_append, List.length_append] at len ⊢
  have one : ([40] : List Nat).length = 1 := rfl
  have one' : ([41] : List Nat).length = 1 := rfl
  rw [one, one'] at len ⊢
  obtain ⟨S1, pt, h1, a1⟩ := expr_whole X fr'.adv (fun c t e => by injection e with e _; rw [← e]; decide +kernel) (fun c t e => by injection e with e _; rw [← e]; decide +kernel) (fun c t e => by injection e with e _; rw [← e]; decide) room (by omega)
  have fr1 : From sg S1 (41 :: rest) := fr'.adv.go a1
  refine ⟨S1.adv, pt, ?_, ((Adv.one S).trans a1).trans (Adv.one S1) |> fun z => ⟨z.1, by have := z.2; omega⟩⟩
  unfold atomM
  rw [if_pos fr'.hd, h1]
  show Option.some (if hdc sg S1 = 41 then _ else _) = _
  rw [if_pos fr1.hd]
theorem atom_pos {d : Nat} {sg : Str} {S : RS} (n40 : hdc sg S ≠ 40) (room : S.L.length + 1 ≤ 13) : atomM (pExpr d) sg S = posM sg S := by
  unfold atomM
  rw [if_neg n40, if_neg (by omega)]
theorem atom_any (d : Nat) : AtomOk d .any := by
  intro sg S rest fr room len
  have fr' : From sg S (46 :: rest) := fr
  have room' : S.L.length + 1 ≤ 13 := room
  refine ⟨S.adv.more abc, ([S.L.length], [S.L.length], false), ?_, ⟨rfl, ?_⟩⟩
  · rw [atom_pos (by rw [fr'.hd]; decide) room']
    unfold posM
    rw [if_neg (by rw [fr'.hd]; decide), if_neg (by omega), if_pos fr'.hd]
    rfl
  · show (S.L ++ [abc]).length = _
    rw [List.length_append]
    rfl
theorem atom_letter (d : Nat) (c : Nat) (h : c ∈ abc.cps.toList) : AtomOk d (.letter c) := by
  intro sg S rest fr room len
  have fr' : From sg S (c :: rest) := fr
  have room' : S.L.length + 1 ≤ 13 := room
  obtain ⟨n1, n2, n3, n4, _⟩ := low_facts c h
  refine ⟨S.adv.more (sing (hdc sg S)), ([S.L.length], [S.L.length], false), ?_, ⟨rfl, ?_⟩⟩
  · rw [atom_pos (by rw [fr'.hd]; exact n4) room']
    unfold posM
    rw [if_neg (by rw [fr'.hd]; exact n1), if_neg (by omega), if_neg (by rw [fr'.hd]; exact n2), if_neg (by rw [fr'.hd]; exact n3)]
    rfl
  · show (S.L ++ [_]).length = _
    rw [List.length_append]
    rfl
theorem atom_cls (d : Nat) (cs : List Nat) (h : okF (.cls cs)) : AtomOk d (.cls cs) := by
  intro sg S rest fr room len
  obtain ⟨ne, nd, low⟩ := h
  have e : tx (.cls cs) 3 ++ rest = 91 :: (cs ++ 93 :: rest) := by
    show [91] ++ cs ++ [93] ++ rest = _
    simp
  rw [e] at fr
  have room' : S.L.length + 1 ≤ 13 := room
  have len' : (tx (.cls cs) 3).length = cs.length + 2 := by
    show ([91] ++ cs ++ [93]).length = _
    simp
  rw [len'] at len ⊢
  obtain ⟨S1, h1, a1⟩ := class_go sg cs [] 50 S.adv rest low nd (fun c _ q => by simp at q) fr.adv (by omega)
  have fr1 : From sg S1 (93 :: rest) := fr.adv.go a1
  have hm : classM sg S.adv = Option.some (.ok (S1.adv, strN (sortN cs))) := by
    unfold classM
    rw [h1]
    show Option.some (if [] ++ cs = [] then _ else if hdc sg S1 = 93 then _ else _) = _
    rw [List.nil_append, if_neg ne, if_pos fr1.hd]
  have lL : S1.L.length = S.L.length := by
    have := a1.2
    exact this
  refine ⟨S1.adv.more (strN (sortN cs)), ([S1.L.length], [S1.L.length], false), ?_, ⟨?_, ?_⟩⟩
  · rw [atom_pos (by rw [fr.hd]; decide) room']
    unfold posM
    rw [if_neg (by rw [fr.hd]; decide), if_neg (by omega), if_neg (by rw [fr.hd]; decide), if_pos fr.hd, hm]
    rfl
  · show S1.at' + 1 = _
    have := a1.1
    have z : S.adv.at' = S.at' + 1 := rfl
    omega
  · show (S1.L ++ [_]).length = _
    rw [List.length_append, lL]
    rfl
/-- all forms -/
theorem parse : ∀ f, okF f → ∀ d, (2 * sz f ≤ d → ExprOk d f) ∧ (2 * sz f + 1 ≤ d → ItemOk d f ∧ BranchOk d f)
  | .any, h, d => ⟨fun _ => expr_of_branch rfl (branch_of_item rfl h (item_of_atom (atom_any d))), fun _ => ⟨item_of_atom (atom_any d), branch_of_item rfl h (item_of_atom (atom_any d))⟩⟩
  | .letter c, h, d => ⟨fun _ => expr_of_branch rfl (branch_of_item rfl h (item_of_atom (atom_letter d c h))), fun _ => ⟨item_of_atom (atom_letter d c h), branch_of_item rfl h (item_of_atom (atom_letter d c h))⟩⟩
  | .cls cs, h, d => ⟨fun _ => expr_of_branch rfl (branch_of_item rfl h (item_of_atom (atom_cls d cs h))), fun _ => ⟨item_of_atom (atom_cls d cs h), branch_of_item rfl h (item_of_atom (atom_cls d cs h))⟩⟩
  | .none, h, d => ⟨fun _ => expr_of_branch rfl (branch_none d), fun ld => by
      obtain ⟨e, rfl⟩ : ∃ e, d = e + 1 := ⟨d - 1, by have : 0 < sz .none := by decide
                                                     omega⟩
      exact ⟨item_of_atom (atom_br rfl (expr_of_branch rfl (branch_none e))), branch_none _⟩⟩
  | .join a b, h, d => by
    have ea : sz (.join a b) = sz a + sz b + 1 := rfl
    have X : ∀ e, 2 * sz (.join a b) ≤ e → ExprOk e (.join a b) := fun e le => expr_of_branch rfl (branch_join h.2 ((parse a h.1 e).2 (by omega)).2 ((parse b h.2 e).2 (by omega)).2)
    refine ⟨X d, fun ld => ?_⟩
    obtain ⟨e, rfl⟩ : ∃ e, d = e + 1 := ⟨d - 1, by omega⟩
    exact ⟨item_of_atom (atom_br rfl (X e (by omega))), branch_join h.2 ((parse a h.1 _).2 (by omega)).2 ((parse b h.2 _).2 (by omega)).2⟩
  | .or a b, h, d => by
    have ea : sz (.or a b) = sz a + sz b + 1 := rfl
    have X : ∀ e, 2 * sz (.or a b) ≤ e → ExprOk e (.or a b) := fun e le => expr_or ((parse a h.1 e).1 (by omega)) ((parse b h.2 e).1 (by omega))
    refine ⟨X d, fun ld => ?_⟩
    obtain ⟨e, rfl⟩ : ∃ e, d = e + 1 := ⟨d - 1, by omega⟩
    have I : ItemOk (e + 1) (.or a b) := item_of_atom (atom_br rfl (X e (by omega)))
    exact ⟨I, branch_of_item rfl h I⟩
  | .many x, h, d => by
    have ea : sz (.many x) = sz x + 1 := rfl
    have I : 2 * sz (.many x) ≤ d → ItemOk d (.many x) := fun le => item_star rfl rfl (by decide +kernel) ((parse x h d).2 (by omega)).1
    exact ⟨fun le => expr_of_branch rfl (branch_of_item rfl h (I le)), fun le => ⟨I (by omega), branch_of_item rfl h (I (by omega))⟩⟩
  | .some x, h, d => by
    have ea : sz (.some x) = sz x + 1 := rfl
    have I : 2 * sz (.some x) ≤ d → ItemOk d (.some x) := fun le => item_star rfl rfl (by decide +kernel) ((parse x h d).2 (by omega)).1
    exact ⟨fun le => expr_of_branch rfl (branch_of_item rfl h (I le)), fun le => ⟨I (by omega), branch_of_item rfl h (I (by omega))⟩⟩
  | .maybe x, h, d => by
    have ea : sz (.maybe x) = sz x + 1 := rfl
    have I : 2 * sz (.maybe x) ≤ d → ItemOk d (.maybe x) := fun le => item_star rfl rfl (by decide +kernel) ((parse x h d).2 (by omega)).1
    exact ⟨fun le => expr_of_branch rfl (branch_of_item rfl h (I le)), fun le => ⟨I (by omega), branch_of_item rfl h (I (by omega))⟩⟩
end K04

namespace K04
open PySem PySem.Spec PyProof.Rows PySem.ErrX L2
/-! ### reading behind a beginning is reading from the start, moved -/
structure Sim (off : Nat) (S T : RS) : Prop where
  at_ : S.at' = T.at' + off
  len : S.L.length = T.L.length
def OutSim (off : Nat) : Option Out → Option Out → Prop
  | none, none => True
  | some (.error i), some (.error j) => i = j + off
  | some (.ok (S, _)), some (.ok (T, _)) => Sim off S T
  | _, _ => False
section
variable {sg tg : Str} {off : Nat}
theorem Sim.hd (e : sg.cps.toList.drop off = tg.cps.toList) {S T : RS} (s : Sim off S T) : hdc sg S = hdc tg T := by
  unfold hdc
  rw [List.getD_eq_getElem?_getD, List.getD_eq_getElem?_getD, ← e, List.getElem?_drop, s.at_, Nat.add_comm]
theorem Sim.adv {S T : RS} (s : Sim off S T) : Sim off S.adv T.adv := ⟨by show S.at' + 1 = T.at' + 1 + off; rw [s.at_]; omega, s.len⟩
theorem Sim.link {S T : RS} (s : Sim off S T) (F F' : List (List Nat)) : Sim off { S with F := F } { T with F := F' } := ⟨s.at_, s.len⟩
theorem Sim.more {S T : RS} (s : Sim off S T) (z z' : Str) : Sim off (S.more z) (T.more z') := ⟨s.at_, by show (S.L ++ [z]).length = (T.L ++ [z']).length; rw [List.length_append, List.length_append, s.len]; rfl⟩
theorem sim_classL (e : sg.cps.toList.drop off = tg.cps.toList) : ∀ (m : Nat) (S T : RS) (fd : List Nat), Sim off S T → (classL sg m S fd = none ∧ classL tg m T fd = none) ∨ ∃ S' T' fd', classL sg m S fd = some (S', fd') ∧ classL tg m T fd = some (T', fd') ∧ Sim off S' T'
  | 0, _, _, _, _ => .inl ⟨rfl, rfl⟩
  | m + 1, S, T, fd, s => by
    have h := s.hd e
    unfold classL
    rw [h]
    by_cases c : (inAbc (hdc tg T) && !decide (hdc tg T ∈ fd)) = true
    · rw [if_pos c, if_pos c]
      exact sim_classL e m S.adv T.adv _ s.adv
    · rw [if_neg c, if_neg c]
      exact .inr ⟨S, T, fd, rfl, rfl, s⟩
def ClsSim (off : Nat) : Option (Except Nat (RS × Str)) → Option (Except Nat (RS × Str)) → Prop
  | none, none => True
  | some (.error i), some (.error j) => i = j + off
  | some (.ok (S, _)), some (.ok (T, _)) => Sim off S T
  | _, _ => False
theorem sim_classM (e : sg.cps.toList.drop off = tg.cps.toList) {S T : RS} (s : Sim off S T) : ClsSim off (classM sg S) (classM tg T) := by
  unfold classM
  rcases sim_classL e 50 S T [] s with ⟨h1, h2⟩ | ⟨S', T', fd, h1, h2, s'⟩
  · rw [h1, h2]
    trivial
  · rw [h1, h2]
    show ClsSim off (some (if fd = [] then _ else if hdc sg S' = 93 then _ else _)) (some (if fd = [] then _ else if hdc tg T' = 93 then _ else _))
    rw [s'.hd e]
    by_cases c : fd = []
    · rw [if_pos c, if_pos c]
      exact s'.at_
    · rw [if_neg c, if_neg c]
      by_cases c2 : hdc tg T' = 93
      · rw [if_pos c2, if_pos c2]
        exact s'.adv
      · rw [if_neg c2, if_neg c2]
        exact s'.at_
theorem sim_posM (e : sg.cps.toList.drop off = tg.cps.toList) {S T : RS} (s : Sim off S T) : OutSim off (posM sg S) (posM tg T) := by
  unfold posM
  rw [s.hd e, s.len]
  by_cases c1 : hdc tg T = 10
  · rw [if_pos c1, if_pos c1]
    trivial
  rw [if_neg c1, if_neg c1]
  by_cases c2 : 12 < T.L.length
  · rw [if_pos c2, if_pos c2]
    trivial
  rw [if_neg c2, if_neg c2]
  by_cases c3 : hdc tg T = 46
  · rw [if_pos c3, if_pos c3]
    exact s.adv.more _ _
  rw [if_neg c3, if_neg c3]
  by_cases c4 : hdc tg T = 91
  · rw [if_pos c4, if_pos c4]
    have z := sim_classM e s.adv
    revert z
    cases classM sg S.adv with
    | none =>
      cases classM tg T.adv with
      | none => exact fun _ => trivial
      | some r => exact fun z => z.elim
    | some q =>
      cases q with
      | error i =>
        cases classM tg T.adv with
        | none => exact fun z => z.elim
        | some r =>
          cases r with
          | error j => exact fun z => z
          | ok y => exact fun z => z.elim
      | ok x =>
        cases classM tg T.adv with
        | none => exact fun z => z.elim
        | some r =>
          cases r with
          | error j => exact fun z => z.elim
          | ok y => exact fun z => Sim.more z _ _
  rw [if_neg c4, if_neg c4]
  exact s.adv.more _ _
def RunSim (sg tg : Str) (off : Nat) (M N : Str → RS → Option Out) : Prop := ∀ S T, Sim off S T → OutSim off (M sg S) (N tg T)
/-- what follows a run -/
theorem sim_bind {f g : RS → Part → Option Out} (h : ∀ S T p q, Sim off S T → OutSim off (f S p) (g T q)) {a b : Option Out} : OutSim off a b →
    OutSim off (match a with | none => none | some (.error i) => some (.error i) | some (.ok (S, p)) => f S p) (match b with | none => none | some (.error i) => some (.error i) | some (.ok (S, p)) => g S p) := by
  intro s
  cases a with
  | none =>
    cases b with
    | none => trivial
    | some r => exact s.elim
  | some q =>
    cases q with
    | error i =>
      cases b with
      | none => exact s.elim
      | some r =>
        cases r with
        | error j => exact s
        | ok y => exact s.elim
    | ok x =>
      cases b with
      | none => exact s.elim
      | some r =>
        cases r with
        | error j => exact s.elim
        | ok y => exact h _ _ _ _ s
theorem sim_itemL (e : sg.cps.toList.drop off = tg.cps.toList) : ∀ (m : Nat) (S T : RS) (b b' d d' : List Nat) (t t' : Bool), Sim off S T → OutSim off (itemL sg m S b d t) (itemL tg m T b' d' t')
  | 0, _, _, _, _, _, _, _, _, _ => trivial
  | m + 1, S, T, b, b', d, d', t, t', s => by
    unfold itemL
    rw [s.hd e]
    by_cases c : inStars (hdc tg T) = true
    · rw [if_pos c, if_pos c]
      refine sim_itemL e m _ _ _ _ _ _ _ _ ?_
      by_cases c2 : hdc tg T = 63
      · rw [if_pos c2, if_pos c2]
        exact s.adv
      · rw [if_neg c2, if_neg c2]
        exact s.adv.link _ _
    · rw [if_neg c, if_neg c]
      exact s
theorem itemM_eq (A : Str → RS → Option Out) (sg : Str) (S : RS) : itemM A sg S = (match A sg S with | none => none | some (.error i) => some (.error i) | some (.ok (S, p)) => itemL sg 50 S p.1 p.2.1 p.2.2) := by
  unfold itemM
  cases A sg S with
  | none => rfl
  | some q => cases q <;> rfl
theorem sim_itemM (e : sg.cps.toList.drop off = tg.cps.toList) {A : Str → RS → Option Out} (h : RunSim sg tg off A A) : RunSim sg tg off (itemM A) (itemM A) := fun S T s => by
  rw [itemM_eq, itemM_eq]
  exact sim_bind (f := fun S p => itemL sg 50 S p.1 p.2.1 p.2.2) (g := fun S p => itemL tg 50 S p.1 p.2.1 p.2.2) (fun S T p q s => sim_itemL e 50 S T _ _ _ _ _ _ s) (h S T s)
theorem sim_branchL (e : sg.cps.toList.drop off = tg.cps.toList) {I : Str → RS → Option Out} (h : RunSim sg tg off I I) : ∀ (m : Nat) (S T : RS) (p q : Part), Sim off S T → OutSim off (branchL I sg m S p) (branchL I tg m T q)
  | 0, _, _, _, _, _ => trivial
  | m + 1, S, T, p, q, s => by
    unfold branchL
    rw [s.hd e]
    by_cases c : (inAbc (hdc tg T) || inOpen (hdc tg T)) = true
    · rw [if_pos c, if_pos c]
      exact sim_bind (f := fun S it => branchL I sg m (joinM S p it).1 (joinM S p it).2) (g := fun S it => branchL I tg m (joinM S q it).1 (joinM S q it).2) (fun S T i j s => sim_branchL e h m _ _ _ _ (s.link _ _)) (h S T s)
    · rw [if_neg c, if_neg c]
      exact s
theorem sim_exprL (e : sg.cps.toList.drop off = tg.cps.toList) {B : Str → RS → Option Out} (h : RunSim sg tg off B B) : ∀ (m : Nat) (S T : RS) (p q : Part), Sim off S T → OutSim off (exprL B sg m S p) (exprL B tg m T q)
  | 0, _, _, _, _, _ => trivial
  | m + 1, S, T, p, q, s => by
    unfold exprL
    rw [s.hd e]
    by_cases c : hdc tg T = 124
    · rw [if_pos c, if_pos c]
      exact sim_bind (f := fun S p2 => exprL B sg m S (uni p.1 p2.1, uni p.2.1 p2.2.1, p.2.2 || p2.2.2)) (g := fun S p2 => exprL B tg m S (uni q.1 p2.1, uni q.2.1 p2.2.1, q.2.2 || p2.2.2)) (fun S T i j s => sim_exprL e h m _ _ _ _ s) (h S.adv T.adv s.adv)
    · rw [if_neg c, if_neg c]
      exact s
theorem sim_atomM (e : sg.cps.toList.drop off = tg.cps.toList) {X : Str → RS → Option Out} (h : RunSim sg tg off X X) : RunSim sg tg off (atomM X) (atomM X) := fun S T s => by
  unfold atomM
  rw [s.hd e, s.len]
  by_cases c : hdc tg T = 40
  · rw [if_pos c, if_pos c]
    refine sim_bind (f := fun S1 pt => some (if hdc sg S1 = 41 then .ok (S1.adv, pt) else .error S1.at')) (g := fun S1 pt => some (if hdc tg S1 = 41 then .ok (S1.adv, pt) else .error S1.at')) (fun S T i j s => ?_) (h S.adv T.adv s.adv)
    show OutSim off (some (if hdc sg S = 41 then _ else _)) (some (if hdc tg T = 41 then _ else _))
    rw [s.hd e]
    by_cases c2 : hdc tg T = 41
    · rw [if_pos c2, if_pos c2]
      exact s.adv
    · rw [if_neg c2, if_neg c2]
      exact s.at_
  · rw [if_neg c, if_neg c]
    by_cases c2 : 12 < T.L.length
    · rw [if_pos c2, if_pos c2]
      exact s.at_
    · rw [if_neg c2, if_neg c2]
      exact sim_posM e s
theorem sim_exprM (e : sg.cps.toList.drop off = tg.cps.toList) {B : Str → RS → Option Out} (h : RunSim sg tg off B B) : RunSim sg tg off (exprM B) (exprM B) := fun S T s =>
  sim_bind (f := fun S p => exprL B sg 50 S p) (g := fun S p => exprL B tg 50 S p) (fun S T p q s => sim_exprL e h 50 S T _ _ s) (h S T s)
theorem sim_pExpr (e : sg.cps.toList.drop off = tg.cps.toList) : ∀ n, RunSim sg tg off (pExpr n) (pExpr n)
  | 0 => fun _ _ _ => trivial
  | n + 1 => sim_exprM e fun S T s => sim_branchL e (sim_itemM e (sim_atomM e (sim_pExpr e n))) 50 S T _ _ s
end
/-- where reading goes wrong; none: nowhere -/
def errOf : Option (Except Nat PM) → Option (Option Nat)
  | none => none
  | some (.error i) => some (some i)
  | some (.ok _) => some none
theorem errOf_bad {r : Option (Except Nat PM)} {i : Nat} (h : errOf r = some (some i)) : r = some (.error i) := by
  cases r with
  | none => cases h
  | some q =>
    cases q with
    | error j =>
      have : j = i := by injection h with h; injection h
      rw [this]
    | ok m => cases h
theorem errOf_ok {r : Option (Except Nat PM)} (h : errOf r = some none) : ∃ m, r = some (.ok m) := by
  cases r with
  | none => cases h
  | some q =>
    cases q with
    | error j => cases h
    | ok m => exact ⟨m, rfl⟩
/-- the end of reading: what goes wrong at last -/
def endM (len : Nat) (sg : Str) : Option Out → Option (Option Nat)
  | none => none
  | some (.error i) => some (some i)
  | some (.ok (S2, _)) => let S3 := if hdc sg S2 = 36 then S2.adv else S2
    if S3.at' < len then some (some S3.at') else some none
theorem errOf_readM (len : Nat) (sg : Str) (S : RS) : errOf (readM len sg S) = endM len sg (pExpr deep sg (if hdc sg S = 94 then S.adv else S)) := by
  unfold readM
  cases pExpr deep sg (if hdc sg S = 94 then S.adv else S) with
  | none => rfl
  | some q =>
    cases q with
    | error i => rfl
    | ok x =>
      obtain ⟨S2, b, e, t⟩ := x
      show errOf (some (if (if hdc sg S2 = 36 then S2.adv else S2).at' < len then _ else _)) = (if (if hdc sg S2 = 36 then S2.adv else S2).at' < len then _ else _)
      by_cases c : (if hdc sg S2 = 36 then S2.adv else S2).at' < len
      · rw [if_pos c, if_pos c]
        rfl
      · rw [if_neg c, if_neg c]
        rfl
theorem sim_end {sg tg : Str} {off len : Nat} (e : sg.cps.toList.drop off = tg.cps.toList) {a b : Option Out} (s : OutSim off a b) {i : Nat} (h : endM len tg b = some (some i)) : endM (len + off) sg a = some (some (i + off)) := by
  cases a with
  | none =>
    cases b with
    | none => cases h
    | some r => exact s.elim
  | some q =>
    cases q with
    | error k =>
      cases b with
      | none => exact s.elim
      | some r =>
        cases r with
        | error j =>
          have : j = i := by injection h with h; injection h
          have s' : k = j + off := s
          rw [s', this]
          rfl
        | ok y => exact s.elim
    | ok x =>
      obtain ⟨S, p⟩ := x
      cases b with
      | none => exact s.elim
      | some r =>
        cases r with
        | error j => exact s.elim
        | ok y =>
          obtain ⟨T, q⟩ := y
          have s' : Sim off S T := s
          have h' : (if (if hdc tg T = 36 then T.adv else T).at' < len then some (some (if hdc tg T = 36 then T.adv else T).at') else some none) = some (some i) := h
          show (if (if hdc sg S = 36 then S.adv else S).at' < len + off then some (some (if hdc sg S = 36 then S.adv else S).at') else some none) = _
          rw [s'.hd e]
          obtain ⟨S3, T3, eS, eT, s3⟩ : ∃ S3 T3, S3 = (if hdc tg T = 36 then S.adv else S) ∧ T3 = (if hdc tg T = 36 then T.adv else T) ∧ Sim off S3 T3 := by
            refine ⟨_, _, rfl, rfl, ?_⟩
            by_cases c : hdc tg T = 36
            · rw [if_pos c, if_pos c]
              exact s'.adv
            · rw [if_neg c, if_neg c]
              exact s'
          rw [← eT] at h'
          rw [← eS]
          by_cases c : T3.at' < len
          · rw [if_pos c] at h'
            have : T3.at' = i := by injection h' with h'; injection h'
            rw [if_pos (by rw [s3.at_]; omega), s3.at_, this]
          · rw [if_neg c] at h'
            cases h'
end K04

namespace K04
open PySem PySem.Spec PyProof.Rows PySem.ErrX L2
/-! ### the law's known texts -/
def E (z : Str) : Option (Option Nat) := errOf (patM z)
def bads1 : List (Str × Nat) := [(")", 0), ("(", 1), ("(a", 2), ("(a|", 3), ("((a)", 4), ("[", 1), ("[]", 1), ("[a", 2)]
def bads2 : List (Str × Nat) := [("[aa]", 2), ("[aB]", 2), ("[.]", 1), ("[^a]", 1), ("|*", 1), ("|+a", 1), ("(*a)", 1)]
def bads3 : List (Str × Nat) := [("(|?)", 2), ("A", 0)]
def bads4 : List (Str × Nat) := [("1", 0), (" ", 0), ("a b", 1), ("^", 0), ("a^", 1), ("(^a)", 1), ("$a", 1), ("a$$", 2)]
def bads5 : List (Str × Nat) := [("(a$)", 2), ("]", 0), ("a]", 1), ("{", 0), ("a)b", 1), ("a())", 3), ("[ab", 3), ("\n", 0)]
def bads6 : List (Str × Nat) := [("a'", 1), ("[a-c]", 2)]
def bads : List (Str × Nat) := bads1 ++ bads2 ++ bads3 ++ bads4 ++ bads5 ++ bads6
def seven : List (Str × Nat) := [("*", 0), ("+a", 0), ("?", 0), ("^*", 1), ("^^", 1), ("^|*", 2), ("^$a", 2)]
def rep (z : Str) (n : Nat) : Str := ⟨(List.replicate n z.cps.toList).flatten.toArray⟩
def rights : List Str := ["", "^", "$", "^$", "()", "|", "()*", "a**", "(|a)+", "[cba]", rep "a" 12, rep "." 12, "[z]?"]
theorem e_seven : ∀ x ∈ seven, E x.1 = some (some x.2) := by decide +kernel
theorem e_rights : ∀ x ∈ rights, E x = some none := by decide +kernel
theorem e_full : E (rep "a" 12 ++ rep "*" 28) = some none := by decide +kernel
theorem e_over : ∀ n, n < 30 → E (rep "a" 12 ++ rep "*" (29 + n)) = some (some 40) := by decide +kernel
theorem e_13 : E (rep "a" 13) = some (some 12) := by decide +kernel
theorem e_14 : E (rep "a" 12 ++ "(|[b])") = some (some 14) := by decide +kernel
theorem e_alts : ∀ n, n < 30 → E (rep "a|" 12 ++ "." ++ rep "a" n) = some (some 24) := by decide +kernel
theorem e_dollar : E (rep "a" 12 ++ rep "*" 28 ++ "$") = some (some 40) := by decide +kernel
/-- behind a beginning with n positions -/
def tailE (n : Nat) (z : Str) : Option (Option Nat) :=
  endM z.length (sgOf z) (match branchL (itemM (atomM (pExpr 41))) (sgOf z) 49 ⟨0, List.replicate n "", []⟩ ([], [], true) with
    | none => none
    | some (.error i) => some (.error i)
    | some (.ok (S, p)) => exprL (branchM (itemM (atomM (pExpr 41)))) (sgOf z) 50 S p)
theorem e_tail : ∀ n, n < 10 → ∀ x ∈ bads, tailE n x.1 = some (some x.2) := by decide +kernel
theorem bads_len : ∀ x ∈ bads, x.1.length ≤ 5 := by decide +kernel
theorem bads_star : ∀ x ∈ bads, inStars ((x.1.cps.toList ++ [10]).headD 10) = false := by decide +kernel
end K04

namespace K04
open PySem PySem.Spec PyProof.Rows PySem.ErrX L2
/-! ### a bad end behind a right beginning -/
def tS (cs : List Nat) : Str := ⟨cs.toArray⟩
theorem tS_list (cs : List Nat) : (tS cs).cps.toList = cs := List.toList_toArray
theorem tS_len (cs : List Nat) : (tS cs).length = cs.length := by
  have e : (tS cs).length = (tS cs).cps.toList.length := Array.length_toList.symm
  rw [e, tS_list]
theorem sgOf_short {z : Str} (h : z.length ≤ 40) : (sgOf z).cps.toList = z.cps.toList ++ [10] := by
  have l : z.length = z.cps.toList.length := Array.length_toList.symm
  rw [sgOf_list, List.take_of_length_le (by omega)]
def begin' (f : Form) : List Nat := [40] ++ tx f 0 ++ [41]
theorem begin_len (f : Form) : (begin' f).length = (tx f 0).length + 2 := by
  unfold begin'
  rw [List.length_append, List.length_append]
  show 1 + (tx f 0).length + 1 = _
  omega
theorem tail_go {sg tg : Str} {off : Nat} (e : sg.cps.toList.drop off = tg.cps.toList) {n d : Nat} {S1 : RS} {row : Part} (s : Sim off S1 ⟨0, List.replicate n "", []⟩) :
    OutSim off (match branchL (itemM (atomM (pExpr d))) sg 49 S1 row with | none => none | some (.error i) => some (.error i) | some (.ok (S, p)) => exprL (branchM (itemM (atomM (pExpr d)))) sg 50 S p)
      (match branchL (itemM (atomM (pExpr d))) tg 49 ⟨0, List.replicate n "", []⟩ ([], [], true) with | none => none | some (.error i) => some (.error i) | some (.ok (S, p)) => exprL (branchM (itemM (atomM (pExpr d)))) tg 50 S p) := by
  have I : RunSim sg tg off (itemM (atomM (pExpr d))) (itemM (atomM (pExpr d))) := sim_itemM e (sim_atomM e (sim_pExpr e d))
  exact sim_bind (f := fun S p => exprL (branchM (itemM (atomM (pExpr d)))) sg 50 S p) (g := fun S p => exprL (branchM (itemM (atomM (pExpr d)))) tg 50 S p)
    (fun S T p q s => sim_exprL e (fun S T s => sim_branchL e I 50 S T _ _ s) 50 S T p q s) (sim_branchL e I 49 _ _ _ _ s)
theorem bad_behind {f : Form} (hf : okF f) (hs : sz f ≤ 20) (hl : (begin' f).length ≤ 25) (hp : pos f ≤ 8) {x : Str × Nat} (hx : x ∈ bads) :
    patM (tS (begin' f) ++ x.1) = some (.error ((begin' f).length + x.2)) := by
  obtain ⟨sg, esg⟩ : ∃ sg, sg = sgOf (tS (begin' f) ++ x.1) := ⟨_, rfl⟩
  have lx := bads_len x hx
  have lenz : (tS (begin' f) ++ x.1).length = (begin' f).length + x.1.length := by rw [Str.length_append, tS_len]
  have lxl : x.1.length = x.1.cps.toList.length := Array.length_toList.symm
  have e1 : sg.cps.toList = begin' f ++ (x.1.cps.toList ++ [10]) := by
    rw [esg, sgOf_short (by omega)]
    have z : (tS (begin' f) ++ x.1).cps.toList = (tS (begin' f)).cps.toList ++ x.1.cps.toList := TL.tl_append _ _
    rw [z, tS_list, List.append_assoc]
  have e2 : (sgOf x.1).cps.toList = x.1.cps.toList ++ [10] := sgOf_short (by omega)
  have dr : sg.cps.toList.drop (begin' f).length = (sgOf x.1).cps.toList := by rw [e1, e2, List.drop_left]
  have fr : From sg S0 (40 :: (tx f 1 ++ (41 :: (x.1.cps.toList ++ [10])))) := by
    unfold From
    show sg.cps.toList.drop 0 = _
    rw [List.drop_zero, e1]
    unfold begin'
    rw [tx_w0]
    simp
  obtain ⟨X, _⟩ := parse f hf 40
  have lt : (tx f 1).length + 2 ≤ 25 := by
    rw [begin_len, tx_w0] at hl
    exact hl
  have r0 : S0.adv.L.length + pos f ≤ 13 := by
    show 1 + pos f ≤ 13
    omega
  obtain ⟨S1, pt, h1, a1⟩ := expr_whole (X (by omega)) fr.adv (fun c t e => by injection e with e _; rw [← e]; decide +kernel) (fun c t e => by injection e with e _; rw [← e]; decide +kernel) (fun c t e => by injection e with e _; rw [← e]; decide) r0 (by omega)
  have fr1 : From sg S1 (41 :: (x.1.cps.toList ++ [10])) := fr.adv.go a1
  have hA : atomM (pExpr 41) sg S0 = some (.ok (S1.adv, pt)) := by
    unfold atomM
    rw [if_pos fr.hd, h1]
    show some (if hdc sg S1 = 41 then _ else _) = _
    rw [if_pos fr1.hd]
  have ns : inStars (hdc sg S1.adv) = false := by
    have z := bads_star x hx
    have h2 : From sg S1.adv (x.1.cps.toList ++ [10]) := fr1.adv
    cases q : x.1.cps.toList with
    | nil =>
      rw [q] at h2
      rw [h2.hd]
      decide +kernel
    | cons c t =>
      rw [q] at h2 z
      rw [h2.hd]
      exact z
  obtain ⟨b, en, t⟩ := pt
  have hI : itemM (atomM (pExpr 41)) sg S0 = some (.ok (S1.adv, b, en, t)) := by
    unfold itemM
    rw [hA]
    show itemL sg (49 + 1) S1.adv b en t = _
    unfold itemL
    rw [ns]
    rfl
  have hB : branchM (itemM (atomM (pExpr 41))) sg S0 = branchL (itemM (atomM (pExpr 41))) sg 49 (joinM S1.adv ([], [], true) (b, en, t)).1 (joinM S1.adv ([], [], true) (b, en, t)).2 := by
    show (if (inAbc (hdc sg S0) || inOpen (hdc sg S0)) = true then (match itemM (atomM (pExpr 41)) sg S0 with | none => none | some (.error i) => some (.error i) | some (.ok (S1, it)) => branchL (itemM (atomM (pExpr 41))) sg 49 (joinM S1 ([], [], true) it).1 (joinM S1 ([], [], true) it).2) else some (.ok (S0, ([], [], true)))) = _
    rw [if_pos (by rw [fr.hd]; decide +kernel), hI]
  have sim : Sim (begin' f).length (joinM S1.adv ([], [], true) (b, en, t)).1 ⟨0, List.replicate (pos f + 1) "", []⟩ := by
    refine ⟨?_, ?_⟩
    · show S1.at' + 1 = 0 + (begin' f).length
      have z := a1.1
      have z2 : S0.adv.at' = 1 := rfl
      rw [begin_len, tx_w0]
      omega
    · show S1.L.length = (List.replicate (pos f + 1) (Str.ofString "")).length
      rw [List.length_replicate, a1.2]
      show 1 + pos f = _
      omega
  have out := tail_go dr (d := 41) (row := (joinM S1.adv ([], [], true) (b, en, t)).2) sim
  rw [← hB] at out
  have te := e_tail (pos f + 1) (by omega) x hx
  have fin := sim_end dr out te
  refine errOf_bad ?_
  have ne : hdc sg S0 ≠ 94 := by rw [fr.hd]; decide
  show errOf (readM (tS (begin' f) ++ x.1).length (sgOf (tS (begin' f) ++ x.1)) S0) = _
  rw [errOf_readM, ← esg, if_neg ne, lenz, Nat.add_comm (begin' f).length x.2, Nat.add_comm (begin' f).length]
  exact fin
end K04

namespace K04
open PySem PySem.Spec PyProof.Rows PySem.ErrX L2
section
variable {P : Program} {w : World} {K : PySem.W.Frag} {mg : Str → Option Value} {base : Heap}
/-- the built-in names that the law's helpers ask stand free -/
structure Blt (mg : Str → Option Value) : Prop where
  sum : mg "sum" = none
  len : mg "len" = none
  abs : mg "abs" = none
  int : mg "int" = none
theorem nz1 : (2147483629 : Int) ≠ 0 := by decide
theorem nz2 : (2147483647 : Int) ≠ 0 := by decide
theorem bit_small (b : Bool) : -(2 ^ 64) < (if b = true then (1 : Int) else 0) ∧ (if b = true then (1 : Int) else 0) < 2 ^ 64 := by cases b <;> decide
theorem mod_small (x : Int) : -(2 ^ 64) < x.fmod 2147483647 ∧ x.fmod 2147483647 < 2 ^ 64 := by
  have h1 := Int.fmod_nonneg_of_pos x (show (0 : Int) < 2147483647 by decide)
  have h2 := Int.fmod_lt_of_pos x (show (0 : Int) < 2147483647 by decide)
  omega
/-- a pool: two ints in a new list -/
def spPool (K : PySem.W.Frag) : Sp := fun vs H Q _ => ∃ (a : Addr) (ns : List Int) (k : Int), vs = [.ref a, .int k] ∧ SqL K H a (ns.map V.int) ∧ ns.length ≤ 1000 ∧ 0 ≤ k ∧ k ≤ 1000 ∧ ∀ H' p g m, Same H H' → H p = none → H' p = some (.lst [.int g, .int m]) → Q (.ref p) H'
theorem scO : FnScope ["_law_script", "_law_k", "_law_cell", "_law_great", "_law_small", "_law_mixed"] ["_law_script", "_law_k"] (defScope sPool) := ⟨rfl, rfl, rfl, by decide +kernel, rfl, by decide +kernel, by decide +kernel⟩
theorem ok_pool {f : Addr} {fd : FuncData} (F : Fun K "_law_pool" "_law_pool" sPool f fd) (T : Blt mg) : FnOk P w K mg base CX0 1 f fd ["_law_script", "_law_k"] (spPool K) := by
  refine F.ok scO (fun vs H Q E h => ?_) (fun cdv A outer s H vs Q E hr h => ?_)
  · obtain ⟨a, ns, k, rfl, _⟩ := h
    rfl
  · obtain ⟨a, ns, k, rfl, hS, hlen, k0, k1, q⟩ := h
    refine ⟨_, pss_cons (ps_set (i := 2) scO.nd rfl (.inl rfl) (pe_op op_add (pe_op op_mul pe_int (pe_callB (cr_sum rfl) (by rfl) T.sum (by decide +kernel) (pa_cons (pe_slice sl_list (pv 0) po_none (po_some pe_int)) pa_nil))) (pv 1)))
      (pss_cons (ps_if (pt_cmpR op_lt (pv 1) (pe_callB call_len_seq (by rfl) T.len PySem.boot_len (pa_cons (pv 0) pa_nil)) (nomark _)) (pss_one (ps_set (i := 2) scO.nd rfl (.inl rfl) (pe_ix ix_list (pv 0) (pv 1) (fun _ _ => rfl)))) pss_nil)
      (pss_cons (ps_set (i := 3) scO.nd rfl (.inl rfl) (pe_callB call_abs (by rfl) T.abs (by decide +kernel) (pa_cons (pe_callTy call_int1 (by rfl) T.int (by decide +kernel) (pa_cons (pv 2) pa_nil)) pa_nil)))
      (pss_cons (ps_set (i := 4) scO.nd rfl (.inl rfl) (pe_op op_modN (pe_callTy call_int1 (by rfl) T.int (by decide +kernel) (pa_cons (pv 3) pa_nil)) pe_int))
      (pss_cons (ps_set (i := 5) scO.nd rfl (.inl rfl) (pe_op op_modN (pe_callTy call_int1 (by rfl) T.int (by decide +kernel) (pa_cons (pe_op op_mul (pe_op op_add (pe_op op_add (pe_op op_add (pv 4) (pe_op op_mul (pe_op op_mul pe_int (pv 1)) (pv 1))) (pe_op op_mul pe_int (pv 1))) pe_int) pe_int) pa_nil)) pe_int))
      (pss_one (ps_ret (pe_lst (pa_cons (pe_op op_mul (pv 3) (pe_callTy call_int1 (by rfl) T.int (by decide +kernel) (pa_cons (pe_cmpR op_ge (pv 3) (pe_op op_pow pe_int pe_int) (nomark _)) pa_nil))) (pa_cons (pe_op op_modN (pe_callTy call_int1 (by rfl) T.int (by decide +kernel) (pa_cons (pe_op op_mul (pv 5) (pv 5)) pa_nil)) pe_int) pa_nil))))))))), ?_⟩
    refine ⟨.ref a, rfl, 63, rfl, a, ns.map V.int, rfl, hS, fun c nc => ?_⟩
    have nn : Same H (upd H c (.lst (cutV (ns.map V.int) none (some 63)))) := same_upd nc
    obtain ⟨ms, em⟩ : ∃ ms : List Int, cutV (ns.map V.int) none (some 63) = ms.map V.int := ⟨_, by unfold cutV; rw [← List.map_drop, ← List.map_take]⟩
    have hs : SqL K (upd H c (.lst (cutV (ns.map V.int) none (some 63)))) c (ms.map V.int) := .inl (.inl (by rw [upd_same, em]))
    have item : (decide (k < ((ns.map V.int).length : Int))) = true → atI (ns.map V.int) k = some (.int (ns.getD k.toNat 0)) := fun e => by
      have e1 := of_decide_eq_true e
      rw [List.length_map] at e1
      have e2 : k.toNat < ns.length := by omega
      have e3 : k = (k.toNat : Int) := by omega
      rw [e3]
      refine atI_nat ?_
      rw [List.getElem?_map, List.getElem?_eq_getElem e2, Int.toNat_natCast, List.getD_eq_getElem?_getD, List.getElem?_eq_getElem e2]
      rfl
    refine ⟨c, ms, rfl, hs, 11, ms.sum, rfl, rfl, .inl ⟨by decide, by decide⟩, .int k, rfl, _, _, rfl, rfl, ?_⟩
    refine ⟨.int k, rfl, .ref a, rfl, a, ns.map V.int, rfl, .inl (nn.seq hS), _, _, rfl, rfl, _, rfl, ite2 (fun e => ⟨.ref a, rfl, .int k, rfl, a, _, k, _, rfl, rfl, nn.seq hS, item e, ?_⟩) (fun e => ?_)⟩
    all_goals
      refine ⟨_, rfl, .inl ⟨_, rfl, _, rfl, ?_⟩⟩
      refine ⟨_, rfl, .inl ⟨_, rfl, _, _, rfl, rfl, nz1, ?_⟩⟩
      refine ⟨_, rfl, _, rfl, _, _, rfl, rfl, .inl ⟨by decide, by decide⟩, _, rfl, _, _, rfl, rfl, .inr ⟨by omega, by omega⟩, _, _, rfl, rfl, _, rfl, _, _, rfl, rfl, .inl ⟨by decide, by decide⟩, _, _, rfl, rfl, _, _, rfl, rfl, _, _, rfl, rfl, .inr ⟨by decide, by decide⟩, .inl ⟨_, rfl, _, _, rfl, rfl, nz2, ?_⟩⟩
      refine ⟨_, rfl, _, rfl, _, _, rfl, rfl, ⟨by decide, by decide, by decide⟩, _, _, rfl, rfl, .inr ⟨_, rfl, _, _, rfl, rfl, .inr (bit_small _), _, rfl, _, rfl, _, _, rfl, rfl, .inl (mod_small _), .inl ⟨_, rfl, _, _, rfl, rfl, nz1, ?_⟩⟩⟩
      refine ⟨(by show 2 ≤ sizeLine; decide), fun p np => ?_⟩
      have n0 : H p = none := by
        cases z : H p with
        | none => rfl
        | some o =>
          rw [nn _ _ z] at np
          cases np
      exact q _ p _ _ (nn.trans (same_upd np)) n0 upd_same
/-- a draw below many: the pool goes on -/
def spDraw : Sp := fun vs H Q _ => ∃ (p : Addr) (many g m : Int), vs = [.ref p, .int many] ∧ H p = some (.lst [.int g, .int m]) ∧ 0 < many ∧ many < 1073741824 ∧ ∀ r g' m', 0 ≤ r → r < many → Q (.int r) (upd H p (.lst [.int g', .int m']))
theorem scD : FnScope ["_law_pool_here", "_law_many", "_law_found"] ["_law_pool_here", "_law_many"] (defScope sDraw) := ⟨rfl, rfl, rfl, by decide +kernel, rfl, by decide +kernel, by decide +kernel⟩
theorem ok_draw {f : Addr} {fd : FuncData} (F : Fun K "_law_draw" "_law_draw" sDraw f fd) (T : Blt mg) : FnOk P w K mg base CX0 1 f fd ["_law_pool_here", "_law_many"] spDraw := by
  refine F.ok scD (fun vs H Q E h => ?_) (fun cdv A outer s H vs Q E hr h => ?_)
  · obtain ⟨p, many, g, m, rfl, _⟩ := h
    rfl
  · obtain ⟨p, many, g, m, rfl, hp, m0, m1, q⟩ := h
    refine ⟨_, pss_cons (ps_if (pt_cmpR op_gt (pe_ix ix_list (pv 0) pe_int (fun _ _ => rfl)) pe_int (nomark _))
        (pss_cons (ps_set (i := 2) scD.nd rfl (.inl rfl) (pe_op op_modN (pe_callTy call_int1 (by rfl) T.int (by decide +kernel) (pa_cons (pe_ix ix_list (pv 0) pe_int (fun _ _ => rfl)) pa_nil)) (pv 1)))
        (pss_cons (ps_asg (pe_op op_fdivN (pe_ix ix_list (pv 0) pe_int (fun _ _ => rfl)) (pv 1)) (pg_sub (pv 0) pe_int set_list))
        (pss_one (ps_ret (pv 2))))) pss_nil)
      (pss_cons (ps_asg (pe_op op_modN (pe_callTy call_int1 (by rfl) T.int (by decide +kernel) (pa_cons (pe_op op_add (pe_op op_mul (pe_ix ix_list (pv 0) pe_int (fun _ _ => rfl)) pe_int) pe_int) pa_nil)) pe_int) (pg_sub (pv 0) pe_int set_list))
      (pss_one (ps_ret (pe_op op_modN (pe_callTy call_int1 (by rfl) T.int (by decide +kernel) (pa_cons (pe_op op_fdiv (pe_op op_modN (pe_callTy call_int1 (by rfl) T.int (by decide +kernel) (pa_cons (pe_op op_mul (pe_ix ix_list (pv 0) pe_int (fun _ _ => rfl)) (pe_ix ix_list (pv 0) pe_int (fun _ _ => rfl))) pa_nil)) pe_int) pe_int) pa_nil)) (pv 1))))), ?_⟩
    have sq : SqL K H p [.int g, .int m] := .inl (.inl hp)
    have nz : many ≠ 0 := by omega
    have lo : ∀ x : Int, 0 ≤ x.fmod many ∧ x.fmod many < many := fun x => ⟨Int.fmod_nonneg_of_pos x m0, Int.fmod_lt_of_pos x m0⟩
    refine ⟨.ref p, rfl, p, _, 0, .int g, rfl, rfl, sq, atI_nat (j := 0) rfl, _, _, rfl, rfl, _, rfl, ite2 (fun e => ?_) (fun e => ?_)⟩
    · refine ⟨.ref p, rfl, p, _, 0, .int g, rfl, rfl, sq, atI_nat (j := 0) rfl, .inl ⟨_, rfl, .int many, rfl, _, _, rfl, rfl, nz, ?_⟩⟩
      refine ⟨.ref p, rfl, p, _, 0, .int g, rfl, rfl, sq, atI_nat (j := 0) rfl, .int many, rfl, _, _, rfl, rfl, ⟨nz, by omega⟩, .ref p, rfl, p, _, _, 0, rfl, rfl, hp, rfl, ?_⟩
      exact ⟨_, rfl, q _ _ _ (lo g).1 (lo g).2⟩
    · refine ⟨.ref p, rfl, p, _, 1, .int m, rfl, rfl, sq, atI_nat (j := 1) rfl, _, _, rfl, rfl, .inr ⟨by decide, by decide⟩, _, _, rfl, rfl, .inl ⟨_, rfl, _, _, rfl, rfl, nz2, .ref p, rfl, p, _, _, 1, rfl, rfl, hp, rfl, ?_⟩⟩
      refine ⟨.ref p, rfl, p, _, 1, _, rfl, rfl, .inl (.inl upd_same), atI_nat (j := 1) rfl, .ref p, rfl, p, _, 1, _, rfl, rfl, .inl (.inl upd_same), atI_nat (j := 1) rfl, _, _, rfl, rfl, .inl (mod_small _), .inl ⟨_, rfl, _, _, rfl, rfl, nz1, _, _, rfl, rfl, ⟨by decide, by decide⟩, .inl ⟨_, rfl, .int many, rfl, _, _, rfl, rfl, nz, ?_⟩⟩⟩
      exact q _ _ _ (lo _).1 (lo _).2
end
/-! ### texts drawn -/
/-- all as it was but at p -/
def But (p : Addr) (H H' : Hp) : Prop := ∀ b o, b ≠ p → H b = some o → H' b = some o
theorem But.refl (p : Addr) (H : Hp) : But p H H := fun _ _ _ e => e
theorem But.trans {p : Addr} {H1 H2 H3 : Hp} (a : But p H1 H2) (b : But p H2 H3) : But p H1 H3 := fun c o n e => b c o n (a c o n e)
theorem But.upd {p : Addr} {H : Hp} {o : HO} : But p H (upd H p o) := fun b x n e => by
  rw [upd_ne n]
  exact e
theorem But.of {p : Addr} {H H' : Hp} (s : Same H H') : But p H H' := fun b o _ e => s b o e
/-- a pool at p -/
def Pool (H : Hp) (p : Addr) : Prop := ∃ g m : Int, H p = some (.lst [.int g, .int m])
end K04

namespace K04
open PySem PySem.Spec PyProof.Rows PySem.ErrX L2
/-! ### the law's _law_tree -/
/-- a form as the law keeps it: nested lists -/
def FormV (H : Hp) : Form → Addr → Prop
  | .any, a => H a = some (.lst [.str "any"])
  | .letter c, a => H a = some (.lst [.str "letter", .str (sing c)])
  | .cls cs, a => H a = some (.lst [.str "class", .str (tS cs)])
  | .none, a => H a = some (.lst [.str "none"])
  | .join f g, a => ∃ b c, H a = some (.lst [.str "join", .ref b, .ref c]) ∧ FormV H f b ∧ FormV H g c
  | .or f g, a => ∃ b c, H a = some (.lst [.str "or", .ref b, .ref c]) ∧ FormV H f b ∧ FormV H g c
  | .many f, a => ∃ b, H a = some (.lst [.str "many", .ref b]) ∧ FormV H f b
  | .some f, a => ∃ b, H a = some (.lst [.str "some", .ref b]) ∧ FormV H f b
  | .maybe f, a => ∃ b, H a = some (.lst [.str "maybe", .ref b]) ∧ FormV H f b
theorem FormV.keep {H H' : Hp} (k : ∀ b s r, H b = some (.lst (.str s :: r)) → H' b = some (.lst (.str s :: r))) : ∀ {f : Form} {a : Addr}, FormV H f a → FormV H' f a
  | .any, _, h => k _ _ _ h
  | .letter _, _, h => k _ _ _ h
  | .cls _, _, h => k _ _ _ h
  | .none, _, h => k _ _ _ h
  | .join _ _, _, ⟨b, c, h, x, y⟩ => ⟨b, c, k _ _ _ h, x.keep k, y.keep k⟩
  | .or _ _, _, ⟨b, c, h, x, y⟩ => ⟨b, c, k _ _ _ h, x.keep k, y.keep k⟩
  | .many _, _, ⟨b, h, x⟩ => ⟨b, k _ _ _ h, x.keep k⟩
  | .some _, _, ⟨b, h, x⟩ => ⟨b, k _ _ _ h, x.keep k⟩
  | .maybe _, _, ⟨b, h, x⟩ => ⟨b, k _ _ _ h, x.keep k⟩
theorem FormV.same {H H' : Hp} (s : Same H H') {f : Form} {a : Addr} (h : FormV H f a) : FormV H' f a := h.keep fun b _ _ e => s b _ e
theorem FormV.but {H H' : Hp} {p : Addr} (hp : Pool H p) (s : But p H H') {f : Form} {a : Addr} (h : FormV H f a) : FormV H' f a := h.keep fun b z r e => s b _ (fun q => by
  obtain ⟨g, m, e2⟩ := hp
  rw [q, e2] at e
  injection e with e
  injection e with e
  injection e with e
  cases e) e
/-- what a form's list begins with -/
def wordOf : Form → Str
  | .any => "any" | .letter _ => "letter" | .cls _ => "class" | .none => "none" | .join _ _ => "join" | .or _ _ => "or" | .many _ => "many" | .some _ => "some" | .maybe _ => "maybe"
/-- the signs that letters and classes are drawn of -/
structure GoodS (s : Str) : Prop where
  ne : s.cps.toList ≠ []
  nd : s.cps.toList.Nodup
  low : ∀ c ∈ s.cps.toList, c ∈ abc.cps.toList
  few : s.length ≤ 26
theorem cut_list (s : Str) (r : Int) (h : 0 ≤ r) : (cutS s Option.none (Option.some (1 + r))).cps.toList = s.cps.toList.take (1 + r).toNat := by
  show (((s.cps.toList.drop (HT.sIx s.length 0 Option.none)).take (HT.sIx s.length s.length (Option.some (1 + r)) - HT.sIx s.length 0 Option.none)).toArray).toList = _
  obtain ⟨n, hn⟩ : ∃ n : Nat, 1 + r = ((n : Nat) : Int) := ⟨(1 + r).toNat, by omega⟩
  rw [hn, HT.sIx_none, HT.sIx_nat, List.drop_zero, Nat.sub_zero, Int.toNat_natCast]
  have l : s.length = s.cps.toList.length := Array.length_toList.symm
  rw [l, ← List.take_eq_take_min]
theorem tS_of (z : Str) : z = tS z.cps.toList := by
  unfold tS
  rw [Array.toArray_toList]
theorem GoodS.cut {s : Str} (g : GoodS s) {r : Int} (h : 0 ≤ r) : okF (.cls (cutS s Option.none (Option.some (1 + r))).cps.toList) := by
  rw [show okF (.cls (cutS s Option.none (Option.some (1 + r))).cps.toList) = ((cutS s Option.none (Option.some (1 + r))).cps.toList ≠ [] ∧ (cutS s Option.none (Option.some (1 + r))).cps.toList.Nodup ∧ ∀ c ∈ (cutS s Option.none (Option.some (1 + r))).cps.toList, c ∈ abc.cps.toList) from rfl, cut_list s r h]
  refine ⟨fun z => ?_, (List.take_sublist _ _).nodup g.nd, fun c hc => g.low c (List.mem_of_mem_take hc)⟩
  obtain ⟨n, hn⟩ : ∃ n, (1 + r).toNat = n + 1 := ⟨r.toNat, by omega⟩
  rw [hn] at z
  cases q : s.cps.toList with
  | nil => exact g.ne q
  | cons c t =>
    rw [q] at z
    cases z
def most : Nat → Nat
  | 0 => 1
  | n + 1 => 2 * most n + 1
def spTree (n : Nat) : Sp := fun vs H Q _ => ∃ p s, vs = [.ref p, .int (n : Nat), .str s] ∧ Pool H p ∧ GoodS s ∧
  ∀ H' a f, But p H H' → Pool H' p → FormV H' f a → okF f → sz f ≤ most n → Q (.ref a) H'
def spTreeR : Nat → Sp
  | 0 => fun _ _ _ _ => False
  | n + 1 => spTree n
section
variable {P : Program} {w : World} {K : PySem.W.Frag} {mg : Str → Option Value} {base : Heap}
theorem scTree : FnScope ["_law_pool_here", "_law_deep", "_law_signs", "_law_way", "_law_one"] ["_law_pool_here", "_law_deep", "_law_signs"] (defScope sTree) := ⟨rfl, rfl, rfl, by decide +kernel, rfl, by decide +kernel, by decide +kernel⟩
theorem but_new {p : Addr} {H : Hp} {q : Addr} {o : HO} (h : H q = none) : But p H (upd H q o) := But.of (same_upd h)
theorem Pool.new {H : Hp} {p q : Addr} {o : HO} (hp : Pool H p) (h : H q = none) : Pool (upd H q o) p := by
  obtain ⟨g, m, e⟩ := hp
  exact ⟨g, m, same_upd h _ _ e⟩
theorem ite_tC {c : Bool} {x y : Int} {σ : L2.St} {H : Hp} {Q : VK} (h : Q (.int (if c = true then x else y)) H) : if c = true then tC (.int x) σ H Q else tC (.int y) σ H Q := by
  cases c
  · exact h
  · exact h
theorem most_pos : ∀ n, 1 ≤ most n
  | 0 => Nat.le_refl _
  | n + 1 => Nat.succ_le_succ (Nat.zero_le _)
theorem sz_le (n : Nat) : 1 ≤ most n := most_pos n
theorem ok_tree_step {n : Nat} {f fD : Addr} {fd fdD : FuncData} (F : Fun K "_law_tree" "_law_tree" sTree f fd) (B : Blt mg) (FD : Fun K "_law_draw" "_law_draw" sDraw fD fdD) (bD : L2.Binds K fdD ["_law_pool_here", "_law_many"] []) (gD : mg "_law_draw" = some (.ref fD))
    (bF : L2.Binds K fd ["_law_pool_here", "_law_deep", "_law_signs"] []) (gF : mg "_law_tree" = some (.ref f)) (GX : FnOk P w K mg base CX0 (n + 1) f fd ["_law_pool_here", "_law_deep", "_law_signs"] (spTreeR n)) : FnOk P w K mg base CX0 (n + 2) f fd ["_law_pool_here", "_law_deep", "_law_signs"] (spTree n) := by
  have GD : FnOk P w K mg base CX0 1 fD fdD ["_law_pool_here", "_law_many"] spDraw := ok_draw FD B
  refine F.ok scTree (fun vs H Q E h => ?_) (fun cdv A outer s H vs Q E hr h => ?_)
  · obtain ⟨p, s, rfl, _⟩ := h
    rfl
  · obtain ⟨p, s, rfl, hp, gs, q⟩ := h
    have h1 : Room 1 _ := hr.mono (by omega)
    refine ⟨_, pss_cons (ps_set (i := 3) scTree.nd rfl (.inl rfl) (pe_call GD h1 (by rfl) gD FD.kp bD .nil pass0 (pa_cons (pv 0) (pa_cons (pe_ifExp (pt_cmpR op_gt (pv 1) pe_int (nomark _)) pe_int pe_int) pa_nil))))
      (pss_cons (ps_if (pt_cmpR op_eq (pv 3) pe_int (nomark _)) (pss_one (ps_ret (pe_lst (pa_cons pe_str pa_nil)))) pss_nil)
      (pss_cons (ps_if (pt_cmpR op_eq (pv 3) pe_int (nomark _)) (pss_one (ps_ret (pe_lst (pa_cons pe_str (pa_cons (pe_slice sl_str (pv 2) po_none (po_some (pe_op op_add pe_int (pe_call GD h1 (by rfl) gD FD.kp bD .nil pass0 (pa_cons (pv 0) (pa_cons (pe_callB call_len_str (by rfl) B.len PySem.boot_len (pa_cons (pv 2) pa_nil)) pa_nil)))))) pa_nil))))) pss_nil)
      (pss_cons (ps_if (pt_cmpR op_lt (pv 3) pe_int (nomark _)) (pss_one (ps_ret (pe_lst (pa_cons pe_str (pa_cons (pe_ix ix_str (pv 2) (pe_call GD h1 (by rfl) gD FD.kp bD .nil pass0 (pa_cons (pv 0) (pa_cons (pe_callB call_len_str (by rfl) B.len PySem.boot_len (pa_cons (pv 2) pa_nil)) pa_nil))) (fun _ _ => rfl)) pa_nil))))) pss_nil)
      (pss_cons (ps_set (i := 4) scTree.nd rfl (.inl rfl) (pe_call GX hr (by rfl) gF F.kp bF .nil pass0 (pa_cons (pv 0) (pa_cons (pe_op op_sub (pv 1) pe_int) (pa_cons (pv 2) pa_nil)))))
      (pss_cons (ps_if (pt_cmpR op_lt (pv 3) pe_int (nomark _)) (pss_one (ps_ret (pe_lst (pa_cons pe_str (pa_cons (pv 4) (pa_cons (pe_call GX hr (by rfl) gF F.kp bF .nil pass0 (pa_cons (pv 0) (pa_cons (pe_op op_sub (pv 1) pe_int) (pa_cons (pv 2) pa_nil)))) pa_nil)))))) pss_nil)
      (pss_cons (ps_if (pt_cmpR op_lt (pv 3) pe_int (nomark _)) (pss_one (ps_ret (pe_lst (pa_cons pe_str (pa_cons (pv 4) (pa_cons (pe_ix ix_list (pe_lst (pa_cons (pe_call GX hr (by rfl) gF F.kp bF .nil pass0 (pa_cons (pv 0) (pa_cons (pe_op op_sub (pv 1) pe_int) (pa_cons (pv 2) pa_nil)))) (pa_cons (pe_lst (pa_cons pe_str pa_nil)) pa_nil)))
          (pe_callTy call_int1 (by rfl) B.int (by decide +kernel) (pa_cons (pe_cmpR op_eq (pe_call GD h1 (by rfl) gD FD.kp bD .nil pass0 (pa_cons (pv 0) (pa_cons pe_int pa_nil))) pe_int (nomark _)) pa_nil)) (fun _ _ => rfl)) pa_nil)))))) pss_nil)
      (pss_one (ps_ret (pe_lst (pa_cons (pe_ix ix_list (pe_lst (pa_cons pe_str (pa_cons pe_str (pa_cons pe_str pa_nil)))) (pe_call GD h1 (by rfl) gD FD.kp bD .nil pass0 (pa_cons (pv 0) (pa_cons pe_int pa_nil))) (fun _ _ => rfl)) (pa_cons (pv 4) pa_nil))))))))))), ?_⟩
    obtain ⟨g, m, hp0⟩ := hp
    refine ⟨.ref p, rfl, .int n, rfl, _, _, rfl, rfl, _, rfl, ite_tC ?_⟩
    refine ⟨p, _, g, m, rfl, hp0, by split <;> decide, by split <;> decide, fun r g1 m1 r0 r1 => ?_⟩
    obtain ⟨H1, eH1⟩ : ∃ H1, H1 = upd H p (.lst [.int g1, .int m1]) := ⟨_, rfl⟩
    have b1 : But p H H1 := by rw [eH1]; exact But.upd
    have p1 : H1 p = Option.some (.lst [.int g1, .int m1]) := by rw [eH1]; exact upd_same
    rw [← eH1]
    have r11 : r < 11 := by
      split at r1 <;> omega
    have up : 0 < n ∨ r < 4 := by
      by_cases c : decide ((n : Int) > 0) = true
      · left
        have := of_decide_eq_true c
        omega
      · right
        rw [if_neg c] at r1
        exact r1
    have slen : 0 < s.length := by
      have l : s.length = s.cps.toList.length := Array.length_toList.symm
      rw [l]
      exact List.length_pos_iff.mpr gs.ne
    have few := gs.few
    refine ⟨_, rfl, rfl, _, rfl, ite2 (fun e => ⟨(by show 1 ≤ sizeLine; decide), fun a na => ?_⟩) (fun e => ?_)⟩
    · exact q _ a .any (b1.trans (but_new na)) (Pool.new ⟨g1, m1, p1⟩ na) upd_same trivial (sz_le _)
    refine ⟨_, rfl, rfl, _, rfl, ite2 (fun e => ?_) (fun e => ?_)⟩
    · refine ⟨_, rfl, .ref p, rfl, _, rfl, s, rfl, small (by omega), p, _, g1, m1, rfl, p1, by omega, by omega, fun r2 g2 m2 r20 r21 => ?_⟩
      refine ⟨_, _, rfl, rfl, _, rfl, s, rfl, small (by omega), (by show 2 ≤ sizeLine; decide), fun a na => ?_⟩
      have hp2 : Pool (upd H1 p (.lst [.int g2, .int m2])) p := ⟨g2, m2, upd_same⟩
      refine q _ a (.cls (cutS s Option.none (Option.some (1 + r2))).cps.toList) ((b1.trans But.upd).trans (but_new na)) (hp2.new na) ?_ (gs.cut r20) (sz_le _)
      show upd _ a _ a = _
      rw [upd_same, ← tS_of]
    refine ⟨_, rfl, _, _, rfl, rfl, _, rfl, ite2 (fun e => ?_) (fun e => ?_)⟩
    · refine ⟨_, rfl, .ref p, rfl, _, rfl, s, rfl, small (by omega), p, _, g1, m1, rfl, p1, by omega, by omega, fun r2 g2 m2 r20 r21 => ?_⟩
      have lt : r2.toNat < s.cps.size := by
        have e : s.length = s.cps.size := rfl
        omega
      obtain ⟨c0, at_⟩ : ∃ c0, s.cps.toList[r2.toNat]? = Option.some c0 := ⟨_, by rw [Array.getElem?_toList]; exact Array.getElem?_eq_getElem lt⟩
      have er : ((r2.toNat : Nat) : Int) = r2 := by omega
      have at2 := atI_nat at_
      rw [er] at at2
      refine ⟨s, r2, c0, rfl, rfl, small (by omega), at2, (by show 2 ≤ sizeLine; decide), fun a na => ?_⟩
      have hp2 : Pool (upd H1 p (.lst [.int g2, .int m2])) p := ⟨g2, m2, upd_same⟩
      exact q _ a (.letter c0) ((b1.trans But.upd).trans (but_new na)) (hp2.new na) upd_same (gs.low c0 (List.mem_of_getElem? at_)) (sz_le _)
    have e4 : ¬ r < 4 := fun z => e (decide_eq_true z)
    obtain ⟨k, rfl⟩ : ∃ k, n = k + 1 := ⟨n - 1, by omega⟩
    have ek : (((k + 1 : Nat) : Int) - 1) = ((k : Nat) : Int) := by omega
    have ea : [V.ref p, V.int (((k + 1 : Nat) : Int) - 1), V.str s] = [V.ref p, V.int ((k : Nat) : Int), V.str s] := by rw [ek]
    have hp1 : Pool H1 p := ⟨g1, m1, p1⟩
    have szk : most (k + 1) = 2 * most k + 1 := rfl
    refine ⟨.ref p, rfl, _, rfl, _, _, rfl, rfl, .str s, rfl, p, s, ea, hp1, gs, fun H2 a1 f1 b2 hp2 v2 ok2 z2 => ?_⟩
    refine ⟨_, rfl, _, _, rfl, rfl, _, rfl, ite2 (fun _ => ?_) (fun _ => ?_)⟩
    · refine ⟨.ref a1, rfl, .ref p, rfl, _, rfl, _, _, rfl, rfl, .str s, rfl, p, s, ea, hp2, gs, fun H3 a2 f2 b3 hp3 v3 ok3 z3 => ⟨(by show 3 ≤ sizeLine; decide), fun a na => ?_⟩⟩
      exact q _ a (.join f1 f2) (((b1.trans b2).trans b3).trans (but_new na)) (hp3.new na) ⟨a1, a2, upd_same, (v2.but hp2 b3).same (same_upd na), v3.same (same_upd na)⟩ ⟨ok2, ok3⟩ (by rw [szk]; show sz f1 + sz f2 + 1 ≤ _; omega)
    refine ⟨_, rfl, _, _, rfl, rfl, _, rfl, ite2 (fun _ => ?_) (fun _ => ?_)⟩
    · refine ⟨.ref a1, rfl, .ref p, rfl, _, rfl, _, _, rfl, rfl, .str s, rfl, p, s, ea, hp2, gs, fun H3 a2 f2 b3 hp3 v3 ok3 z3 => ⟨(by show 1 ≤ sizeLine; decide), fun u nu => ⟨(by show 2 ≤ sizeLine; decide), fun l nl => ?_⟩⟩⟩
      have su := same_upd (o := .lst [.str "none"]) nu
      have sl := same_upd (o := .lst [.ref a2, .ref u]) nl
      obtain ⟨g4, m4, p4⟩ := (hp3.new nu).new (o := .lst [.ref a2, .ref u]) nl
      obtain ⟨H4, eH4⟩ : ∃ H4, H4 = upd (upd H3 u (.lst [.str "none"])) l (.lst [.ref a2, .ref u]) := ⟨_, rfl⟩
      have s34 : Same H3 H4 := by rw [eH4]; exact su.trans sl
      have hu4 : H4 u = Option.some (.lst [.str "none"]) := by rw [eH4]; exact sl _ _ upd_same
      have hl4 : H4 l = Option.some (.lst [.ref a2, .ref u]) := by rw [eH4]; exact upd_same
      rw [← eH4] at p4 ⊢
      have lp : l ≠ p := fun z => by rw [z, p4] at hl4; cases hl4
      have hp4 : Pool H4 p := ⟨g4, m4, p4⟩
      refine ⟨.ref p, rfl, p, 6, g4, m4, rfl, p4, by decide, by decide, fun r5 g5 m5 r50 r51 => ?_⟩
      have but5 : But p H4 (upd H4 p (.lst [.int g5, .int m5])) := But.upd
      have hp5 : Pool (upd H4 p (.lst [.int g5, .int m5])) p := ⟨g5, m5, upd_same⟩
      have hl5 := but5 _ _ lp hl4
      have fin : ∀ (b : Addr) (f : Form), FormV (upd H4 p (.lst [.int g5, .int m5])) f b → okF f → sz f ≤ most k → ∀ a, (upd H4 p (.lst [.int g5, .int m5])) a = Option.none → Q (.ref a) (upd (upd H4 p (.lst [.int g5, .int m5])) a (.lst [.str "or", .ref a1, .ref b])) := fun b f vf okf zf a na =>
        q _ a (.or f1 f) (((((b1.trans b2).trans b3).trans (But.of s34)).trans but5).trans (but_new na)) (hp5.new na) ⟨a1, b, upd_same, (((v2.but hp2 b3).same s34).but hp4 but5).same (same_upd na), vf.same (same_upd na)⟩ ⟨ok2, okf⟩ (by rw [szk]; show sz f1 + sz f + 1 ≤ _; omega)
      have bf : But p H H4 := ((b1.trans b2).trans b3).trans (But.of s34)
      by_cases e0 : r5 = 0
      · refine ⟨rfl, .inr ⟨_, rfl, l, [.ref a2, .ref u], 1, .ref u, rfl, by rw [e0]; rfl, .of hl5, atI_nat (j := 1) rfl, (by show 3 ≤ sizeLine; decide), fin u .none (but5 _ _ (fun z => by rw [z, p4] at hu4; cases hu4) hu4) trivial (most_pos k)⟩⟩
      · refine ⟨rfl, .inr ⟨_, rfl, l, [.ref a2, .ref u], 0, .ref a2, rfl, ?_, .of hl5, atI_nat (j := 0) rfl, (by show 3 ≤ sizeLine; decide), fin a2 f2 ((v3.same s34).but hp4 but5) ok3 z3⟩⟩
        rw [decide_eq_false (fun z => e0 (by injection z))]
        rfl
    refine ⟨(by show 3 ≤ sizeLine; decide), fun l nl => ?_⟩
    have sl := same_upd (o := .lst [.str "many", .str "some", .str "maybe"]) nl
    obtain ⟨g4, m4, p4⟩ := hp2.new (o := .lst [.str "many", .str "some", .str "maybe"]) nl
    obtain ⟨H4, eH4⟩ : ∃ H4, H4 = upd H2 l (.lst [.str "many", .str "some", .str "maybe"]) := ⟨_, rfl⟩
    rw [← eH4] at p4 sl ⊢
    have hl4 : H4 l = Option.some (.lst [.str "many", .str "some", .str "maybe"]) := by rw [eH4]; exact upd_same
    have lp : l ≠ p := fun z => by rw [z, p4] at hl4; cases hl4
    have hp4 : Pool H4 p := ⟨g4, m4, p4⟩
    refine ⟨.ref p, rfl, p, 3, g4, m4, rfl, p4, by decide, by decide, fun r5 g5 m5 r50 r51 => ?_⟩
    have but5 : But p H4 (upd H4 p (.lst [.int g5, .int m5])) := But.upd
    have hp5 : Pool (upd H4 p (.lst [.int g5, .int m5])) p := ⟨g5, m5, upd_same⟩
    have hl5 := but5 _ _ lp hl4
    have bf : But p H (upd H4 p (.lst [.int g5, .int m5])) := ((b1.trans b2).trans (But.of sl)).trans but5
    have v5 := (v2.same sl).but hp4 but5
    have three : r5 = 0 ∨ r5 = 1 ∨ r5 = 2 := by omega
    rcases three with rfl | rfl | rfl
    · refine ⟨l, _, 0, .str "many", rfl, rfl, .of hl5, atI_nat (j := 0) rfl, .ref a1, rfl, (by show 2 ≤ sizeLine; decide), fun a na => ?_⟩
      exact q _ a (.many f1) (bf.trans (but_new na)) (hp5.new na) ⟨a1, upd_same, v5.same (same_upd na)⟩ ok2 (by rw [szk]; show sz f1 + 1 ≤ _; have := most_pos k; omega)
    · refine ⟨l, _, 1, .str "some", rfl, rfl, .of hl5, atI_nat (j := 1) rfl, .ref a1, rfl, (by show 2 ≤ sizeLine; decide), fun a na => ?_⟩
      exact q _ a (.some f1) (bf.trans (but_new na)) (hp5.new na) ⟨a1, upd_same, v5.same (same_upd na)⟩ ok2 (by rw [szk]; show sz f1 + 1 ≤ _; have := most_pos k; omega)
    · refine ⟨l, _, 2, .str "maybe", rfl, rfl, .of hl5, atI_nat (j := 2) rfl, .ref a1, rfl, (by show 2 ≤ sizeLine; decide), fun a na => ?_⟩
      exact q _ a (.maybe f1) (bf.trans (but_new na)) (hp5.new na) ⟨a1, upd_same, v5.same (same_upd na)⟩ ok2 (by rw [szk]; show sz f1 + 1 ≤ _; have := most_pos k; omega)
theorem ok_tree {f fD : Addr} {fd fdD : FuncData} (F : Fun K "_law_tree" "_law_tree" sTree f fd) (B : Blt mg) (FD : Fun K "_law_draw" "_law_draw" sDraw fD fdD) (bD : L2.Binds K fdD ["_law_pool_here", "_law_many"] []) (gD : mg "_law_draw" = some (.ref fD))
    (bF : L2.Binds K fd ["_law_pool_here", "_law_deep", "_law_signs"] []) (gF : mg "_law_tree" = some (.ref f)) : ∀ n, FnOk P w K mg base CX0 (n + 2) f fd ["_law_pool_here", "_law_deep", "_law_signs"] (spTree n)
  | 0 => ok_tree_step F B FD bD gD bF gF ⟨fun vs H Q E h => h.elim, fun A outer s H args us vs Q E _ _ _ _ h => h.elim⟩
  | n + 1 => ok_tree_step F B FD bD gD bF gF (ok_tree F B FD bD gD bF gF n)
end
end K04

namespace K04
open PySem PySem.Spec PyProof.Rows PySem.ErrX L2
/-! ### the law's _law_text and _law_kinds -/
def kinds : Form → List Str
  | .any => [abc]
  | .letter c => [sing c]
  | .cls cs => [tS cs]
  | .none => []
  | .join a b => kinds a ++ kinds b
  | .or a b => kinds a ++ kinds b
  | .many x => kinds x
  | .some x => kinds x
  | .maybe x => kinds x
theorem kinds_len : ∀ f, (kinds f).length = pos f
  | .any => rfl
  | .letter _ => rfl
  | .cls _ => rfl
  | .none => rfl
  | .join a b => by
    show (kinds a ++ kinds b).length = pos a + pos b
    rw [List.length_append, kinds_len a, kinds_len b]
  | .or a b => by
    show (kinds a ++ kinds b).length = pos a + pos b
    rw [List.length_append, kinds_len a, kinds_len b]
  | .many x => kinds_len x
  | .some x => kinds_len x
  | .maybe x => kinds_len x
theorem pos_sz : ∀ f, pos f ≤ sz f
  | .any => Nat.le_refl _
  | .letter _ => Nat.le_refl _
  | .cls _ => Nat.le_refl _
  | .none => Nat.zero_le _
  | .join a b => by
    have := pos_sz a
    have := pos_sz b
    show pos a + pos b ≤ sz a + sz b + 1
    omega
  | .or a b => by
    have := pos_sz a
    have := pos_sz b
    show pos a + pos b ≤ sz a + sz b + 1
    omega
  | .many x => Nat.le_succ_of_le (pos_sz x)
  | .some x => Nat.le_succ_of_le (pos_sz x)
  | .maybe x => Nat.le_succ_of_le (pos_sz x)
theorem sz_pos : ∀ f, 1 ≤ sz f
  | .any => Nat.le_refl _
  | .letter _ => Nat.le_refl _
  | .cls _ => Nat.le_refl _
  | .none => Nat.le_refl _
  | .join _ _ => Nat.succ_le_succ (Nat.zero_le _)
  | .or _ _ => Nat.succ_le_succ (Nat.zero_le _)
  | .many _ => Nat.succ_le_succ (Nat.zero_le _)
  | .some _ => Nat.succ_le_succ (Nat.zero_le _)
  | .maybe _ => Nat.succ_le_succ (Nat.zero_le _)
theorem br_len (k : Bool) (t : List Nat) : (br k t).length ≤ t.length + 2 := by
  unfold br
  cases k with
  | true =>
    rw [if_pos rfl]
    omega
  | false =>
    rw [if_neg (by decide), List.length_append, List.length_append]
    show 1 + t.length + 1 ≤ _
    omega
theorem tx_len : ∀ f w, okF f → (tx f w).length ≤ 28 * sz f
  | .any, _, _ => (by decide : 1 ≤ 28)
  | .letter _, _, _ => (by decide : 1 ≤ 28)
  | .cls cs, _, h => by
    have z := nodup_few cs abc.cps.toList h.2.1 h.2.2
    rw [abc_len] at z
    show ([91] ++ cs ++ [93]).length ≤ 28 * 1
    rw [List.length_append, List.length_append]
    show 1 + cs.length + 1 ≤ _
    omega
  | .none, w, _ => by
    show (if w < 3 then ([] : List Nat) else [40, 41]).length ≤ 28 * 1
    split <;> decide
  | .join a b, w, h => by
    have z := br_len (decide (w ≤ 2)) (tx a 2 ++ tx b 2)
    rw [List.length_append] at z
    have := tx_len a 2 h.1
    have := tx_len b 2 h.2
    show (br _ _).length ≤ 28 * (sz a + sz b + 1)
    omega
  | .or a b, w, h => by
    have z := br_len (decide (w ≤ 1)) (tx a 1 ++ [124] ++ tx b 1)
    rw [List.length_append, List.length_append] at z
    have e : ([124] : List Nat).length = 1 := rfl
    have := tx_len a 1 h.1
    have := tx_len b 1 h.2
    show (br _ _).length ≤ 28 * (sz a + sz b + 1)
    omega
  | .many x, w, h => by
    have z := br_len (decide (w ≤ 3)) (tx x 3 ++ [42])
    rw [List.length_append] at z
    have e : ([42] : List Nat).length = 1 := rfl
    have := tx_len x 3 h
    show (br _ _).length ≤ 28 * (sz x + 1)
    omega
  | .some x, w, h => by
    have z := br_len (decide (w ≤ 3)) (tx x 3 ++ [43])
    rw [List.length_append] at z
    have e : ([43] : List Nat).length = 1 := rfl
    have := tx_len x 3 h
    show (br _ _).length ≤ 28 * (sz x + 1)
    omega
  | .maybe x, w, h => by
    have z := br_len (decide (w ≤ 3)) (tx x 3 ++ [63])
    rw [List.length_append] at z
    have e : ([63] : List Nat).length = 1 := rfl
    have := tx_len x 3 h
    show (br _ _).length ≤ 28 * (sz x + 1)
    omega
def spText (n : Nat) : Sp := fun vs H Q _ => ∃ a f w, vs = [.ref a, .int (w : Nat)] ∧ FormV H f a ∧ okF f ∧ sz f ≤ n ∧ n ≤ 20 ∧ w ≤ 3 ∧ ∀ H', Same H H' → Q (.str (tS (tx f w))) H'
theorem tS_app (a b : List Nat) : tS a ++ tS b = tS (a ++ b) := by
  have h : (tS a ++ tS b).cps.toList = (tS (a ++ b)).cps.toList := by
    have z : (tS a ++ tS b).cps.toList = (tS a).cps.toList ++ (tS b).cps.toList := TL.tl_append _ _
    rw [z, tS_list, tS_list, tS_list]
  rw [tS_of (tS a ++ tS b), h, tS_list]
/-- the word of a form stands at the front of its list -/
theorem FormV.word {H : Hp} : ∀ {f : Form} {a : Addr}, FormV H f a → ∃ r, H a = Option.some (.lst (.str (wordOf f) :: r))
  | .any, _, h => ⟨_, h⟩
  | .letter _, _, h => ⟨_, h⟩
  | .cls _, _, h => ⟨_, h⟩
  | .none, _, h => ⟨_, h⟩
  | .join _ _, _, ⟨_, _, h, _, _⟩ => ⟨_, h⟩
  | .or _ _, _, ⟨_, _, h, _, _⟩ => ⟨_, h⟩
  | .many _, _, ⟨_, h, _⟩ => ⟨_, h⟩
  | .some _, _, ⟨_, h, _⟩ => ⟨_, h⟩
  | .maybe _, _, ⟨_, h, _⟩ => ⟨_, h⟩
theorem same_upd2 {H : Hp} {d : Addr} {x y : HO} (h : H d = Option.none) : Same H (upd (upd H d x) d y) := fun b o e => by
  rw [upd_ne (ne_of_none e h), upd_ne (ne_of_none e h)]
  exact e
theorem ite_t {c : Bool} {A B : Prop} (h : c = true) (a : A) : if c = true then A else B := by rw [if_pos h]; exact a
theorem ite_f {c : Bool} {A B : Prop} (h : c = false) (b : B) : if c = true then A else B := by rw [if_neg (by rw [h]; decide)]; exact b
theorem q_str {Q : VK} {x y : Str} {H : Hp} (e : x = y) (h : Q (.str y) H) : Q (.str x) H := e ▸ h
section
variable {P : Program} {w : World} {K : PySem.W.Frag} {mg : Str → Option Value} {base : Heap}
theorem scText : FnScope ["_law_form", "_law_weight", "_law_word", "_law_found", "_law_own"] ["_law_form", "_law_weight"] (defScope sText) := ⟨rfl, rfl, rfl, by decide +kernel, rfl, by decide +kernel, by decide +kernel⟩
theorem ok_text_step {n : Nat} {f : Addr} {fd : FuncData} (F : Fun K "_law_text" "_law_text" sText f fd) (bF : L2.Binds K fd ["_law_form", "_law_weight"] []) (gF : mg "_law_text" = some (.ref f)) (GX : FnOk P w K mg base CX0 (n + 1) f fd ["_law_form", "_law_weight"] (spText n)) : FnOk P w K mg base CX0 (n + 2) f fd ["_law_form", "_law_weight"] (spText (n + 1)) := by
  refine F.ok scText (fun vs H Q E h => ?_) (fun cdv A outer s H vs Q E hr h => ?_)
  · obtain ⟨a, f, w, rfl, _⟩ := h
    rfl
  · obtain ⟨a, fm, wt, rfl, hv, hok, hz, hn, hw, q⟩ := h
    have hu := hu_of hr
    refine ⟨_, pss_cons (ps_set (i := 2) scText.nd rfl (.inl rfl) (pe_ix ix_list (pv 0) pe_int (fun _ _ => rfl)))
      (pss_cons (ps_if (pt_cmpR op_eq (pv 2) pe_str (nomark _)) (pss_one (ps_ret (pe_ix ix_list (pv 0) pe_int (fun _ _ => rfl)))) pss_nil)
      (pss_cons (ps_if (pt_cmpR op_in_seq (pv 2) (pe_tup (pa_cons pe_str (pa_cons pe_str pa_nil))) (by rfl)) (pss_one (ps_ret (pe_ifExp (pt_cmpR op_eq (pv 2) pe_str (nomark _)) pe_str (pe_op op_add_str (pe_op op_add_str pe_str (pe_ix ix_list (pv 0) pe_int (fun _ _ => rfl))) pe_str)))) pss_nil)
      (pss_cons (ps_if (pt_cmpR op_eq (pv 2) pe_str (nomark _)) (pss_one (ps_ret (pe_ifExp (pt_cmpR op_lt (pv 1) pe_int (nomark _)) pe_str pe_str))) pss_nil)
      (pss_cons (ps_if (pt_cmpR op_eq (pv 2) pe_str (nomark _))
          (pss_one (ps_par (i := 3) (j := 4) (by rfl) scText.nd rfl rfl (by decide) rfl rfl (pa_cons (pe_op op_add_str (pe_op op_add_str (pe_call GX hr (by rfl) gF F.kp bF .nil pass0 (pa_cons (pe_ix ix_list (pv 0) pe_int (fun _ _ => rfl)) (pa_cons pe_int pa_nil))) pe_str) (pe_call GX hr (by rfl) gF F.kp bF .nil pass0 (pa_cons (pe_ix ix_list (pv 0) pe_int (fun _ _ => rfl)) (pa_cons pe_int pa_nil)))) (pa_cons pe_int pa_nil)) (by rfl)))
          (pss_one (ps_if (pt_cmpR op_eq (pv 2) pe_str (nomark _))
            (pss_one (ps_par (i := 3) (j := 4) (by rfl) scText.nd rfl rfl (by decide) rfl rfl (pa_cons (pe_op op_add_str (pe_call GX hr (by rfl) gF F.kp bF .nil pass0 (pa_cons (pe_ix ix_list (pv 0) pe_int (fun _ _ => rfl)) (pa_cons pe_int pa_nil))) (pe_call GX hr (by rfl) gF F.kp bF .nil pass0 (pa_cons (pe_ix ix_list (pv 0) pe_int (fun _ _ => rfl)) (pa_cons pe_int pa_nil)))) (pa_cons pe_int pa_nil)) (by rfl)))
            (pss_one (ps_par (i := 3) (j := 4) (by rfl) scText.nd rfl rfl (by decide) rfl rfl (pa_cons (pe_op op_add_str (pe_call GX hr (by rfl) gF F.kp bF .nil pass0 (pa_cons (pe_ix ix_list (pv 0) pe_int (fun _ _ => rfl)) (pa_cons pe_int pa_nil))) (pe_dget hu (pe_disp (pps_cons pe_str pe_str (pps_cons pe_str pe_str (pps_cons pe_str pe_str pps_nil))) (by rfl) (by rfl) (by simp) (by decide)) (pv 2) (fun _ _ => rfl))) (pa_cons pe_int pa_nil)) (by rfl))))))
      (pss_one (ps_ret (pe_ifExp (pt_cmpR op_ge (pv 4) (pv 1) (nomark _)) (pv 3) (pe_op op_add_str (pe_op op_add_str pe_str (pv 3)) pe_str)))))))), ?_⟩
    have lim : 2000 ≤ sizeLine := by decide
    have tl := tx_len fm wt hok
    have e40 : ("(" : Str) = tS [40] := by decide +kernel
    have e41 : (")" : Str) = tS [41] := by decide +kernel
    have e124 : ("|" : Str) = tS [124] := by decide +kernel
    cases fm with
    | any =>
      refine ⟨_, rfl, a, _, 0, .str "any", rfl, rfl, .of hv, atI_nat (j := 0) rfl, _, rfl, rfl, _, rfl, ite_f (by decide +kernel) ?_⟩
      refine ⟨_, rfl, (by show 2 ≤ sizeLine; decide), fun t nt => ⟨t, _, rfl, .inr (.of upd_same), rfl, rfl, _, rfl, ite_t (by decide +kernel) ?_⟩⟩
      exact ⟨_, rfl, rfl, _, rfl, ite_t (by decide +kernel) (q_str (y := tS [46]) (by decide +kernel) (q _ (same_upd nt)))⟩
    | letter c =>
      exact ⟨_, rfl, a, _, 0, .str "letter", rfl, rfl, .of hv, atI_nat (j := 0) rfl, _, rfl, rfl, _, rfl, ite_t (by decide +kernel) ⟨_, rfl, a, _, 1, .str (sing c), rfl, rfl, .of hv, atI_nat (j := 1) rfl, q _ same_refl⟩⟩
    | cls cs =>
      refine ⟨_, rfl, a, _, 0, .str "class", rfl, rfl, .of hv, atI_nat (j := 0) rfl, _, rfl, rfl, _, rfl, ite_f (by decide +kernel) ?_⟩
      refine ⟨_, rfl, (by show 2 ≤ sizeLine; decide), fun t nt => ⟨t, _, rfl, .inr (.of upd_same), rfl, rfl, _, rfl, ite_t (by decide +kernel) ?_⟩⟩
      have l1 : (tS cs).length = cs.length := tS_len cs
      have l2 : cs.length ≤ 26 := by
        have z := nodup_few cs abc.cps.toList hok.2.1 hok.2.2
        rw [abc_len] at z
        exact z
      have lb : ("[" : Str).length = 1 := rfl
      have lc : ("]" : Str).length = 1 := rfl
      have e91 : ("[" : Str) = tS [91] := by decide +kernel
      have e93 : ("]" : Str) = tS [93] := by decide +kernel
      refine ⟨_, rfl, rfl, _, rfl, ite_f (by decide +kernel) ⟨_, rfl, a, _, 1, .str (tS cs), rfl, rfl, .of (same_upd nt _ _ hv), atI_nat (j := 1) rfl, _, _, rfl, rfl, by omega, _, _, rfl, rfl, by rw [Str.length_append]; omega, q_str (y := tS ([91] ++ cs ++ [93])) ?_ (q _ (same_upd nt))⟩⟩
      rw [e91, e93, tS_app, tS_app]
    | none =>
      refine ⟨_, rfl, a, _, 0, .str "none", rfl, rfl, .of hv, atI_nat (j := 0) rfl, _, rfl, rfl, _, rfl, ite_f (by decide +kernel) ?_⟩
      refine ⟨_, rfl, (by show 2 ≤ sizeLine; decide), fun t nt => ⟨t, _, rfl, .inr (.of upd_same), rfl, rfl, _, rfl, ite_f (by decide +kernel) ?_⟩⟩
      refine ⟨_, rfl, rfl, _, rfl, ite_t (by decide +kernel) ⟨_, rfl, _, _, rfl, rfl, _, rfl, ite2 (fun e => ?_) (fun e => ?_)⟩⟩
      · refine q_str (y := tS (tx .none wt)) ?_ (q _ (same_upd nt))
        have z := of_decide_eq_true e
        have z2 : wt < 3 := by omega
        rw [show tx .none wt = [] from if_pos z2]
        decide +kernel
      · refine q_str (y := tS (tx .none wt)) ?_ (q _ (same_upd nt))
        have z2 : ¬ wt < 3 := fun y => e (decide_eq_true (by omega))
        rw [show tx .none wt = [40, 41] from if_neg z2]
        decide +kernel
    | or x y =>
      obtain ⟨b, c, hv, hx, hy⟩ := hv
      refine ⟨_, rfl, a, _, 0, .str "or", rfl, rfl, .of hv, atI_nat (j := 0) rfl, _, rfl, rfl, _, rfl, ite_f (by decide +kernel) ?_⟩
      refine ⟨_, rfl, (by show 2 ≤ sizeLine; decide), fun t nt => ⟨t, _, rfl, .inr (.of upd_same), rfl, rfl, _, rfl, ite_f (by decide +kernel) ?_⟩⟩
      have st := same_upd (o := .tup [.str "any", .str "class"]) nt
      refine ⟨_, rfl, rfl, _, rfl, ite_f (by decide +kernel) ?_⟩
      have hx1 := hx.same st
      have hv1 := st _ _ hv
      refine ⟨_, rfl, rfl, _, rfl, ite_t (by decide +kernel) ?_⟩
      have ez : sz (.or x y) = sz x + sz y + 1 := rfl
      have l1 := tx_len x 1 hok.1
      have l2 := tx_len y 1 hok.2
      obtain ⟨cs, ecs⟩ : ∃ cs, cs = tx x 1 ++ [124] ++ tx y 1 := ⟨_, rfl⟩
      have lcs : cs.length ≤ 1200 := by
        rw [ecs]
        simp only [List.length_append, List.length_cons, List.length_nil]
        omega
      have et : tx (.or x y) wt = br (decide (wt ≤ 1)) cs := by
        rw [ecs]
        rfl
      refine ⟨_, rfl, a, _, 1, .ref b, rfl, rfl, .of hv1, atI_nat (j := 1) rfl, b, x, 1, rfl, hx1, hok.1, by omega, by omega, by decide, fun H2 s2 => ⟨_, _, rfl, rfl, by rw [tS_len]; have : ("|" : Str).length = 1 := rfl; omega, ?_⟩⟩
      refine ⟨_, rfl, a, _, 2, .ref c, rfl, rfl, .of (s2 _ _ hv1), atI_nat (j := 2) rfl, c, y, 1, rfl, (hy.same st).same s2, hok.2, by omega, by omega, by decide, fun H3 s3 => ⟨_, _, rfl, rfl, by rw [Str.length_append, tS_len, tS_len]; have : ("|" : Str).length = 1 := rfl; omega, ?_⟩⟩
      have ef : tS (tx x 1) ++ ("|" : Str) ++ tS (tx y 1) = tS cs := by
        rw [e124, tS_app, tS_app, ecs]
      have sF := st.trans (s2.trans s3)
      rw [ef]
      refine ⟨_, _, rfl, ?_⟩
      refine ⟨_, rfl, _, rfl, _, _, rfl, rfl, _, rfl, ite2 (fun e => ⟨_, rfl, ?_⟩) (fun e => ⟨_, rfl, _, _, rfl, rfl, by rw [tS_len]; have : ("(" : Str).length = 1 := rfl; omega, _, _, rfl, rfl, by rw [Str.length_append, tS_len]; have : ("(" : Str).length = 1 := rfl; have : (")" : Str).length = 1 := rfl; omega, ?_⟩)⟩
      · have z := of_decide_eq_true e
        refine q_str (y := tS (tx (.or x y) wt)) ?_ (q _ sF)
        rw [et, show br (decide (wt ≤ 1)) cs = cs from if_pos (decide_eq_true (by omega))]
      · have z : ¬ wt ≤ 1 := fun y => e (decide_eq_true (by omega))
        refine q_str (y := tS (tx (.or x y) wt)) ?_ (q _ sF)
        rw [et, show br (decide (wt ≤ 1)) cs = [40] ++ cs ++ [41] from if_neg (by rw [decide_eq_false z]; decide), e40, e41, tS_app, tS_app]
    | join x y =>
      obtain ⟨b, c, hv, hx, hy⟩ := hv
      refine ⟨_, rfl, a, _, 0, .str "join", rfl, rfl, .of hv, atI_nat (j := 0) rfl, _, rfl, rfl, _, rfl, ite_f (by decide +kernel) ?_⟩
      refine ⟨_, rfl, (by show 2 ≤ sizeLine; decide), fun t nt => ⟨t, _, rfl, .inr (.of upd_same), rfl, rfl, _, rfl, ite_f (by decide +kernel) ?_⟩⟩
      have st := same_upd (o := .tup [.str "any", .str "class"]) nt
      refine ⟨_, rfl, rfl, _, rfl, ite_f (by decide +kernel) ?_⟩
      have hx1 := hx.same st
      have hv1 := st _ _ hv
      refine ⟨_, rfl, rfl, _, rfl, ite_f (by decide +kernel) ⟨_, rfl, rfl, _, rfl, ite_t (by decide +kernel) ?_⟩⟩
      have ez : sz (.join x y) = sz x + sz y + 1 := rfl
      have l1 := tx_len x 2 hok.1
      have l2 := tx_len y 2 hok.2
      obtain ⟨cs, ecs⟩ : ∃ cs, cs = tx x 2 ++ tx y 2 := ⟨_, rfl⟩
      have lcs : cs.length ≤ 1200 := by
        rw [ecs]
        simp only [List.length_append, List.length_cons, List.length_nil]
        omega
      have et : tx (.join x y) wt = br (decide (wt ≤ 2)) cs := by
        rw [ecs]
        rfl
      refine ⟨_, rfl, a, _, 1, .ref b, rfl, rfl, .of hv1, atI_nat (j := 1) rfl, b, x, 2, rfl, hx1, hok.1, by omega, by omega, by decide, fun H2 s2 => ?_⟩
      refine ⟨_, rfl, a, _, 2, .ref c, rfl, rfl, .of (s2 _ _ hv1), atI_nat (j := 2) rfl, c, y, 2, rfl, (hy.same st).same s2, hok.2, by omega, by omega, by decide, fun H3 s3 => ⟨_, _, rfl, rfl, by rw [tS_len, tS_len]; omega, ?_⟩⟩
      have ef : tS (tx x 2) ++ tS (tx y 2) = tS cs := by
        rw [tS_app, ecs]
      have sF := st.trans (s2.trans s3)
      rw [ef]
      refine ⟨_, _, rfl, ?_⟩
      refine ⟨_, rfl, _, rfl, _, _, rfl, rfl, _, rfl, ite2 (fun e => ⟨_, rfl, ?_⟩) (fun e => ⟨_, rfl, _, _, rfl, rfl, by rw [tS_len]; have : ("(" : Str).length = 1 := rfl; omega, _, _, rfl, rfl, by rw [Str.length_append, tS_len]; have : ("(" : Str).length = 1 := rfl; have : (")" : Str).length = 1 := rfl; omega, ?_⟩)⟩
      · have z := of_decide_eq_true e
        refine q_str (y := tS (tx (.join x y) wt)) ?_ (q _ sF)
        rw [et, show br (decide (wt ≤ 2)) cs = cs from if_pos (decide_eq_true (by omega))]
      · have z : ¬ wt ≤ 2 := fun y => e (decide_eq_true (by omega))
        refine q_str (y := tS (tx (.join x y) wt)) ?_ (q _ sF)
        rw [et, show br (decide (wt ≤ 2)) cs = [40] ++ cs ++ [41] from if_neg (by rw [decide_eq_false z]; decide), e40, e41, tS_app, tS_app]
    | many x =>
      obtain ⟨b, hv, hx⟩ := hv
      refine ⟨_, rfl, a, _, 0, .str "many", rfl, rfl, .of hv, atI_nat (j := 0) rfl, _, rfl, rfl, _, rfl, ite_f (by decide +kernel) ?_⟩
      refine ⟨_, rfl, (by show 2 ≤ sizeLine; decide), fun t nt => ⟨t, _, rfl, .inr (.of upd_same), rfl, rfl, _, rfl, ite_f (by decide +kernel) ?_⟩⟩
      have st := same_upd (o := .tup [.str "any", .str "class"]) nt
      refine ⟨_, rfl, rfl, _, rfl, ite_f (by decide +kernel) ?_⟩
      have hx1 := hx.same st
      have hv1 := st _ _ hv
      refine ⟨_, rfl, rfl, _, rfl, ite_f (by decide +kernel) ⟨_, rfl, rfl, _, rfl, ite_f (by decide +kernel) ?_⟩⟩
      have ez : sz (.many x) = sz x + 1 := rfl
      have l1 := tx_len x 3 hok
      obtain ⟨cs, ecs⟩ : ∃ cs, cs = tx x 3 ++ [42] := ⟨_, rfl⟩
      have lcs : cs.length ≤ 1200 := by
        rw [ecs]
        simp only [List.length_append, List.length_cons, List.length_nil]
        omega
      have et : tx (.many x) wt = br (decide (wt ≤ 3)) cs := by
        rw [ecs]
        rfl
      refine ⟨_, rfl, a, _, 1, .ref b, rfl, rfl, .of hv1, atI_nat (j := 1) rfl, b, x, 3, rfl, hx1, hok, by omega, by omega, by decide, fun H2 s2 d nd => ⟨upd_same, [(.inr "many", .str "*"), (.inr "some", .str "+"), (.inr "maybe", .str "?")], rfl, by decide, ?_⟩⟩
      refine ⟨_, rfl, d, .str "*", rfl, .inl ⟨_, .inr "many", .inl upd_same, rfl, by decide +kernel⟩, _, _, rfl, rfl, by rw [tS_len]; have : ("*" : Str).length = 1 := rfl; omega, ?_⟩
      have ef : tS (tx x 3) ++ ("*" : Str) = tS cs := by
        rw [show ("*" : Str) = tS [42] from by decide +kernel, tS_app, ecs]
      have sF := fun (x y : HO) => st.trans (s2.trans (same_upd2 (x := x) (y := y) nd))
      rw [ef]
      refine ⟨_, _, rfl, ?_⟩
      refine ⟨_, rfl, _, rfl, _, _, rfl, rfl, _, rfl, ite2 (fun e => ⟨_, rfl, ?_⟩) (fun e => ⟨_, rfl, _, _, rfl, rfl, by rw [tS_len]; have : ("(" : Str).length = 1 := rfl; omega, _, _, rfl, rfl, by rw [Str.length_append, tS_len]; have : ("(" : Str).length = 1 := rfl; have : (")" : Str).length = 1 := rfl; omega, ?_⟩)⟩
      · have z := of_decide_eq_true e
        refine q_str (y := tS (tx (.many x) wt)) ?_ (q _ (sF _ _))
        rw [et, show br (decide (wt ≤ 3)) cs = cs from if_pos (decide_eq_true (by omega))]
      · have z : ¬ wt ≤ 3 := fun y => e (decide_eq_true (by omega))
        refine q_str (y := tS (tx (.many x) wt)) ?_ (q _ (sF _ _))
        rw [et, show br (decide (wt ≤ 3)) cs = [40] ++ cs ++ [41] from if_neg (by rw [decide_eq_false z]; decide), e40, e41, tS_app, tS_app]
    | some x =>
      obtain ⟨b, hv, hx⟩ := hv
      refine ⟨_, rfl, a, _, 0, .str "some", rfl, rfl, .of hv, atI_nat (j := 0) rfl, _, rfl, rfl, _, rfl, ite_f (by decide +kernel) ?_⟩
      refine ⟨_, rfl, (by show 2 ≤ sizeLine; decide), fun t nt => ⟨t, _, rfl, .inr (.of upd_same), rfl, rfl, _, rfl, ite_f (by decide +kernel) ?_⟩⟩
      have st := same_upd (o := .tup [.str "any", .str "class"]) nt
      refine ⟨_, rfl, rfl, _, rfl, ite_f (by decide +kernel) ?_⟩
      have hx1 := hx.same st
      have hv1 := st _ _ hv
      refine ⟨_, rfl, rfl, _, rfl, ite_f (by decide +kernel) ⟨_, rfl, rfl, _, rfl, ite_f (by decide +kernel) ?_⟩⟩
      have ez : sz (.some x) = sz x + 1 := rfl
      have l1 := tx_len x 3 hok
      obtain ⟨cs, ecs⟩ : ∃ cs, cs = tx x 3 ++ [43] := ⟨_, rfl⟩
      have lcs : cs.length ≤ 1200 := by
        rw [ecs]
        simp only [List.length_append, List.length_cons, List.length_nil]
        omega
      have et : tx (.some x) wt = br (decide (wt ≤ 3)) cs := by
        rw [ecs]
        rfl
      refine ⟨_, rfl, a, _, 1, .ref b, rfl, rfl, .of hv1, atI_nat (j := 1) rfl, b, x, 3, rfl, hx1, hok, by omega, by omega, by decide, fun H2 s2 d nd => ⟨upd_same, [(.inr "many", .str "*"), (.inr "some", .str "+"), (.inr "maybe", .str "?")], rfl, by decide, ?_⟩⟩
      refine ⟨_, rfl, d, .str "+", rfl, .inl ⟨_, .inr "some", .inl upd_same, rfl, by decide +kernel⟩, _, _, rfl, rfl, by rw [tS_len]; have : ("+" : Str).length = 1 := rfl; omega, ?_⟩
      have ef : tS (tx x 3) ++ ("+" : Str) = tS cs := by
        rw [show ("+" : Str) = tS [43] from by decide +kernel, tS_app, ecs]
      have sF := fun (x y : HO) => st.trans (s2.trans (same_upd2 (x := x) (y := y) nd))
      rw [ef]
      refine ⟨_, _, rfl, ?_⟩
      refine ⟨_, rfl, _, rfl, _, _, rfl, rfl, _, rfl, ite2 (fun e => ⟨_, rfl, ?_⟩) (fun e => ⟨_, rfl, _, _, rfl, rfl, by rw [tS_len]; have : ("(" : Str).length = 1 := rfl; omega, _, _, rfl, rfl, by rw [Str.length_append, tS_len]; have : ("(" : Str).length = 1 := rfl; have : (")" : Str).length = 1 := rfl; omega, ?_⟩)⟩
      · have z := of_decide_eq_true e
        refine q_str (y := tS (tx (.some x) wt)) ?_ (q _ (sF _ _))
        rw [et, show br (decide (wt ≤ 3)) cs = cs from if_pos (decide_eq_true (by omega))]
      · have z : ¬ wt ≤ 3 := fun y => e (decide_eq_true (by omega))
        refine q_str (y := tS (tx (.some x) wt)) ?_ (q _ (sF _ _))
        rw [et, show br (decide (wt ≤ 3)) cs = [40] ++ cs ++ [41] from if_neg (by rw [decide_eq_false z]; decide), e40, e41, tS_app, tS_app]
    | maybe x =>
      obtain ⟨b, hv, hx⟩ := hv
      refine ⟨_, rfl, a, _, 0, .str "maybe", rfl, rfl, .of hv, atI_nat (j := 0) rfl, _, rfl, rfl, _, rfl, ite_f (by decide +kernel) ?_⟩
      refine ⟨_, rfl, (by show 2 ≤ sizeLine; decide), fun t nt => ⟨t, _, rfl, .inr (.of upd_same), rfl, rfl, _, rfl, ite_f (by decide +kernel) ?_⟩⟩
      have st := same_upd (o := .tup [.str "any", .str "class"]) nt
      refine ⟨_, rfl, rfl, _, rfl, ite_f (by decide +kernel) ?_⟩
      have hx1 := hx.same st
      have hv1 := st _ _ hv
      refine ⟨_, rfl, rfl, _, rfl, ite_f (by decide +kernel) ⟨_, rfl, rfl, _, rfl, ite_f (by decide +kernel) ?_⟩⟩
      have ez : sz (.maybe x) = sz x + 1 := rfl
      have l1 := tx_len x 3 hok
      obtain ⟨cs, ecs⟩ : ∃ cs, cs = tx x 3 ++ [63] := ⟨_, rfl⟩
      have lcs : cs.length ≤ 1200 := by
        rw [ecs]
        simp only [List.length_append, List.length_cons, List.length_nil]
        omega
      have et : tx (.maybe x) wt = br (decide (wt ≤ 3)) cs := by
        rw [ecs]
        rfl
      refine ⟨_, rfl, a, _, 1, .ref b, rfl, rfl, .of hv1, atI_nat (j := 1) rfl, b, x, 3, rfl, hx1, hok, by omega, by omega, by decide, fun H2 s2 d nd => ⟨upd_same, [(.inr "many", .str "*"), (.inr "some", .str "+"), (.inr "maybe", .str "?")], rfl, by decide, ?_⟩⟩
      refine ⟨_, rfl, d, .str "?", rfl, .inl ⟨_, .inr "maybe", .inl upd_same, rfl, by decide +kernel⟩, _, _, rfl, rfl, by rw [tS_len]; have : ("?" : Str).length = 1 := rfl; omega, ?_⟩
      have ef : tS (tx x 3) ++ ("?" : Str) = tS cs := by
        rw [show ("?" : Str) = tS [63] from by decide +kernel, tS_app, ecs]
      have sF := fun (x y : HO) => st.trans (s2.trans (same_upd2 (x := x) (y := y) nd))
      rw [ef]
      refine ⟨_, _, rfl, ?_⟩
      refine ⟨_, rfl, _, rfl, _, _, rfl, rfl, _, rfl, ite2 (fun e => ⟨_, rfl, ?_⟩) (fun e => ⟨_, rfl, _, _, rfl, rfl, by rw [tS_len]; have : ("(" : Str).length = 1 := rfl; omega, _, _, rfl, rfl, by rw [Str.length_append, tS_len]; have : ("(" : Str).length = 1 := rfl; have : (")" : Str).length = 1 := rfl; omega, ?_⟩)⟩
      · have z := of_decide_eq_true e
        refine q_str (y := tS (tx (.maybe x) wt)) ?_ (q _ (sF _ _))
        rw [et, show br (decide (wt ≤ 3)) cs = cs from if_pos (decide_eq_true (by omega))]
      · have z : ¬ wt ≤ 3 := fun y => e (decide_eq_true (by omega))
        refine q_str (y := tS (tx (.maybe x) wt)) ?_ (q _ (sF _ _))
        rw [et, show br (decide (wt ≤ 3)) cs = [40] ++ cs ++ [41] from if_neg (by rw [decide_eq_false z]; decide), e40, e41, tS_app, tS_app]
theorem ok_text {f : Addr} {fd : FuncData} (F : Fun K "_law_text" "_law_text" sText f fd) (bF : L2.Binds K fd ["_law_form", "_law_weight"] []) (gF : mg "_law_text" = some (.ref f)) : ∀ n, FnOk P w K mg base CX0 (n + 1) f fd ["_law_form", "_law_weight"] (spText n)
  | 0 => by
    have no : ∀ vs H Q E, ¬ spText 0 vs H Q E := fun vs H Q E h => by
      obtain ⟨a, f, w, _, _, _, z, _⟩ := h
      have := sz_pos f
      omega
    exact ⟨fun vs H Q E h => absurd h (no vs H Q E), fun A outer s H args us vs Q E _ _ _ _ h => absurd h (no vs H Q E)⟩
  | n + 1 => ok_text_step F bF gF (ok_text F bF gF n)
end
end K04

namespace K04
open PySem PySem.Spec PyProof.Rows PySem.ErrX L2
def subs : Form → List Form
  | .join a b => [a, b]
  | .or a b => [a, b]
  | .many x => [x]
  | .some x => [x]
  | .maybe x => [x]
  | _ => []
def leaf : Form → Bool
  | .any => true
  | .letter _ => true
  | .cls _ => true
  | _ => false
theorem kinds_subs : ∀ f, leaf f = false → kinds f = (subs f).flatMap kinds
  | .join a b, _ => by simp [kinds, subs]
  | .or a b, _ => by simp [kinds, subs]
  | .many x, _ => by simp [kinds, subs]
  | .some x, _ => by simp [kinds, subs]
  | .maybe x, _ => by simp [kinds, subs]
  | .none, _ => rfl
  | .any, h => nomatch h
  | .letter _, h => nomatch h
  | .cls _, h => nomatch h
theorem subs_sz : ∀ f g, g ∈ subs f → sz g < sz f := by
  intro f g h
  cases f <;> simp only [subs, List.mem_cons, List.not_mem_nil, or_false] at h
  case join a b => rcases h with rfl | rfl <;> (show _ < sz _ + sz _ + 1; omega)
  case or a b => rcases h with rfl | rfl <;> (show _ < sz _ + sz _ + 1; omega)
  case many x => subst h; exact Nat.lt_succ_self _
  case some x => subst h; exact Nat.lt_succ_self _
  case maybe x => subst h; exact Nat.lt_succ_self _
theorem FormV.subs {H : Hp} : ∀ {f : Form} {a : Addr}, leaf f = false → FormV H f a → ∃ bs : List Addr, H a = Option.some (.lst (.str (wordOf f) :: bs.map V.ref)) ∧ Paired (fun b g => FormV H g b) bs (subs f) ∧ cutV (.str (wordOf f) :: bs.map V.ref) (Option.some 1) Option.none = bs.map V.ref
  | .join _ _, _, _, ⟨b, c, h, x, y⟩ => ⟨[b, c], h, .cons x (.cons y .nil), rfl⟩
  | .or _ _, _, _, ⟨b, c, h, x, y⟩ => ⟨[b, c], h, .cons x (.cons y .nil), rfl⟩
  | .many _, _, _, ⟨b, h, x⟩ => ⟨[b], h, .cons x .nil, rfl⟩
  | .some _, _, _, ⟨b, h, x⟩ => ⟨[b], h, .cons x .nil, rfl⟩
  | .maybe _, _, _, ⟨b, h, x⟩ => ⟨[b], h, .cons x .nil, rfl⟩
  | .none, _, _, h => ⟨[], h, .nil, rfl⟩
  | .any, _, e, _ => nomatch e
  | .letter _, _, e, _ => nomatch e
  | .cls _, _, e, _ => nomatch e
def spKinds (n : Nat) : Sp := fun vs H Q _ => ∃ a f, vs = [.ref a] ∧ FormV H f a ∧ sz f ≤ n ∧ n ≤ 20 ∧ ∀ H' b, Same H H' → H' b = Option.some (.lst ((kinds f).map V.str)) → Q (.ref b) H'
theorem flat_len : ∀ fs : List Form, (fs.flatMap kinds).length ≤ (fs.map sz).sum
  | [] => Nat.le_refl _
  | f :: fs => by
    rw [List.flatMap_cons, List.length_append, kinds_len, List.map_cons, List.sum_cons]
    have := pos_sz f
    have := flat_len fs
    omega
theorem subs_sum : ∀ f, leaf f = false → ((subs f).map sz).sum ≤ sz f
  | .join a b, _ => by show sz a + (sz b + 0) ≤ sz a + sz b + 1; omega
  | .or a b, _ => by show sz a + (sz b + 0) ≤ sz a + sz b + 1; omega
  | .many x, _ => by show sz x + 0 ≤ sz x + 1; omega
  | .some x, _ => by show sz x + 0 ≤ sz x + 1; omega
  | .maybe x, _ => by show sz x + 0 ≤ sz x + 1; omega
  | .none, _ => Nat.zero_le _
  | .any, h => nomatch h
  | .letter _, h => nomatch h
  | .cls _, h => nomatch h
theorem take_sum (fs : List Form) (i : Nat) : ((fs.take i).map sz).sum ≤ (fs.map sz).sum := by
  have e : fs.map sz = (fs.take i).map sz ++ (fs.drop i).map sz := by rw [← List.map_append, List.take_append_drop]
  rw [e, List.sum_append]
  omega
section
variable {P : Program} {w : World} {K : PySem.W.Frag} {mg : Str → Option Value} {base : Heap}
theorem scKinds : FnScope ["_law_form", "_law_found", "_law_part"] ["_law_form"] (defScope sKinds) := ⟨rfl, rfl, rfl, by decide +kernel, rfl, by decide +kernel, by decide +kernel⟩
theorem ok_kinds_step {n : Nat} {f : Addr} {fd : FuncData} (F : Fun K "_law_kinds" "_law_kinds" sKinds f fd) (bF : L2.Binds K fd ["_law_form"] []) (gF : mg "_law_kinds" = some (.ref f)) (GX : FnOk P w K mg base CX0 (n + 1) f fd ["_law_form"] (spKinds n)) : FnOk P w K mg base CX0 (n + 2) f fd ["_law_form"] (spKinds (n + 1)) := by
  refine F.ok scKinds (fun vs H Q E h => ?_) (fun cdv A outer s H vs Q E hr h => ?_)
  · obtain ⟨a, f, rfl, _⟩ := h
    rfl
  · obtain ⟨a, fm, rfl, hv, hz, hn, q⟩ := h
    refine ⟨_, pss_cons (ps_if (pt_cmpR op_in_seq (pe_ix ix_list (pv 0) pe_int (fun _ _ => rfl)) (pe_tup (pa_cons pe_str (pa_cons pe_str pa_nil))) (by rfl)) (pss_one (ps_ret (pe_lst (pa_cons (pe_ix ix_list (pv 0) pe_int (fun _ _ => rfl)) pa_nil)))) pss_nil)
      (pss_cons (ps_if (pt_cmpR op_eq (pe_ix ix_list (pv 0) pe_int (fun _ _ => rfl)) pe_str (nomark _)) (pss_one (ps_ret (pe_lst (pa_cons pe_str pa_nil)))) pss_nil)
      (pss_cons (ps_set (i := 1) scKinds.nd rfl (.inl rfl) (pe_lst pa_nil))
      (pss_cons (ps_for PassesOwn.never rfl (pi_list (pe_slice sl_list (pv 0) (po_some pe_int) po_none)) (pg_name (i := 2) scKinds.nd rfl (.inl rfl))
        (pss_one (ps_set (i := 1) scKinds.nd rfl (.inl rfl) (pe_op op_cat (pv 1) (pe_call GX hr (by rfl) gF F.kp bF .nil pass0 (pa_cons (pv 2) pa_nil))))))
      (pss_one (ps_ret (pv 1)))))), ?_⟩
    have lim : 2000 ≤ sizeLine := by decide
    obtain ⟨r0, hw⟩ := hv.word
    refine ⟨_, rfl, a, _, 0, .str (wordOf fm), rfl, rfl, .of hw, atI_nat (j := 0) rfl, (by show 2 ≤ sizeLine; decide), fun t nt => ⟨t, _, rfl, .inr (.of upd_same), rfl, rfl, _, rfl, ?_⟩⟩
    have st := same_upd (o := .tup [.str "letter", .str "class"]) nt
    obtain ⟨H1, eH1⟩ : ∃ H1, H1 = upd H t (.tup [.str "letter", .str "class"]) := ⟨_, rfl⟩
    rw [← eH1] at st ⊢
    by_cases lf : leaf fm = true
    · cases fm with
      | any => exact ite_f (by decide +kernel) ⟨_, rfl, a, _, 0, .str "any", rfl, rfl, .of (st _ _ hv), atI_nat (j := 0) rfl, rfl, _, rfl, ite_t (by decide +kernel) ⟨(by show 1 ≤ sizeLine; decide), fun l nl => q _ l (st.trans (same_upd nl)) upd_same⟩⟩
      | letter c => exact ite_t (show inV (V.str (Str.ofString "letter")) [V.str (Str.ofString "letter"), V.str (Str.ofString "class")] = true from by decide +kernel) ⟨_, rfl, a, _, 1, .str (sing c), rfl, rfl, .of (st _ _ hv), atI_nat (j := 1) rfl, (by show 1 ≤ sizeLine; decide), fun l nl => q _ l (st.trans (same_upd nl)) upd_same⟩
      | cls cs => exact ite_t (show inV (V.str (Str.ofString "class")) [V.str (Str.ofString "letter"), V.str (Str.ofString "class")] = true from by decide +kernel) ⟨_, rfl, a, _, 1, .str (tS cs), rfl, rfl, .of (st _ _ hv), atI_nat (j := 1) rfl, (by show 1 ≤ sizeLine; decide), fun l nl => q _ l (st.trans (same_upd nl)) upd_same⟩
      | _ => cases lf
    have lf' := Bool.eq_false_iff.mpr lf
    obtain ⟨bs, hb, hp, ecut⟩ := (hv.same st).subs lf'
    have nw : inV (.str (wordOf fm)) [.str "letter", .str "class"] = false := by
      cases fm <;> first | exact absurd rfl lf | (simp only [wordOf]; decide +kernel)
    have nany : V.str (wordOf fm) ≠ V.str "any" := by
      intro z
      injection z with z
      cases fm <;> first | exact absurd rfl lf | exact absurd z (by simp only [wordOf]; decide +kernel)
    refine ite_f nw ⟨_, rfl, a, _, 0, .str (wordOf fm), rfl, rfl, .of hb, atI_nat (j := 0) rfl, rfl, _, rfl, ite_f (decide_eq_false nany) ?_⟩
    refine ⟨Nat.zero_le _, fun l0 nl0 => ?_⟩
    have s0 := same_upd (o := .lst []) nl0
    refine ⟨_, rfl, 1, rfl, a, _, rfl, .of (s0 _ _ hb), fun c nc => ?_⟩
    rw [ecut]
    have sc := same_upd (o := .lst (bs.map V.ref)) nc
    obtain ⟨H2, eH2⟩ : ∃ H2, H2 = upd (upd H1 l0 (.lst [])) c (.lst (bs.map V.ref)) := ⟨_, rfl⟩
    have hc2 : H2 c = Option.some (.lst (bs.map V.ref)) := by rw [eH2]; exact upd_same
    have hl2 : H2 l0 = Option.some (.lst []) := by rw [eH2]; exact sc _ _ upd_same
    have s2 : Same H1 H2 := by rw [eH2]; exact s0.trans sc
    rw [← eH2]
    have lb := paired_len hp
    refine ⟨c, rfl, ⟨_, .of hc2⟩, for_list (K := K) (a := c) (xs := bs.map V.ref) (fun i σ H' => ∃ l y, σ = [Option.some (.ref a), Option.some (.ref l), y] ∧ Same H2 H' ∧ H' l = Option.some (.lst (((subs fm).take i).flatMap kinds |>.map V.str)))
      ⟨l0, _, rfl, fun _ _ e => e, hl2⟩ (fun i σ H' _ ⟨_, _, _, sm, _⟩ => .of (sm _ _ hc2)) ?_ ?_⟩
    · rintro i x σ H3 hi ⟨l, y, rfl, s3, hl⟩
      have li : i < bs.length := by
        have := (List.getElem?_eq_some_iff.mp hi).1
        rwa [List.length_map] at this
      obtain ⟨b, g, e1, e2, vb⟩ := paired_get hp i (by omega)
      obtain rfl : x = V.ref b := by
        rw [List.getElem?_map, e1] at hi
        exact (Option.some.inj hi).symm
      have zg := subs_sz fm g (List.mem_of_getElem? e2)
      refine ⟨_, rfl, _, rfl, b, g, rfl, (vb.same s2).same s3, by omega, by omega, fun H4 k s4 hk => ?_⟩
      have b1 := flat_len ((subs fm).take i)
      have b2 := take_sum (subs fm) i
      have b3 := subs_sum fm lf'
      have b4 := pos_sz g
      refine ⟨l, k, _, _, rfl, rfl, s4 _ _ hl, hk, ?_, fun u nu => ⟨u, _, rfl, s3.trans (s4.trans (same_upd nu)), ?_⟩⟩
      · rw [List.length_map, List.length_map, kinds_len]
        omega
      · rw [upd_same, List.take_add_one, e2, List.flatMap_append, List.map_append]
        simp
    · rintro σ H3 ⟨l, y, rfl, s3, hl⟩
      rw [List.length_map, lb, List.take_length, ← kinds_subs fm lf'] at hl
      exact ⟨_, rfl, q _ l (st.trans (s2.trans s3)) hl⟩
theorem ok_kinds {f : Addr} {fd : FuncData} (F : Fun K "_law_kinds" "_law_kinds" sKinds f fd) (bF : L2.Binds K fd ["_law_form"] []) (gF : mg "_law_kinds" = some (.ref f)) : ∀ n, FnOk P w K mg base CX0 (n + 1) f fd ["_law_form"] (spKinds n)
  | 0 => by
    have no : ∀ vs H Q E, ¬ spKinds 0 vs H Q E := fun vs H Q E h => by
      obtain ⟨a, f, _, _, z, _⟩ := h
      have := sz_pos f
      omega
    exact ⟨fun vs H Q E h => absurd h (no vs H Q E), fun A outer s H args us vs Q E _ _ _ _ h => absurd h (no vs H Q E)⟩
  | n + 1 => ok_kinds_step F bF gF (ok_kinds F bF gF n)
end
end K04

namespace K04
open PySem PySem.Spec PyProof.Rows PySem.ErrX L2
/-! ### the law's _law_ends_bad -/
def tPC : List (Str × Nat) → TA
  | [] => tNil
  | p :: ps => tCons (tTup (tCons (tC (.str p.1)) (tCons (tC (.int (p.2 : Nat))) tNil))) (tPC ps)
def PairAt (H : Hp) (a : Addr) (p : Str × Nat) : Prop := H a = some (.tup [.str p.1, .int (p.2 : Nat)])
theorem pairs_go : ∀ (ps : List (Str × Nat)) (σ : L2.St) (H : Hp) (Q : List V → Hp → Prop), (∀ as H', Same H H' → Paired (PairAt H') as ps → Q (as.map V.ref) H') → tPC ps σ H Q
  | [], _, _, _, q => q [] _ same_refl .nil
  | p :: ps, σ, H, Q, q => ⟨(by show 2 ≤ sizeLine; decide), fun t nt => pairs_go ps σ _ _ fun as H' s pr => q (t :: as) H' ((same_upd nt).trans s) (.cons (s _ _ upd_same) pr)⟩
theorem PairAt.same {H H' : Hp} (s : Same H H') {a : Addr} {p : Str × Nat} (h : PairAt H a p) : PairAt H' a p := s _ _ h
theorem paired_app {α β : Type} {F : α → β → Prop} : ∀ {as : List α} {bs : List β} {cs : List α} {ds : List β}, Paired F as bs → Paired F cs ds → Paired F (as ++ cs) (bs ++ ds)
  | _, _, _, _, .nil, h => h
  | _, _, _, _, .cons r rs, h => .cons r (paired_app rs h)
/-- a written list of pairs -/
theorem lst_go (ps : List (Str × Nat)) (few : ps.length ≤ 100) {σ : L2.St} {H : Hp} {Q : VK} (q : ∀ as l H', Same H H' → H' l = some (.lst (as.map V.ref)) → Paired (PairAt H') as ps → Q (.ref l) H') : tLst (tPC ps) σ H Q :=
  pairs_go ps σ H _ fun as H1 s1 pr => ⟨by
    have := paired_len pr
    rw [List.length_map]
    exact small (by omega), fun l nl => q as l _ (s1.trans (same_upd nl)) upd_same (paired_imp pr fun _ _ h => h.same (same_upd nl))⟩
/-- found = found + [..] -/
def spBad : Sp := fun vs H Q _ => vs = [] ∧ ∀ H' l as, Same H H' → H' l = some (.lst (as.map V.ref)) → Paired (PairAt H') as bads → Q (.ref l) H'
section
variable {P : Program} {w : World} {K : PySem.W.Frag} {mg : Str → Option Value} {base : Heap}
theorem scBad : FnScope ["_law_found"] [] (defScope sBad) := ⟨rfl, rfl, rfl, by decide +kernel, rfl, by decide +kernel, by decide +kernel⟩
theorem ok_bad {f : Addr} {fd : FuncData} (F : Fun K "_law_ends_bad" "_law_ends_bad" sBad f fd) : FnOk P w K mg base CX0 1 f fd [] spBad := by
  refine F.ok scBad (fun vs H Q E h => ?_) (fun cdv A outer s H vs Q E hr h => ?_)
  · obtain ⟨rfl, _⟩ := h
    rfl
  · obtain ⟨rfl, q⟩ := h
    refine ⟨_, pss_cons (ps_set (i := 0) scBad.nd rfl (.inl rfl) (pe_lst (t := tPC bads1) (pa_cons (pe_tup (pa_cons pe_str (pa_cons pe_int pa_nil))) (pa_cons (pe_tup (pa_cons pe_str (pa_cons pe_int pa_nil))) (pa_cons (pe_tup (pa_cons pe_str (pa_cons pe_int pa_nil))) (pa_cons (pe_tup (pa_cons pe_str (pa_cons pe_int pa_nil))) (pa_cons (pe_tup (pa_cons pe_str (pa_cons pe_int pa_nil))) (pa_cons (pe_tup (pa_cons pe_str (pa_cons pe_int pa_nil))) (pa_cons (pe_tup (pa_cons pe_str (pa_cons pe_int pa_nil))) (pa_cons (pe_tup (pa_cons pe_str (pa_cons pe_int pa_nil))) pa_nil))))))))))
      (pss_cons (ps_set (i := 0) scBad.nd rfl (.inl rfl) (pe_op op_cat (pv 0) (pe_lst (t := tPC bads2) (pa_cons (pe_tup (pa_cons pe_str (pa_cons pe_int pa_nil))) (pa_cons (pe_tup (pa_cons pe_str (pa_cons pe_int pa_nil))) (pa_cons (pe_tup (pa_cons pe_str (pa_cons pe_int pa_nil))) (pa_cons (pe_tup (pa_cons pe_str (pa_cons pe_int pa_nil))) (pa_cons (pe_tup (pa_cons pe_str (pa_cons pe_int pa_nil))) (pa_cons (pe_tup (pa_cons pe_str (pa_cons pe_int pa_nil))) (pa_cons (pe_tup (pa_cons pe_str (pa_cons pe_int pa_nil))) pa_nil))))))))))
      (pss_cons (ps_set (i := 0) scBad.nd rfl (.inl rfl) (pe_op op_cat (pv 0) (pe_lst (t := tPC bads3) (pa_cons (pe_tup (pa_cons pe_str (pa_cons pe_int pa_nil))) (pa_cons (pe_tup (pa_cons pe_str (pa_cons pe_int pa_nil))) pa_nil)))))
      (pss_cons (ps_set (i := 0) scBad.nd rfl (.inl rfl) (pe_op op_cat (pv 0) (pe_lst (t := tPC bads4) (pa_cons (pe_tup (pa_cons pe_str (pa_cons pe_int pa_nil))) (pa_cons (pe_tup (pa_cons pe_str (pa_cons pe_int pa_nil))) (pa_cons (pe_tup (pa_cons pe_str (pa_cons pe_int pa_nil))) (pa_cons (pe_tup (pa_cons pe_str (pa_cons pe_int pa_nil))) (pa_cons (pe_tup (pa_cons pe_str (pa_cons pe_int pa_nil))) (pa_cons (pe_tup (pa_cons pe_str (pa_cons pe_int pa_nil))) (pa_cons (pe_tup (pa_cons pe_str (pa_cons pe_int pa_nil))) (pa_cons (pe_tup (pa_cons pe_str (pa_cons pe_int pa_nil))) pa_nil)))))))))))
      (pss_cons (ps_set (i := 0) scBad.nd rfl (.inl rfl) (pe_op op_cat (pv 0) (pe_lst (t := tPC bads5) (pa_cons (pe_tup (pa_cons pe_str (pa_cons pe_int pa_nil))) (pa_cons (pe_tup (pa_cons pe_str (pa_cons pe_int pa_nil))) (pa_cons (pe_tup (pa_cons pe_str (pa_cons pe_int pa_nil))) (pa_cons (pe_tup (pa_cons pe_str (pa_cons pe_int pa_nil))) (pa_cons (pe_tup (pa_cons pe_str (pa_cons pe_int pa_nil))) (pa_cons (pe_tup (pa_cons pe_str (pa_cons pe_int pa_nil))) (pa_cons (pe_tup (pa_cons pe_str (pa_cons pe_int pa_nil))) (pa_cons (pe_tup (pa_cons pe_str (pa_cons pe_int pa_nil))) pa_nil)))))))))))
      (pss_one (ps_ret (pe_op op_cat (pv 0) (pe_lst (t := tPC bads6) (pa_cons (pe_tup (pa_cons pe_str (pa_cons pe_int pa_nil))) (pa_cons (pe_tup (pa_cons pe_str (pa_cons pe_int pa_nil))) pa_nil)))))))))), ?_⟩
    have cat : ∀ {H1 H2 : Hp} {as bs : List Addr} {l m : Addr} {ps qs : List (Str × Nat)}, Same H1 H2 → H1 l = some (.lst (as.map V.ref)) → Paired (PairAt H1) as ps → H2 m = some (.lst (bs.map V.ref)) → Paired (PairAt H2) bs qs → ps.length + qs.length ≤ 100 →
        ∀ (Q : VK), (∀ H3 c, Same H2 H3 → H3 c = some (.lst ((as ++ bs).map V.ref)) → Paired (PairAt H3) (as ++ bs) (ps ++ qs) → Q (.ref c) H3) → rCat (V.ref l) (V.ref m) H2 Q := by
      intro H1 H2 as bs l m ps qs s hl pl hm pm few Q q
      have l1 := paired_len pl
      have l2 := paired_len pm
      refine ⟨l, m, _, _, rfl, rfl, s _ _ hl, hm, by rw [List.length_map, List.length_map]; exact small (by omega), fun p np => ?_⟩
      have sp := same_upd (o := .lst (as.map V.ref ++ bs.map V.ref)) np
      exact q _ p sp (by rw [upd_same, List.map_append]) (paired_app (paired_imp pl fun _ _ h => (h.same s).same sp) (paired_imp pm fun _ _ h => h.same sp))
    dsimp only [tSeq, tAsg]
    refine lst_go bads1 (by decide) fun as1 l1 H1 s1 h1 p1 => ⟨_, rfl, lst_go bads2 (by decide) fun as2 l2 H2 s2 h2 p2 => cat s2 h1 p1 h2 p2 (by decide) _ fun H3 l3 s3 h3 p3 => ?_⟩
    refine ⟨_, rfl, lst_go bads3 (by decide) fun as4 l4 H4 s4 h4 p4 => cat s4 h3 p3 h4 p4 (by decide) _ fun H5 l5 s5 h5 p5 => ?_⟩
    refine ⟨_, rfl, lst_go bads4 (by decide) fun as6 l6 H6 s6 h6 p6 => cat s6 h5 p5 h6 p6 (by decide) _ fun H7 l7 s7 h7 p7 => ?_⟩
    refine ⟨_, rfl, lst_go bads5 (by decide) fun as8 l8 H8 s8 h8 p8 => cat s8 h7 p7 h8 p8 (by decide) _ fun H9 l9 s9 h9 p9 => ?_⟩
    refine ⟨_, rfl, lst_go bads6 (by decide) fun asA lA HA sA hA pA => cat sA h9 p9 hA pA (by decide) _ fun HB lB sB hB pB => ?_⟩
    exact q HB lB _ (s1.trans (s2.trans (s3.trans (s4.trans (s5.trans (s6.trans (s7.trans (s8.trans (s9.trans (sA.trans sB)))))))))) hB pB
end
end K04

namespace L2
open PySem PySem.Spec PyProof.Rows PySem.ErrX
section
variable {X : Cx}
/-- text * int -/
def rMulS : R2 := fun x y H Q => ∃ (z : Str) (n : Nat), x = .str z ∧ y = .int (n : Nat) ∧ z.length ≤ 16 ∧ n ≤ 1000 ∧ Q (.str (Txt.mul z (n : Nat))) H
theorem op_mulS : OpR X (binaryOp .Mult) rMulS := by
  intro pins s σ H x y v u Q I rx ry h
  obtain ⟨z, n, rfl, rfl, hz, hn, q⟩ := h
  obtain ⟨t, rfl⟩ := rx
  obtain ⟨t', rfl⟩ := ry
  exact PySem.SB.mul (PyProof.Rows.mulOk_of 16 1000 hz (by omega) (by omega) (by decide) (by decide)) fun t' tk => ⟨.str (Txt.mul z (n : Nat)), H, I.tok _, ⟨_, rfl⟩, q⟩
end
/-- a statement, then the rest: by what stands between -/
theorem seq_gen {t u : TS} {D : Ends} {σ : L2.St} {H : Hp} (M : L2.St → Hp → Prop) (h1 : ∀ D' : Ends, (∀ σ' H', M σ' H' → D'.nx σ' H') → D'.rt = D.rt → t D' σ H) (h2 : ∀ σ' H', M σ' H' → u D σ' H') : tSeq t u D σ H := h1 _ h2 rfl
end L2
namespace K04
open PySem PySem.Spec PyProof.Rows PySem.ErrX L2
theorem told_bad {K : PySem.W.Frag} {z : Str} {i : Nat} {H : Hp} {Q : VK} {E0 : XK} (hz : z.length ≤ 1000) (h : E z = some (some i)) (q : ∀ p H', Same H H' → H' p = some (.lst [.str "bad", .int (i : Nat)]) → Q (.ref p) H') : spTold K [.str z] H Q E0 :=
  ⟨.str z, rfl, .str z hz, (fun e => nomatch e), fun y e => by
    cases e
    have hb := errOf_bad h
    exact ⟨hz, _, hb, fun j ej => (by cases ej; exact q), fun m em => (by cases em)⟩⟩
theorem told_fine {K : PySem.W.Frag} {z : Str} {H : Hp} {Q : VK} {E0 : XK} (hz : z.length ≤ 1000) (h : E z = some none) (q : ∀ H', Same H H' → Q .non H') : spTold K [.str z] H Q E0 :=
  ⟨.str z, rfl, .str z hz, (fun e => nomatch e), fun y e => by
    cases e
    obtain ⟨m, hm⟩ := errOf_ok h
    exact ⟨hz, _, hm, fun j ej => (by cases ej), fun m em => q⟩⟩
theorem told_odd {K : PySem.W.Frag} {x : V} {H : Hp} {Q : VK} {E0 : XK} (k : Kind K H x) (n : isStr x = false) (q : ∀ p H', Same H H' → H' p = some (.lst [.str "bad", .non]) → Q (.ref p) H') : spTold K [x] H Q E0 :=
  ⟨x, rfl, k, fun _ => q, fun z e => (by rw [e] at n; cases n)⟩
theorem sh_int (i : Int) : SeqAt.shaped (.list [.str "bad", .int i]) = true := by
  have a : PyData.canLay0 (.str "bad") = true := by decide +kernel
  have c : PyData.canLay0 (.list [.str "bad", .int i]) = true := by
    show (PyData.canLay0 (.str "bad") && (true && true)) = true
    rw [a]; rfl
  refine Bool.and_eq_true_iff.mpr ⟨c, ?_⟩
  rfl
theorem ne_int {K : PySem.W.Frag} {H : Hp} {p l : Addr} {i j : Int} {Q : VK} (hp : H p = some (.lst [.str "bad", .int i])) (hl : H l = some (.lst [.str "bad", .int j])) (e : i = j) (q : Q (.bl false) H) : rNeD K (.ref p) (.ref l) H Q := by
  subst e
  have sh : SeqAt.shaped (.list [.str "bad", .int i]) = true := sh_int i
  refine ⟨.list [.str "bad", .int i], .list [.str "bad", .int i], .lst (.inl (.inl hp)) (.cons (.str _) (.cons (.int _) .nil)), .lst (.inl (.inl hl)) (.cons (.str _) (.cons (.int _) .nil)), sh, sh, ?_⟩
  rw [SeqAt.eqv_refl _ (SeqAt.canLay_of_shaped sh)]
  exact q
theorem ne_non {K : PySem.W.Frag} {H : Hp} {p l : Addr} {Q : VK} (hp : H p = some (.lst [.str "bad", .non])) (hl : H l = some (.lst [.str "bad", .non])) (q : Q (.bl false) H) : rNeD K (.ref p) (.ref l) H Q := by
  have sh : SeqAt.shaped (.list [.str "bad", .none]) = true := by decide +kernel
  refine ⟨.list [.str "bad", .none], .list [.str "bad", .none], .lst (.inl (.inl hp)) (.cons (.str _) (.cons .non .nil)), .lst (.inl (.inl hl)) (.cons (.str _) (.cons .non .nil)), sh, sh, ?_⟩
  rw [SeqAt.eqv_refl _ (SeqAt.canLay_of_shaped sh)]
  exact q
/-- told != ['bad', n], where it is just so told -/
theorem tn_bad {K : PySem.W.Frag} {z : Str} {i : Nat} {H : Hp} {σ : L2.St} {tn : TE} {n : Int} {R : Bool → Hp → Prop} (hz : z.length ≤ 1000) (h : E z = some (some i)) (hn : ∀ H' (Q : VK), Same H H' → Q (.int n) H' → tn σ H' Q) (e : (i : Int) = n) (r : ∀ H', Same H H' → R false H') :
    spTold K ([.str z] ++ []) H (fun x H1 => tLst (tCons (tC (.str "bad")) (tCons tn tNil)) σ H1 fun y H2 => rNeD K x y H2 fun v H3 => ∃ c, v = .bl c ∧ R c H3) L2.E0 :=
  told_bad hz h fun p H1 s1 hp => hn _ _ s1 ⟨(by show 2 ≤ sizeLine; decide), fun l nl => ne_int (same_upd nl _ _ hp) upd_same e ⟨_, rfl, r _ (s1.trans (same_upd nl))⟩⟩
/-- told is not None, where nothing is told -/
theorem tn_fine {K : PySem.W.Frag} {z : Str} {H : Hp} {σ : L2.St} {R : Bool → Hp → Prop} (hz : z.length ≤ 1000) (h : E z = some none) (r : ∀ H', Same H H' → R false H') :
    spTold K ([.str z] ++ []) H (fun x H1 => tC V.non σ H1 fun y H2 => (fun (x y : V) (H : Hp) (Q : VK) => y = V.non ∧ Q (V.bl !decide (x = V.non)) H) x y H2 fun v H3 => ∃ c, v = .bl c ∧ R c H3) L2.E0 :=
  told_fine hz h fun H1 s1 => ⟨rfl, _, rfl, r _ s1⟩
/-- told != ['bad', None], where the thing is no text -/
theorem tn_odd {K : PySem.W.Frag} {x : V} {H : Hp} {σ : L2.St} {R : Bool → Hp → Prop} (k : Kind K H x) (n : isStr x = false) (r : ∀ H', Same H H' → R false H') :
    spTold K ([x] ++ []) H (fun x H1 => tLst (tCons (tC (.str "bad")) (tCons (tC .non) tNil)) σ H1 fun y H2 => rNeD K x y H2 fun v H3 => ∃ c, v = .bl c ∧ R c H3) L2.E0 :=
  told_odd k n fun p H1 s1 hp => ⟨(by show 2 ≤ sizeLine; decide), fun l nl => ne_non (same_upd nl _ _ hp) upd_same ⟨_, rfl, r _ (s1.trans (same_upd nl))⟩⟩
theorem mul_a12 : Txt.mul "a" ((12 : Nat) : Int) = rep "a" 12 := by decide +kernel
theorem mul_d12 : Txt.mul "." ((12 : Nat) : Int) = rep "." 12 := by decide +kernel
theorem mul_a13 : Txt.mul "a" ((13 : Nat) : Int) = rep "a" 13 := by decide +kernel
theorem mul_s28 : Txt.mul "*" ((28 : Nat) : Int) = rep "*" 28 := by decide +kernel
theorem mul_alt : Txt.mul "a|" ((12 : Nat) : Int) = rep "a|" 12 := by decide +kernel
theorem mul_star : ∀ n, n < 30 → Txt.mul "*" ((29 + n : Nat) : Int) = rep "*" (29 + n) := by decide +kernel
theorem mul_a : ∀ n, n < 30 → Txt.mul "a" ((n : Nat) : Int) = rep "a" n := by decide +kernel
theorem rep_len : ∀ n, n < 60 → (rep "a" n).length = n ∧ (rep "*" n).length = n := by decide +kernel
end K04

namespace K04
open PySem PySem.Spec PyProof.Rows PySem.ErrX L2
def spLaw (K : PySem.W.Frag) : Sp := fun vs H Q _ => ∃ (a : Addr) (ns : List Int), vs = [.ref a] ∧ SqL K H a (ns.map V.int) ∧ ns.length ≤ 63 ∧ ∀ H', Q (.bl true) H'
structure Own (mg : Str → Option Value) : Prop where
  range : mg "range" = none
  max : mg "max" = none
  min : mg "min" = none
theorem boot_max : bootBuiltins "max" = some (.builtin "max") := by decide +kernel
theorem boot_min : bootBuiltins "min" = some (.builtin "min") := by decide +kernel
theorem good_ab : GoodS "ab" := ⟨by decide +kernel, by decide +kernel, by decide +kernel, by decide +kernel⟩
theorem but_same {p : Addr} {H H1 H2 : Hp} (s : Same H H1) (n : H p = none) (b : But p H1 H2) : Same H H2 := fun c o e => b c o (ne_of_none e n) (s c o e)
theorem rights_ok : ∀ x ∈ rights, E x = some none ∧ x.length ≤ 40 := by decide +kernel
theorem seven_ok : ∀ x ∈ seven, E x.1 = some (some x.2) ∧ x.1.length ≤ 40 := by decide +kernel
theorem for_lst_go {K : PySem.W.Frag} (ps : List (Str × Nat)) (few : ps.length ≤ 100) {g : TG} {tb : TS} {D : Ends} {σ : L2.St} {H : Hp} (q : ∀ as l H', Same H H' → H' l = some (.lst (as.map V.ref)) → Paired (PairAt H') as ps → tFor (iList K (tC (.ref l))) g tb D σ H') : tFor (iList K (tLst (tPC ps))) g tb D σ H := by
  dsimp only [tFor, iList]
  refine lst_go ps few fun as l H' s hl pr => ?_
  exact q as l H' s hl pr
theorem E_of {z : Str} {i : Nat} (h : patM z = some (.error i)) : E z = some (some i) := by
  unfold E
  rw [h]
  rfl
theorem begin_str (f : Form) : ("(" : Str) ++ tS (tx f 0) ++ (")" : Str) = tS (begin' f) := by
  rw [show ("(" : Str) = tS [40] from by decide +kernel, show (")" : Str) = tS [41] from by decide +kernel, tS_app, tS_app]
  rfl
/-- a beginning that may stand ahead -/
def BegOk (f : Form) : Prop := okF f ∧ sz f ≤ 20 ∧ (begin' f).length ≤ 25 ∧ pos f ≤ 8
section
variable {P : Program} {w : World} {K : PySem.W.Frag} {mg : Str → Option Value} {base : Heap}
abbrev lawN : List Str := ["_law_script", "_law_k", "_law_pool_here", "_law_form", "_law_begin", "_law_text_here", "_law_at", "_law_right", "_law_many", "_law_thing"]
theorem scL : FnScope lawN ["_law_script"] (defScope sLaw) := ⟨rfl, rfl, rfl, by decide +kernel, rfl, by decide +kernel, by decide +kernel⟩
theorem ok_law {f fO fD fT fX fK fW fB : Addr} {fd fdO fdD fdT fdX fdK fdW fdB : FuncData} (F : Fun K "law" "law" sLaw f fd) (B : Blt mg) (O : Own mg)
    (FO : Fun K "_law_pool" "_law_pool" sPool fO fdO) (bO : L2.Binds K fdO ["_law_script", "_law_k"] []) (gO : mg "_law_pool" = some (.ref fO))
    (FD : Fun K "_law_draw" "_law_draw" sDraw fD fdD) (bD : L2.Binds K fdD ["_law_pool_here", "_law_many"] []) (gD : mg "_law_draw" = some (.ref fD))
    (FT : Fun K "_law_tree" "_law_tree" sTree fT fdT) (bT : L2.Binds K fdT ["_law_pool_here", "_law_deep", "_law_signs"] []) (gT : mg "_law_tree" = some (.ref fT))
    (FX : Fun K "_law_text" "_law_text" sText fX fdX) (bX : L2.Binds K fdX ["_law_form", "_law_weight"] []) (gX : mg "_law_text" = some (.ref fX))
    (FK : Fun K "_law_kinds" "_law_kinds" sKinds fK fdK) (bK : L2.Binds K fdK ["_law_form"] []) (gK : mg "_law_kinds" = some (.ref fK))
    (FW : Fun K "_law_told" "_law_told" sTold fW fdW) (bW : L2.Binds K fdW ["_law_text_here"] []) (gW : mg "_law_told" = some (.ref fW)) (GW : FnOk P w K mg base CX0 (4 * deep + 9) fW fdW ["_law_text_here"] (spTold K))
    (FB : Fun K "_law_ends_bad" "_law_ends_bad" sBad fB fdB) (bB : L2.Binds K fdB [] []) (gB : mg "_law_ends_bad" = some (.ref fB)) : FnOk P w K mg base CX0 (4 * deep + 10) f fd ["_law_script"] (spLaw K) := by
  have GO : FnOk P w K mg base CX0 1 fO fdO ["_law_script", "_law_k"] (spPool K) := ok_pool FO B
  have GD : FnOk P w K mg base CX0 1 fD fdD ["_law_pool_here", "_law_many"] spDraw := ok_draw FD B
  have GT : FnOk P w K mg base CX0 4 fT fdT ["_law_pool_here", "_law_deep", "_law_signs"] (spTree 2) := ok_tree FT B FD bD gD bT gT 2
  have GX : FnOk P w K mg base CX0 21 fX fdX ["_law_form", "_law_weight"] (spText 20) := ok_text FX bX gX 20
  have GK : FnOk P w K mg base CX0 21 fK fdK ["_law_form"] (spKinds 20) := ok_kinds FK bK gK 20
  have GB : FnOk P w K mg base CX0 1 fB fdB [] spBad := ok_bad FB
  refine F.ok scL (fun vs H Q E h => ?_) (fun cdv A outer s H vs Q E hr h => ?_)
  · obtain ⟨a, ns, rfl, _⟩ := h
    rfl
  · obtain ⟨a, ns, rfl, hS, hlen, q⟩ := h
    have h1 : Room 1 _ := hr.mono (by decide)
    have h4 : Room 4 _ := hr.mono (by decide)
    have h21 : Room 21 _ := hr.mono (by decide)
    have hu := hr.units
    refine ⟨_, pss_cons (ps_for PassesOwn.never rfl (pi_range1 (by rfl) O.range (pa_cons (pe_callB (call_max2 rfl) (by rfl) O.max boot_max (pa_cons pe_int (pa_cons (pe_callB (call_min2 rfl) (by rfl) O.min boot_min (pa_cons (pe_callB call_len_seq (by rfl) B.len PySem.boot_len (pa_cons (pv 0) pa_nil)) (pa_cons pe_int pa_nil))) pa_nil))) pa_nil)) (pg_name (i := 1) scL.nd rfl (.inl rfl))
        (pss_cons (ps_set (i := 2) scL.nd rfl (.inl rfl) (pe_call GO h1 (by rfl) gO FO.kp bO .nil pass0 (pa_cons (pv 0) (pa_cons (pv 1) pa_nil))))
        (pss_cons (ps_set (i := 3) scL.nd rfl (.inl rfl) (pe_call GT h4 (by rfl) gT FT.kp bT .nil pass0 (pa_cons (pv 2) (pa_cons pe_int (pa_cons pe_str pa_nil)))))
        (pss_cons (ps_set (i := 4) scL.nd rfl (.inl rfl) (pe_op op_add_str (pe_op op_add_str pe_str (pe_call GX h21 (by rfl) gX FX.kp bX .nil pass0 (pa_cons (pv 3) (pa_cons pe_int pa_nil)))) pe_str))
        (pss_cons (ps_if (PW.pt (pw_or (pt_cmpR op_gt (pe_callB call_len_str (by rfl) B.len PySem.boot_len (pa_cons (pv 4) pa_nil)) pe_int (nomark _)) (pw_or1 (pt_cmpR op_gt (pe_callB call_len_seq (by rfl) B.len PySem.boot_len (pa_cons (pe_call GK h21 (by rfl) gK FK.kp bK .nil pass0 (pa_cons (pv 3) pa_nil)) pa_nil)) pe_int (nomark _))))) (pss_one (ps_set (i := 4) scL.nd rfl (.inl rfl) pe_str)) pss_nil)
        (pss_cons (ps_for PassesOwn.never rfl (pi_list (pe_call0 GB h1 (by rfl) gB FB.kp bB .nil pass0)) (pg_tup rfl (pgs_cons (pg_name (i := 5) scL.nd rfl (.inl rfl)) (pgs_cons (pg_name (i := 6) scL.nd rfl (.inl rfl)) pgs_nil)))
          (pss_one (ps_if (pt_cmpR (op_neD hu) (pe_call GW hr (by rfl) gW FW.kp bW .nil pass0 (pa_cons (pe_op op_add_str (pv 4) (pv 5)) pa_nil)) (pe_lst (pa_cons pe_str (pa_cons (pe_op op_add (pe_callB call_len_str (by rfl) B.len PySem.boot_len (pa_cons (pv 4) pa_nil)) (pv 6)) pa_nil))) (nomark _)) (pss_one (ps_ret pe_bl)) pss_nil)))
        (pss_cons (ps_for PassesOwn.never rfl (pi_list (pe_lst (t := tPC seven) (pa_cons (pe_tup (pa_cons pe_str (pa_cons pe_int pa_nil))) (pa_cons (pe_tup (pa_cons pe_str (pa_cons pe_int pa_nil))) (pa_cons (pe_tup (pa_cons pe_str (pa_cons pe_int pa_nil))) (pa_cons (pe_tup (pa_cons pe_str (pa_cons pe_int pa_nil))) (pa_cons (pe_tup (pa_cons pe_str (pa_cons pe_int pa_nil))) (pa_cons (pe_tup (pa_cons pe_str (pa_cons pe_int pa_nil))) (pa_cons (pe_tup (pa_cons pe_str (pa_cons pe_int pa_nil))) pa_nil))))))))) (pg_tup rfl (pgs_cons (pg_name (i := 5) scL.nd rfl (.inl rfl)) (pgs_cons (pg_name (i := 6) scL.nd rfl (.inl rfl)) pgs_nil)))
          (pss_one (ps_if (pt_cmpR (op_neD hu) (pe_call GW hr (by rfl) gW FW.kp bW .nil pass0 (pa_cons (pv 5) pa_nil)) (pe_lst (pa_cons pe_str (pa_cons (pv 6) pa_nil))) (nomark _)) (pss_one (ps_ret pe_bl)) pss_nil)))
        (pss_cons (ps_set (i := 7) scL.nd rfl (.inl rfl) (pe_lst (pa_cons pe_str (pa_cons pe_str (pa_cons pe_str (pa_cons pe_str (pa_cons pe_str (pa_cons pe_str (pa_cons pe_str (pa_cons pe_str (pa_cons pe_str (pa_cons pe_str (pa_cons (pe_op op_mulS pe_str pe_int) (pa_cons (pe_op op_mulS pe_str pe_int) pa_nil))))))))))))))
        (pss_cons (ps_for PassesOwn.never rfl (pi_list (pe_op op_cat (pv 7) (pe_lst (pa_cons pe_str pa_nil)))) (pg_name (i := 5) scL.nd rfl (.inl rfl))
          (pss_one (ps_if (pt_cmpR op_notN (pe_call GW hr (by rfl) gW FW.kp bW .nil pass0 (pa_cons (pv 5) pa_nil)) pe_non (nomark _)) (pss_one (ps_ret pe_bl)) pss_nil)))
        (pss_cons (ps_set (i := 8) scL.nd rfl (.inl rfl) (pe_call GD h1 (by rfl) gD FD.kp bD .nil pass0 (pa_cons (pv 2) (pa_cons pe_int pa_nil))))
        (pss_cons (ps_if (pt_cmpR op_notN (pe_call GW hr (by rfl) gW FW.kp bW .nil pass0 (pa_cons (pe_op op_add_str (pe_op op_mulS pe_str pe_int) (pe_op op_mulS pe_str pe_int)) pa_nil)) pe_non (nomark _)) (pss_one (ps_ret pe_bl)) pss_nil)
        (pss_cons (ps_if (pt_cmpR (op_neD hu) (pe_call GW hr (by rfl) gW FW.kp bW .nil pass0 (pa_cons (pe_op op_add_str (pe_op op_mulS pe_str pe_int) (pe_op op_mulS pe_str (pe_op op_add pe_int (pv 8)))) pa_nil)) (pe_lst (pa_cons pe_str (pa_cons pe_int pa_nil))) (nomark _)) (pss_one (ps_ret pe_bl)) pss_nil)
        (pss_cons (ps_if (PW.pt (pw_or (pt_cmpR (op_neD hu) (pe_call GW hr (by rfl) gW FW.kp bW .nil pass0 (pa_cons (pe_op op_mulS pe_str pe_int) pa_nil)) (pe_lst (pa_cons pe_str (pa_cons pe_int pa_nil))) (nomark _)) (pw_or1 (pt_cmpR (op_neD hu) (pe_call GW hr (by rfl) gW FW.kp bW .nil pass0 (pa_cons (pe_op op_add_str (pe_op op_mulS pe_str pe_int) pe_str) pa_nil)) (pe_lst (pa_cons pe_str (pa_cons pe_int pa_nil))) (nomark _))))) (pss_one (ps_ret pe_bl)) pss_nil)
        (pss_cons (ps_if (pt_cmpR (op_neD hu) (pe_call GW hr (by rfl) gW FW.kp bW .nil pass0 (pa_cons (pe_op op_add_str (pe_op op_add_str (pe_op op_mulS pe_str pe_int) pe_str) (pe_op op_mulS pe_str (pv 8))) pa_nil)) (pe_lst (pa_cons pe_str (pa_cons pe_int pa_nil))) (nomark _)) (pss_one (ps_ret pe_bl)) pss_nil)
        (pss_cons (ps_if (pt_cmpR (op_neD hu) (pe_call GW hr (by rfl) gW FW.kp bW .nil pass0 (pa_cons (pe_op op_add_str (pe_op op_add_str (pe_op op_mulS pe_str pe_int) (pe_op op_mulS pe_str pe_int)) pe_str) pa_nil)) (pe_lst (pa_cons pe_str (pa_cons pe_int pa_nil))) (nomark _)) (pss_one (ps_ret pe_bl)) pss_nil)
        (pss_one (ps_for PassesOwn.never rfl (pi_list (pe_lst (pa_cons pe_non (pa_cons pe_int (pa_cons (pe_lst (pa_cons pe_str pa_nil)) (pa_cons (pe_tup (pa_cons pe_str pa_nil)) (pa_cons pe_bl pa_nil))))))) (pg_name (i := 9) scL.nd rfl (.inl rfl))
          (pss_one (ps_if (pt_cmpR (op_neD hu) (pe_call GW hr (by rfl) gW FW.kp bW .nil pass0 (pa_cons (pv 9) pa_nil)) (pe_lst (pa_cons pe_str (pa_cons pe_non pa_nil))) (nomark _)) (pss_one (ps_ret pe_bl)) pss_nil)))))))))))))))))))
      (pss_one (ps_ret pe_bl)), ?_⟩
    refine ⟨.ref a, rfl, a, _, rfl, .inl hS, _, _, rfl, _, _, rfl, _, rfl, ?_, ?_, for_range (lo := 0) (n := _) (fun _ σ H' => ∃ y1 y2 y3 y4 y5 y6 y7 y8 y9, σ = [some (.ref a), y1, y2, y3, y4, y5, y6, y7, y8, y9] ∧ Same H H')
      ⟨_, _, _, _, _, _, _, _, _, rfl, fun _ _ e => e⟩ ?_ ?_⟩
    · rw [List.length_map]
      have z := hlen
      split <;> split <;> omega
    · rw [List.length_map]
      have z := hlen
      split <;> split <;> omega
    · rintro j σ H1 hj ⟨y1, y2, y3, y4, y5, y6, y7, y8, y9, rfl, s1⟩
      have i8 : j ≤ 1000 := by
        rw [List.length_map] at hj
        have z := hlen
        revert hj
        split <;> split <;> omega
      have lim : 2000 ≤ sizeLine := by decide
      refine ⟨.ref a, rfl, .int (0 + (j : Int)), rfl, a, ns, _, rfl, s1.seq hS, by omega, by omega, by omega, fun H2 p g m s2 n2 hp => ?_⟩
      have hp2 : Pool H2 p := ⟨g, m, hp⟩
      refine ⟨.ref p, rfl, p, "ab", rfl, hp2, good_ab, fun H3 b fm b3 hp3 v3 ok3 z3 => ?_⟩
      have z7 : sz fm ≤ 7 := z3
      have tl := tx_len fm 0 ok3
      refine ⟨.ref b, rfl, b, fm, 0, rfl, v3, ok3, by omega, by decide, by decide, fun H4 s4 => ⟨_, _, rfl, rfl, by rw [tS_len]; have : ("(" : Str).length = 1 := rfl; omega, _, _, rfl, rfl, by rw [Str.length_append, tS_len]; have : ("(" : Str).length = 1 := rfl; have : (")" : Str).length = 1 := rfl; omega, ?_⟩⟩
      rw [begin_str]
      have hp4 : Pool H4 p := by
        obtain ⟨g, m, e⟩ := hp3
        exact ⟨g, m, s4 _ _ e⟩
      have s14 : Same H1 H4 := but_same s2 n2 (b3.trans (But.of s4))
      have v4 := v3.same s4
      clear hp3 v3 hp2
      -- the beginning, as it is or '(a)'
      dsimp only [gName]
      refine seq_gen (fun σ' H' => ∃ f5, BegOk f5 ∧ Pool H' p ∧ Same H1 H' ∧ σ' = [some (.ref a), some (.int (0 + (j : Int))), some (.ref p), some (.ref b), some (.str (tS (begin' f5))), y5, y6, y7, y8, y9]) (fun D' hn _ => ?_) ?_
      · have lb := begin_len fm
        have small' : ∀ H', Pool H' p → Same H1 H' → D'.nx [some (.ref a), some (.int (0 + (j : Int))), some (.ref p), some (.ref b), some (.str "(a)"), y5, y6, y7, y8, y9] H' := fun H' hp' s' =>
          hn _ _ ⟨.letter 97, ⟨(by show (97 : Nat) ∈ abc.cps.toList; decide +kernel), by decide, by decide +kernel, by decide⟩, hp', s', by rw [show ("(a)" : Str) = tS (begin' (.letter 97)) from by decide +kernel]⟩
        refine ⟨_, rfl, _, rfl, by rw [tS_len]; omega, _, _, rfl, rfl, _, rfl, ite2 (fun e => small' _ hp4 s14) (fun e => ?_)⟩
        rw [tS_len] at e
        refine ⟨_, rfl, b, fm, rfl, v4, by omega, by decide, fun H5 k s5 hk => ⟨k, _, rfl, .inl (.of hk), _, _, rfl, rfl, _, rfl, ?_⟩⟩
        have hp5 : Pool H5 p := by
          obtain ⟨g, m, e⟩ := hp4
          exact ⟨g, m, s5 _ _ e⟩
        rw [List.length_map, kinds_len]
        refine ite2 (fun e2 => small' _ hp5 (s14.trans s5)) (fun e2 => ?_)
        refine hn _ _ ⟨fm, ⟨ok3, by omega, ?_, ?_⟩, hp5, s14.trans s5, rfl⟩
        · have : ¬ (((begin' fm).length : Nat) : Int) > 25 := fun z => e (decide_eq_true z)
          omega
        · have : ¬ ((pos fm : Nat) : Int) > 8 := fun z => e2 (decide_eq_true z)
          omega
      rintro σ5 H5 ⟨f5, ⟨of5, zf5, lf5, pf5⟩, hp5, s15, rfl⟩
      obtain ⟨bs, ebs⟩ : ∃ bs, bs = tS (begin' f5) := ⟨_, rfl⟩
      have lbs : bs.length = (begin' f5).length := by rw [ebs, tS_len]
      have hbad : ∀ x ∈ bads, K04.E (bs ++ x.1) = some (some (bs.length + x.2)) := fun x hx => by
        rw [lbs, ebs]
        exact E_of (bad_behind of5 zf5 lf5 pf5 hx)
      rw [← ebs]
      have keepP : ∀ {H' H'' : Hp}, Same H' H'' → Pool H' p → Pool H'' p := fun s' ⟨g, m, e⟩ => ⟨g, m, s' _ _ e⟩
      -- the bad ends behind it
      refine seq_gen (fun σ' H' => ∃ z5 z6, Pool H' p ∧ Same H1 H' ∧ σ' = [some (.ref a), some (.int (0 + (j : Int))), some (.ref p), some (.ref b), some (.str bs), z5, z6, y7, y8, y9]) (fun D' hn _ => ?_) ?_
      · refine ⟨rfl, fun H6 l as s6 hl pr => ⟨l, rfl, ⟨_, .of hl⟩, for_list (K := K) (a := l) (xs := as.map V.ref) (fun _ σ H' => ∃ z5 z6, Same H6 H' ∧ σ = [some (.ref a), some (.int (0 + (j : Int))), some (.ref p), some (.ref b), some (.str bs), z5, z6, y7, y8, y9])
          ⟨_, _, fun _ _ e => e, rfl⟩ (fun i σ H' _ ⟨_, _, sm, _⟩ => .of (sm _ _ hl)) ?_ ?_⟩⟩
        · rintro i x σ H7 hi ⟨z5, z6, s7, rfl⟩
          have li : i < as.length := by
            have := (List.getElem?_eq_some_iff.mp hi).1
            rwa [List.length_map] at this
          obtain ⟨c, x2, e1, e2, vc⟩ := paired_get pr i (by rw [← paired_len pr]; exact li)
          obtain rfl : x = V.ref c := by
            rw [List.getElem?_map, e1] at hi
            exact (Option.some.inj hi).symm
          have hx2 := List.mem_of_getElem? e2
          have lx := bads_len x2 hx2
          refine ⟨c, _, rfl, .of (s7 _ _ vc), rfl, _, _, rfl, _, _, rfl, rfl, _, rfl, _, rfl, _, _, rfl, rfl, by omega, ?_⟩
          refine tn_bad (i := bs.length + x2.2) (n := (bs.length : Int) + (x2.2 : Nat)) (by rw [Str.length_append]; omega) (hbad x2 hx2) (fun H' Q' s' hq => ⟨_, rfl, _, rfl, by omega, _, rfl, _, _, rfl, rfl, hq⟩) (by omega) fun H8 s8 => iteF ?_
          exact ⟨_, _, s7.trans s8, rfl⟩
        · rintro σ H7 ⟨z5, z6, s7, rfl⟩
          exact hn _ _ ⟨_, _, keepP (s6.trans s7) hp5, s15.trans (s6.trans s7), rfl⟩
      clear hp5 s15 hbad
      rintro σ6 H6 ⟨z5, z6, hp6, s16, rfl⟩
      -- the seven that go wrong by themselves
      refine seq_gen (fun σ' H' => ∃ z5 z6, Pool H' p ∧ Same H1 H' ∧ σ' = [some (.ref a), some (.int (0 + (j : Int))), some (.ref p), some (.ref b), some (.str bs), z5, z6, y7, y8, y9]) (fun D' hn _ => ?_) ?_
      · refine for_lst_go seven (by decide) fun as l H7 s7 hl pr => ⟨l, rfl, ⟨_, .of hl⟩, for_list (K := K) (a := l) (xs := as.map V.ref) (fun _ σ H' => ∃ z5 z6, Same H7 H' ∧ σ = [some (.ref a), some (.int (0 + (j : Int))), some (.ref p), some (.ref b), some (.str bs), z5, z6, y7, y8, y9])
          ⟨_, _, fun _ _ e => e, rfl⟩ (fun i σ H' _ ⟨_, _, sm, _⟩ => .of (sm _ _ hl)) ?_ ?_⟩
        · rintro i x σ H8 hi ⟨z5, z6, s8, rfl⟩
          have li : i < as.length := by
            have := (List.getElem?_eq_some_iff.mp hi).1
            rwa [List.length_map] at this
          obtain ⟨c, x2, e1, e2, vc⟩ := paired_get pr i (by rw [← paired_len pr]; exact li)
          obtain rfl : x = V.ref c := by
            rw [List.getElem?_map, e1] at hi
            exact (Option.some.inj hi).symm
          obtain ⟨hx2, lx⟩ := seven_ok x2 (List.mem_of_getElem? e2)
          refine ⟨c, _, rfl, .of (s8 _ _ vc), rfl, _, _, rfl, _, _, rfl, rfl, _, rfl, ?_⟩
          refine tn_bad (i := x2.2) (n := (x2.2 : Nat)) (by omega) hx2 (fun H' Q' s' hq => ⟨_, rfl, hq⟩) rfl fun H9 s9 => iteF ?_
          exact ⟨_, _, s8.trans s9, rfl⟩
        · rintro σ H8 ⟨z5, z6, s8, rfl⟩
          exact hn _ _ ⟨_, _, keepP (s7.trans s8) hp6, s16.trans (s7.trans s8), rfl⟩
      clear hp6 s16
      rintro σ7 H7 ⟨z5, z6, hp7, s17, rfl⟩
      -- the right ones
      refine seq_gen (fun σ' H' => ∃ r7, Pool H' p ∧ Same H1 H' ∧ H' r7 = some (.lst ((rights.take 12).map V.str)) ∧ σ' = [some (.ref a), some (.int (0 + (j : Int))), some (.ref p), some (.ref b), some (.str bs), z5, z6, some (.ref r7), y8, y9]) (fun D' hn _ => ?_) ?_
      · refine ⟨_, 12, rfl, rfl, by decide, by decide, ?_⟩
        rw [mul_a12]
        refine ⟨_, 12, rfl, rfl, by decide, by decide, ?_⟩
        rw [mul_d12]
        refine ⟨(by show 12 ≤ sizeLine; decide), fun l nl => hn _ _ ⟨l, keepP (same_upd nl) hp7, s17.trans (same_upd nl), upd_same, rfl⟩⟩
      clear hp7 s17
      rintro σ8 H8 ⟨r7, hp8, s18, hr7, rfl⟩
      refine seq_gen (fun σ' H' => ∃ z5, Pool H' p ∧ Same H1 H' ∧ σ' = [some (.ref a), some (.int (0 + (j : Int))), some (.ref p), some (.ref b), some (.str bs), z5, z6, some (.ref r7), y8, y9]) (fun D' hn _ => ?_) ?_
      · refine ⟨_, rfl, (by show 1 ≤ sizeLine; decide), fun u nu => ⟨r7, u, _, _, rfl, rfl, same_upd nu _ _ hr7, upd_same, by rw [List.length_map]; exact small (by decide), fun l nl => ?_⟩⟩
        have su := (same_upd nu).trans (same_upd (o := .lst ((rights.take 12).map V.str ++ [.str "[z]?"])) nl)
        obtain ⟨H9, e9⟩ : ∃ H9, H9 = upd (upd H8 u (.lst [.str "[z]?"])) l (.lst ((rights.take 12).map V.str ++ [.str "[z]?"])) := ⟨_, rfl⟩
        have hl : H9 l = some (.lst (rights.map V.str)) := by
          rw [e9, upd_same]
          rfl
        rw [← e9] at su ⊢
        refine ⟨l, rfl, ⟨_, .of hl⟩, for_list (K := K) (a := l) (xs := rights.map V.str) (fun _ σ H' => ∃ z5, Same H9 H' ∧ σ = [some (.ref a), some (.int (0 + (j : Int))), some (.ref p), some (.ref b), some (.str bs), z5, z6, some (.ref r7), y8, y9])
          ⟨_, fun _ _ e => e, rfl⟩ (fun i σ H' _ ⟨_, sm, _⟩ => .of (sm _ _ hl)) ?_ ?_⟩
        · rintro i x σ HA hi ⟨z5, sA, rfl⟩
          obtain ⟨y, hy, rfl⟩ := List.mem_map.mp (List.mem_of_getElem? hi)
          obtain ⟨hy1, hy2⟩ := rights_ok y hy
          refine ⟨_, rfl, ?_⟩
          refine tn_fine (z := y) (by omega) hy1 fun HB sB => iteF ?_
          exact ⟨_, sA.trans sB, rfl⟩
        · rintro σ HA ⟨z5, sA, rfl⟩
          exact hn _ _ ⟨_, keepP (su.trans sA) hp8, s18.trans (su.trans sA), rfl⟩
      clear hp8 s18 hr7
      rintro σ9 H9 ⟨z5', hp9, s19, rfl⟩
      -- a number drawn
      refine seq_gen (fun σ' H' => ∃ n : Nat, n < 30 ∧ Same H1 H' ∧ σ' = [some (.ref a), some (.int (0 + (j : Int))), some (.ref p), some (.ref b), some (.str bs), z5', z6, some (.ref r7), some (.int (n : Nat)), y9]) (fun D' hn _ => ?_) ?_
      · obtain ⟨g9, m9, e9⟩ := hp9
        refine ⟨.ref p, rfl, p, 30, g9, m9, rfl, e9, by decide, by decide, fun r g' m' r0 r1 => hn _ _ ⟨r.toNat, by omega, fun c o ec => ?_, ?_⟩⟩
        · rw [upd_ne (ne_of_none ec n2)]
          exact s19 _ _ ec
        · have er : ((r.toNat : Nat) : Int) = r := by omega
          rw [er]
          rfl
      clear hp9 s19
      rintro σA HA ⟨n, n30, s1A, rfl⟩
      have l12 := (rep_len 12 (by decide)).1
      have l28 := (rep_len 28 (by decide)).2
      have lsn := (rep_len (29 + n) (by omega)).2
      have lan := (rep_len n (by omega)).1
      refine ⟨_, 12, rfl, rfl, by decide, by decide, _, 28, rfl, rfl, by decide, by decide, _, _, rfl, rfl, by rw [mul_a12, mul_s28, l12, l28]; omega, ?_⟩
      rw [mul_a12, mul_s28]
      refine tn_fine (by rw [Str.length_append, l12, l28]; decide) e_full fun HB sB => iteF ?_
      refine ⟨_, 12, rfl, rfl, by decide, by decide, _, rfl, _, _, rfl, rfl, _, 29 + n, rfl, congrArg V.int (by omega), by decide, by omega, _, _, rfl, rfl, by rw [mul_a12, mul_star n n30, l12, lsn]; omega, ?_⟩
      rw [mul_a12, mul_star n n30]
      refine tn_bad (i := 40) (n := 40) (by rw [Str.length_append, l12, lsn]; omega) (e_over n n30) (fun H' Q' s' hq => hq) rfl fun HC sC => iteF ?_
      refine ⟨_, 13, rfl, rfl, by decide, by decide, ?_⟩
      rw [mul_a13]
      refine tn_bad (i := 12) (n := 12) (by rw [(rep_len 13 (by decide)).1]; decide) e_13 (fun H' Q' s' hq => hq) rfl fun HD sD => iteF ?_
      refine ⟨_, 12, rfl, rfl, by decide, by decide, _, _, rfl, rfl, by rw [mul_a12, l12]; exact small (by decide), ?_⟩
      rw [mul_a12]
      refine tn_bad (i := 14) (n := 14) (by rw [Str.length_append, l12]; decide) e_14 (fun H' Q' s' hq => hq) rfl fun HE sE => iteF ?_
      have lalt : (rep "a|" 12).length = 24 := by decide +kernel
      have ldot : ("." : Str).length = 1 := rfl
      have ldol : ("$" : Str).length = 1 := rfl
      refine ⟨_, 12, rfl, rfl, by decide, by decide, _, _, rfl, rfl, by rw [mul_alt, lalt]; exact small (by decide), _, rfl, _, n, rfl, rfl, by decide, by omega, _, _, rfl, rfl, by rw [mul_alt, mul_a n n30, Str.length_append, lalt, lan]; omega, ?_⟩
      rw [mul_alt, mul_a n n30]
      refine tn_bad (i := 24) (n := 24) (by rw [Str.length_append, Str.length_append, lalt, lan]; omega) (e_alts n n30) (fun H' Q' s' hq => hq) rfl fun HF sF => iteF ?_
      refine ⟨_, 12, rfl, rfl, by decide, by decide, _, 28, rfl, rfl, by decide, by decide, _, _, rfl, rfl, by rw [mul_a12, mul_s28, l12, l28]; omega, _, _, rfl, rfl, by rw [mul_a12, mul_s28, Str.length_append, l12, l28]; omega, ?_⟩
      rw [mul_a12, mul_s28]
      refine tn_bad (i := 40) (n := 40) (by rw [Str.length_append, Str.length_append, l12, l28]; decide) e_dollar (fun H' Q' s' hq => hq) rfl fun HG sG => iteF ?_
      have s1G := s1A.trans (sB.trans (sC.trans (sD.trans (sE.trans (sF.trans sG)))))
      refine ⟨(by show 1 ≤ sizeLine; decide), fun u nu => ⟨(by show 1 ≤ sizeLine; decide), fun v nv => ⟨(by show 5 ≤ sizeLine; decide), fun l nl => ?_⟩⟩⟩
      have su := same_upd (o := .lst [.str "a"]) nu
      have sv := same_upd (o := .tup [.str "a"]) nv
      have sl := same_upd (o := .lst [.non, .int 5, .ref u, .ref v, .bl true]) nl
      obtain ⟨HH, eHH⟩ : ∃ HH, HH = upd (upd (upd HG u (.lst [.str "a"])) v (.tup [.str "a"])) l (.lst [.non, .int 5, .ref u, .ref v, .bl true]) := ⟨_, rfl⟩
      have hu2 : HH u = some (.lst [.str "a"]) := by rw [eHH]; exact sl _ _ (sv _ _ upd_same)
      have hv2 : HH v = some (.tup [.str "a"]) := by rw [eHH]; exact sl _ _ upd_same
      have hl2 : HH l = some (.lst [.non, .int 5, .ref u, .ref v, .bl true]) := by rw [eHH]; exact upd_same
      have sGH : Same HG HH := by rw [eHH]; exact su.trans (sv.trans sl)
      rw [← eHH]
      refine ⟨l, rfl, ⟨_, .of hl2⟩, for_list (K := K) (a := l) (xs := [.non, .int 5, .ref u, .ref v, .bl true]) (fun _ σ H' => ∃ z9, Same HH H' ∧ σ = [some (.ref a), some (.int (0 + (j : Int))), some (.ref p), some (.ref b), some (.str bs), z5', z6, some (.ref r7), some (.int (n : Nat)), z9])
          ⟨_, fun _ _ e => e, rfl⟩ (fun i σ H' _ ⟨_, sm, _⟩ => .of (sm _ _ hl2)) ?_ ?_⟩
      · rintro i x σ HI hi ⟨z9, sI, rfl⟩
        have kd : Kind K HI x ∧ isStr x = false := by
          have hx := List.mem_of_getElem? hi
          simp only [List.mem_cons, List.not_mem_nil, or_false] at hx
          rcases hx with rfl | rfl | rfl | rfl | rfl
          · exact ⟨.non, rfl⟩
          · exact ⟨.int 5, rfl⟩
          · exact ⟨.lst u _ (sI _ _ hu2), rfl⟩
          · exact ⟨.tup v _ (sI _ _ hv2), rfl⟩
          · exact ⟨.bl true, rfl⟩
        refine ⟨_, rfl, ?_⟩
        refine tn_odd kd.1 kd.2 fun HJ sJ => iteF ?_
        exact ⟨_, sI.trans sJ, rfl⟩
      · rintro σ HI ⟨z9, sI, rfl⟩
        exact ⟨_, _, _, _, _, _, _, _, _, rfl, s1.trans (s1G.trans (sGH.trans sI))⟩
    · rintro σ H1 ⟨y1, y2, y3, y4, y5, y6, y7, y8, y9, rfl, s1⟩
      exact q H1
end
end K04

namespace K04
open PySem PySem.Spec PyProof.Rows PySem.ErrX L2
/-- an error's facts, as the head gives them -/
theorem mk_err {K : PySem.W.Frag} {h : Heap} {mg : Str → Option Value} (X : K.In h) (G : h.Ns mainGlobals mg) {nm f qual : Str} {C fI : Addr} {oc doc pm cdv ct : Value} {od an : Option Addr} {osl : Array (Option Value)} {p1 p2 q1 q2 q3 q4 : Pos}
    (fld : Fld f) (aC : PySem.W.nsIn K mainGlobals nm = some (some (.ref C))) (ini : PySem.W.excInitIn K C exTail "Exception.__new__" = true) (over : PySem.W.excOver K C exTail = true)
    (sa : PySem.W.findIn K (.ref C) "__setattr__" = some (some (.builtin "object.__setattr__"))) (ga : PySem.W.findIn K (.ref C) "__getattribute__" = some (some (.builtin "BaseException.__getattribute__"))) (gg : PySem.W.findIn K (.ref C) "__getattr__" = some none)
    (noN : PySem.W.findIn K (.ref C) f = some none) (noT : PySem.W.takerIn K C f = some none) (iC : PySem.W.findIn K (.ref C) "__init__" = some (some (.ref fI))) (tC : PySem.W.typeIn K (.ref fI) = some (.type "function")) (kC : PySem.W.keepIn K (.ref C) = true)
    (exC : PySem.W.subIn K (.ref C) (.type "BaseException") = some true) (hdC : PySem.W.hasDictIn K C = true) (clC : PySem.W.findIn K (.ref C) "__class__" = some (some (.builtin "object.__class__"))) (obC : PySem.W.mroIn K C (.type "object") = some true)
    (spC : PySem.W.specialIn K (.builtin "object.__class__") "__get__" = some (some (.builtin "getset_descriptor.__get__"))) (taC : PySem.W.takesIn K (.builtin "object.__class__") = some true)
    (lf : K.lookup fI = some ⟨oc, od, .func (PySem.W.fnOf "__init__" qual (iArgs f p1 p2) (iBody f q1 q2 q3 q4) (iScope f) .none .none doc pm an cdv ct), osl⟩) (cf : PySem.W.codeIn K cdv qual = true) : ErrTxt K mg nm f C fI :=
  ⟨fld, PySem.W.mg_of X G aC, ini, over, sa, ga, gg, noN, noT, iC, tC, kC, exC, hdC, clC, obC, spC, taC, _, _, _, _, _, _, _, _, _, _, _, _, _, _, _, lf, cf⟩
/-- a class's facts -/
theorem mk_cls {K : PySem.W.Frag} {C : Addr} (pg : PySem.W.plainGet K C Str.empty = true) (hd : PySem.W.hasDictIn K C = true) (po : PySem.W.plainOver K C = true) (sa : PySem.W.findIn K (.ref C) "__setattr__" = some (some (.builtin "object.__setattr__"))) : Cls K C := ⟨pg, hd, po, sa⟩
theorem mk_mk {K : PySem.W.Frag} {C f : Addr} (m : PySem.W.makesIn K C = true) (i : PySem.W.findIn K (.ref C) "__init__" = some (some (.ref f))) (n : PySem.W.isFn K (.ref f) = true) (k : PySem.W.keepIn K (.ref C) = true) : Mk K C f := ⟨m, i, n, k⟩
/-- a written empty tuple, and the row of nothing -/
theorem mk_row {K : PySem.W.Frag} {h : Heap} {mg : Str → Option Value} (X : K.In h) (G : h.Ns mainGlobals mg) {a x y : Addr} {d1 d2 d3 : Option Addr} {n1 n2 n3 : Nat} {s1 s2 s3 : Array (Option Value)}
    (g : PySem.W.nsIn K mainGlobals "EMPTY_WORD" = some (some (.ref a))) (la : K.lookup a = some ⟨.type "tuple", d1, .seq #[.ref x, .ref y, .bool true] n1, s1⟩) (lx : K.lookup x = some ⟨.type "tuple", d2, .seq #[] n2, s2⟩) (ly : K.lookup y = some ⟨.type "tuple", d3, .seq #[] n3, s3⟩) : Empty K mg :=
  ⟨a, x, y, PySem.W.mg_of X G g, fun H => ⟨.inr ⟨_, _, _, la, rfl, rfl, (by show 3 ≤ sizeLine; decide), .cons rfl (.cons rfl (.cons rfl .nil))⟩, .inr ⟨_, _, _, lx, rfl, rfl, Nat.zero_le _, .nil⟩, .inr ⟨_, _, _, ly, rfl, rfl, Nat.zero_le _, .nil⟩⟩⟩
theorem all_mk {l : PySem.W.OpenLaw} {w : World} {K : PySem.W.Frag} {h : Heap} {mg : Str → Option Value} {fa cB iB cR cP frI frRd frAh frTa frTk frEx frBr frJo frIt frAt frPo frCl frLi fpP fU fR fO fD fT fX fK fW fB fZ : Addr} (X : K.In h) (G : h.Ns mainGlobals mg) (hfa : mg "law" = some (.ref fa))
    {odrI anrI odrRd anrRd odrAh anrAh odrTa anrTa odrTk anrTk odrEx anrEx odrBr anrBr odrJo anrJo odrIt anrIt odrAt anrAt odrPo anrPo odrCl anrCl odrLi anrLi odpP anpP odU anU odR anR odO anO odD anD odT anT odX anX odK anK odW anW odB anB odZ anZ : Option Addr} {slrI slrRd slrAh slrTa slrTk slrEx slrBr slrJo slrIt slrAt slrPo slrCl slrLi slpP slU slR slO slD slT slX slK slW slB slZ : Array (Option Value)} {ocrI kvrI dcrI pmrI cdrI ctrI ocrRd kvrRd dcrRd pmrRd cdrRd ctrRd ocrAh kvrAh dcrAh pmrAh cdrAh ctrAh ocrTa kvrTa dcrTa pmrTa cdrTa ctrTa ocrTk kvrTk dcrTk pmrTk cdrTk ctrTk ocrEx kvrEx dcrEx pmrEx cdrEx ctrEx ocrBr kvrBr dcrBr pmrBr cdrBr ctrBr ocrJo kvrJo dcrJo pmrJo cdrJo ctrJo ocrIt kvrIt dcrIt pmrIt cdrIt ctrIt ocrAt kvrAt dcrAt pmrAt cdrAt ctrAt ocrPo kvrPo dcrPo pmrPo cdrPo ctrPo ocrCl kvrCl dcrCl pmrCl cdrCl ctrCl ocrLi kvrLi dcrLi pmrLi cdrLi ctrLi ocpP kvpP dcpP pmpP cdpP ctpP ocU kvU dcU pmU cdU ctU ocR kvR dcR pmR cdR ctR ocO kvO dcO pmO cdO ctO ocD kvD dcD pmD cdD ctD ocT kvT dcT pmT cdT ctT ocX kvX dcX pmX cdX ctX ocK kvK dcK pmK cdK ctK ocW kvW dcW pmW cdW ctW ocB kvB dcB pmB cdB ctB ocZ kvZ dcZ pmZ cdZ ctZ : Value} {tk_letters tk_most tk_chars tk_tend : Tok}
    (tB : ErrTxt K mg "BadPattern" "at" cB iB) (yB : PySem.W.typeIn K (.ref cB) = some (.type "type")) (sBB : PySem.W.subIn K (.ref cB) (.ref cB) = some true)
    (gR0 : PySem.W.nsIn K mainGlobals "PatternReader" = some (some (.ref cR))) (clR : Cls K cR) (gP0 : PySem.W.nsIn K mainGlobals "Pattern" = some (some (.ref cP))) (clP : Cls K cP)
    (nR0 : PySem.W.findIn K (.ref cR) "_length" = some none) (nR1 : PySem.W.findIn K (.ref cR) "_signs" = some none) (nR2 : PySem.W.findIn K (.ref cR) "_at" = some none) (nR3 : PySem.W.findIn K (.ref cR) "_letters" = some none) (nR4 : PySem.W.findIn K (.ref cR) "_follows" = some none) (nP0 : PySem.W.findIn K (.ref cP) "_from_start" = some none) (nP1 : PySem.W.findIn K (.ref cP) "_to_end" = some none) (nP2 : PySem.W.findIn K (.ref cP) "_letters" = some none) (nP3 : PySem.W.findIn K (.ref cP) "_follows" = some none) (nP4 : PySem.W.findIn K (.ref cP) "_ends" = some none) (nP5 : PySem.W.findIn K (.ref cP) "_text" = some none)
    (mkR : Mk K cR frI) (mkP : Mk K cP fpP) (row : Empty K mg)
    (arI : PySem.W.findIn K (.ref cR) "__init__" = some (some (.ref frI))) (irI : PySem.W.isFn K (.ref frI) = true) (lrI : K.lookup frI = some ⟨ocrI, odrI, .func (PySem.W.fnOf "__init__" "PatternReader.__init__" (defArgs rInit) (defBody rInit) (defScope rInit) .none kvrI dcrI pmrI anrI cdrI ctrI), slrI⟩) (grI : PySem.W.codeIn K cdrI "PatternReader.__init__" = true) (krI : PySem.W.keepIn K (.ref frI) = true)
    (arRd : PySem.W.findIn K (.ref cR) "read" = some (some (.ref frRd))) (irRd : PySem.W.isFn K (.ref frRd) = true) (lrRd : K.lookup frRd = some ⟨ocrRd, odrRd, .func (PySem.W.fnOf "read" "PatternReader.read" (defArgs rRead) (defBody rRead) (defScope rRead) .none kvrRd dcrRd pmrRd anrRd cdrRd ctrRd), slrRd⟩) (grRd : PySem.W.codeIn K cdrRd "PatternReader.read" = true) (krRd : PySem.W.keepIn K (.ref frRd) = true)
    (arAh : PySem.W.findIn K (.ref cR) "_ahead" = some (some (.ref frAh))) (irAh : PySem.W.isFn K (.ref frAh) = true) (lrAh : K.lookup frAh = some ⟨ocrAh, odrAh, .func (PySem.W.fnOf "_ahead" "PatternReader._ahead" (defArgs rAhead) (defBody rAhead) (defScope rAhead) .none kvrAh dcrAh pmrAh anrAh cdrAh ctrAh), slrAh⟩) (grAh : PySem.W.codeIn K cdrAh "PatternReader._ahead" = true) (krAh : PySem.W.keepIn K (.ref frAh) = true)
    (arTa : PySem.W.findIn K (.ref cR) "_taken" = some (some (.ref frTa))) (irTa : PySem.W.isFn K (.ref frTa) = true) (lrTa : K.lookup frTa = some ⟨ocrTa, odrTa, .func (PySem.W.fnOf "_taken" "PatternReader._taken" (defArgs rTaken) (defBody rTaken) (defScope rTaken) .none kvrTa dcrTa pmrTa anrTa cdrTa ctrTa), slrTa⟩) (grTa : PySem.W.codeIn K cdrTa "PatternReader._taken" = true) (krTa : PySem.W.keepIn K (.ref frTa) = true)
    (arTk : PySem.W.findIn K (.ref cR) "_takes" = some (some (.ref frTk))) (irTk : PySem.W.isFn K (.ref frTk) = true) (lrTk : K.lookup frTk = some ⟨ocrTk, odrTk, .func (PySem.W.fnOf "_takes" "PatternReader._takes" (defArgs rTakes) (defBody rTakes) (defScope rTakes) .none kvrTk dcrTk pmrTk anrTk cdrTk ctrTk), slrTk⟩) (grTk : PySem.W.codeIn K cdrTk "PatternReader._takes" = true) (krTk : PySem.W.keepIn K (.ref frTk) = true)
    (arEx : PySem.W.findIn K (.ref cR) "_expression" = some (some (.ref frEx))) (irEx : PySem.W.isFn K (.ref frEx) = true) (lrEx : K.lookup frEx = some ⟨ocrEx, odrEx, .func (PySem.W.fnOf "_expression" "PatternReader._expression" (defArgs rExpr) (defBody rExpr) (defScope rExpr) .none kvrEx dcrEx pmrEx anrEx cdrEx ctrEx), slrEx⟩) (grEx : PySem.W.codeIn K cdrEx "PatternReader._expression" = true) (krEx : PySem.W.keepIn K (.ref frEx) = true)
    (arBr : PySem.W.findIn K (.ref cR) "_branch" = some (some (.ref frBr))) (irBr : PySem.W.isFn K (.ref frBr) = true) (lrBr : K.lookup frBr = some ⟨ocrBr, odrBr, .func (PySem.W.fnOf "_branch" "PatternReader._branch" (defArgs rBranch) (defBody rBranch) (defScope rBranch) .none kvrBr dcrBr pmrBr anrBr cdrBr ctrBr), slrBr⟩) (grBr : PySem.W.codeIn K cdrBr "PatternReader._branch" = true) (krBr : PySem.W.keepIn K (.ref frBr) = true)
    (arJo : PySem.W.findIn K (.ref cR) "_joined" = some (some (.ref frJo))) (irJo : PySem.W.isFn K (.ref frJo) = true) (lrJo : K.lookup frJo = some ⟨ocrJo, odrJo, .func (PySem.W.fnOf "_joined" "PatternReader._joined" (defArgs rJoined) (defBody rJoined) (defScope rJoined) .none kvrJo dcrJo pmrJo anrJo cdrJo ctrJo), slrJo⟩) (grJo : PySem.W.codeIn K cdrJo "PatternReader._joined" = true) (krJo : PySem.W.keepIn K (.ref frJo) = true)
    (arIt : PySem.W.findIn K (.ref cR) "_item" = some (some (.ref frIt))) (irIt : PySem.W.isFn K (.ref frIt) = true) (lrIt : K.lookup frIt = some ⟨ocrIt, odrIt, .func (PySem.W.fnOf "_item" "PatternReader._item" (defArgs rItem) (defBody rItem) (defScope rItem) .none kvrIt dcrIt pmrIt anrIt cdrIt ctrIt), slrIt⟩) (grIt : PySem.W.codeIn K cdrIt "PatternReader._item" = true) (krIt : PySem.W.keepIn K (.ref frIt) = true)
    (arAt : PySem.W.findIn K (.ref cR) "_atom" = some (some (.ref frAt))) (irAt : PySem.W.isFn K (.ref frAt) = true) (lrAt : K.lookup frAt = some ⟨ocrAt, odrAt, .func (PySem.W.fnOf "_atom" "PatternReader._atom" (defArgs rAtom) (defBody rAtom) (defScope rAtom) .none kvrAt dcrAt pmrAt anrAt cdrAt ctrAt), slrAt⟩) (grAt : PySem.W.codeIn K cdrAt "PatternReader._atom" = true) (krAt : PySem.W.keepIn K (.ref frAt) = true)
    (arPo : PySem.W.findIn K (.ref cR) "_position" = some (some (.ref frPo))) (irPo : PySem.W.isFn K (.ref frPo) = true) (lrPo : K.lookup frPo = some ⟨ocrPo, odrPo, .func (PySem.W.fnOf "_position" "PatternReader._position" (defArgs rPos) (defBody rPos) (defScope rPos) .none kvrPo dcrPo pmrPo anrPo cdrPo ctrPo), slrPo⟩) (grPo : PySem.W.codeIn K cdrPo "PatternReader._position" = true) (krPo : PySem.W.keepIn K (.ref frPo) = true)
    (arCl : PySem.W.findIn K (.ref cR) "_class_letters" = some (some (.ref frCl))) (irCl : PySem.W.isFn K (.ref frCl) = true) (lrCl : K.lookup frCl = some ⟨ocrCl, odrCl, .func (PySem.W.fnOf "_class_letters" "PatternReader._class_letters" (defArgs rClass) (defBody rClass) (defScope rClass) .none kvrCl dcrCl pmrCl anrCl cdrCl ctrCl), slrCl⟩) (grCl : PySem.W.codeIn K cdrCl "PatternReader._class_letters" = true) (krCl : PySem.W.keepIn K (.ref frCl) = true)
    (arLi : PySem.W.findIn K (.ref cR) "_link" = some (some (.ref frLi))) (irLi : PySem.W.isFn K (.ref frLi) = true) (lrLi : K.lookup frLi = some ⟨ocrLi, odrLi, .func (PySem.W.fnOf "_link" "PatternReader._link" (defArgs rLink) (defBody rLink) (defScope rLink) .none kvrLi dcrLi pmrLi anrLi cdrLi ctrLi), slrLi⟩) (grLi : PySem.W.codeIn K cdrLi "PatternReader._link" = true) (krLi : PySem.W.keepIn K (.ref frLi) = true)
    (apP : PySem.W.findIn K (.ref cP) "__init__" = some (some (.ref fpP))) (ipP : PySem.W.isFn K (.ref fpP) = true) (lpP : K.lookup fpP = some ⟨ocpP, odpP, .func (PySem.W.fnOf "__init__" "Pattern.__init__" (defArgs pInit) (defBody pInit) (defScope pInit) .none kvpP dcpP pmpP anpP cdpP ctpP), slpP⟩) (gpP : PySem.W.codeIn K cdpP "Pattern.__init__" = true) (kpP : PySem.W.keepIn K (.ref fpP) = true)
    (aU : PySem.W.nsIn K mainGlobals "united" = some (some (.ref fU))) (lU : K.lookup fU = some ⟨ocU, odU, .func (PySem.W.fnOf "united" "united" (defArgs sUnited) (defBody sUnited) (defScope sUnited) .none kvU dcU pmU anU cdU ctU), slU⟩) (gU : PySem.W.codeIn K cdU "united" = true) (kU : PySem.W.keepIn K (.ref fU) = true)
    (aR : PySem.W.nsIn K mainGlobals "read_pattern" = some (some (.ref fR))) (lR : K.lookup fR = some ⟨ocR, odR, .func (PySem.W.fnOf "read_pattern" "read_pattern" (defArgs sReadP) (defBody sReadP) (defScope sReadP) .none kvR dcR pmR anR cdR ctR), slR⟩) (gR : PySem.W.codeIn K cdR "read_pattern" = true) (kR : PySem.W.keepIn K (.ref fR) = true)
    (aO : PySem.W.nsIn K mainGlobals "_law_pool" = some (some (.ref fO))) (lO : K.lookup fO = some ⟨ocO, odO, .func (PySem.W.fnOf "_law_pool" "_law_pool" (defArgs sPool) (defBody sPool) (defScope sPool) .none kvO dcO pmO anO cdO ctO), slO⟩) (gO : PySem.W.codeIn K cdO "_law_pool" = true) (kO : PySem.W.keepIn K (.ref fO) = true)
    (aD : PySem.W.nsIn K mainGlobals "_law_draw" = some (some (.ref fD))) (lD : K.lookup fD = some ⟨ocD, odD, .func (PySem.W.fnOf "_law_draw" "_law_draw" (defArgs sDraw) (defBody sDraw) (defScope sDraw) .none kvD dcD pmD anD cdD ctD), slD⟩) (gD : PySem.W.codeIn K cdD "_law_draw" = true) (kD : PySem.W.keepIn K (.ref fD) = true)
    (aT : PySem.W.nsIn K mainGlobals "_law_tree" = some (some (.ref fT))) (lT : K.lookup fT = some ⟨ocT, odT, .func (PySem.W.fnOf "_law_tree" "_law_tree" (defArgs sTree) (defBody sTree) (defScope sTree) .none kvT dcT pmT anT cdT ctT), slT⟩) (gT : PySem.W.codeIn K cdT "_law_tree" = true) (kT : PySem.W.keepIn K (.ref fT) = true)
    (aX : PySem.W.nsIn K mainGlobals "_law_text" = some (some (.ref fX))) (lX : K.lookup fX = some ⟨ocX, odX, .func (PySem.W.fnOf "_law_text" "_law_text" (defArgs sText) (defBody sText) (defScope sText) .none kvX dcX pmX anX cdX ctX), slX⟩) (gX : PySem.W.codeIn K cdX "_law_text" = true) (kX : PySem.W.keepIn K (.ref fX) = true)
    (aK : PySem.W.nsIn K mainGlobals "_law_kinds" = some (some (.ref fK))) (lK : K.lookup fK = some ⟨ocK, odK, .func (PySem.W.fnOf "_law_kinds" "_law_kinds" (defArgs sKinds) (defBody sKinds) (defScope sKinds) .none kvK dcK pmK anK cdK ctK), slK⟩) (gK : PySem.W.codeIn K cdK "_law_kinds" = true) (kK : PySem.W.keepIn K (.ref fK) = true)
    (aW : PySem.W.nsIn K mainGlobals "_law_told" = some (some (.ref fW))) (lW : K.lookup fW = some ⟨ocW, odW, .func (PySem.W.fnOf "_law_told" "_law_told" (defArgs sTold) (defBody sTold) (defScope sTold) .none kvW dcW pmW anW cdW ctW), slW⟩) (gW : PySem.W.codeIn K cdW "_law_told" = true) (kW : PySem.W.keepIn K (.ref fW) = true)
    (aB : PySem.W.nsIn K mainGlobals "_law_ends_bad" = some (some (.ref fB))) (lB : K.lookup fB = some ⟨ocB, odB, .func (PySem.W.fnOf "_law_ends_bad" "_law_ends_bad" (defArgs sBad) (defBody sBad) (defScope sBad) .none kvB dcB pmB anB cdB ctB), slB⟩) (gB : PySem.W.codeIn K cdB "_law_ends_bad" = true) (kB : PySem.W.keepIn K (.ref fB) = true)
    (aZ : PySem.W.nsIn K mainGlobals "law" = some (some (.ref fZ))) (lZ : K.lookup fZ = some ⟨ocZ, odZ, .func (PySem.W.fnOf "law" "law" (defArgs sLaw) (defBody sLaw) (defScope sLaw) .none kvZ dcZ pmZ anZ cdZ ctZ), slZ⟩) (gZ : PySem.W.codeIn K cdZ "law" = true) (kZ : PySem.W.keepIn K (.ref fZ) = true)
    (c_letters : PySem.W.nsIn K mainGlobals "LETTERS" = some (some (.str "abcdefghijklmnopqrstuvwxyz" tk_letters)))
    (c_most : PySem.W.nsIn K mainGlobals "MOST_POSITIONS" = some (some (.int 12 tk_most)))
    (c_chars : PySem.W.nsIn K mainGlobals "MOST_CHARACTERS" = some (some (.int 40 tk_chars)))
    (c_tend : PySem.W.nsIn K mainGlobals "TEXT_END" = some (some (.str "\n" tk_tend)))
    (ztuple : PySem.W.nsIn K mainGlobals "tuple" = some none)
    (zsorted : PySem.W.nsIn K mainGlobals "sorted" = some none)
    (zset : PySem.W.nsIn K mainGlobals "set" = some none)
    (zlen : PySem.W.nsIn K mainGlobals "len" = some none)
    (zisinstance : PySem.W.nsIn K mainGlobals "isinstance" = some none)
    (zstr : PySem.W.nsIn K mainGlobals "str" = some none)
    (zsum : PySem.W.nsIn K mainGlobals "sum" = some none)
    (zabs : PySem.W.nsIn K mainGlobals "abs" = some none)
    (zint : PySem.W.nsIn K mainGlobals "int" = some none)
    (zrange : PySem.W.nsIn K mainGlobals "range" = some none)
    (zmax : PySem.W.nsIn K mainGlobals "max" = some none)
    (zmin : PySem.W.nsIn K mainGlobals "min" = some none)
    : ∃ fd : FuncData, (∀ (s : Shared) (v : Value), BindsTo s fd ⟨[v], []⟩ [("_law_script", v)]) ∧ ∀ base : Heap, K.In base → base.Ns mainGlobals mg → FnOk l.prog w K mg base CX0 (4 * deep + 10) fa fd ["_law_script"] (spLaw K) := by
  have e := hfa.symm.trans (PySem.W.mg_of X G aZ)
  cases e
  have B0 : Blt0 mg := ⟨PySem.W.mg_none_of X G ztuple, PySem.W.mg_none_of X G zsorted, PySem.W.mg_none_of X G zset⟩
  have O0 : Own0 mg := ⟨⟨_, PySem.W.mg_of X G c_letters⟩, ⟨_, PySem.W.mg_of X G c_most⟩, ⟨_, PySem.W.mg_of X G c_chars⟩, ⟨_, PySem.W.mg_of X G c_tend⟩, PySem.W.mg_none_of X G zlen⟩
  have B : Blt mg := ⟨PySem.W.mg_none_of X G zsum, PySem.W.mg_none_of X G zlen, PySem.W.mg_none_of X G zabs, PySem.W.mg_none_of X G zint⟩
  have O : Own mg := ⟨PySem.W.mg_none_of X G zrange, PySem.W.mg_none_of X G zmax, PySem.W.mg_none_of X G zmin⟩
  have R0 : PErr K mg cB iB := ⟨tB, yB⟩
  have TR : RCls K cR := ⟨clR, nR0, nR1, nR2, nR3, nR4⟩
  have TP : PCls K cP := ⟨clP, nP0, nP1, nP2, nP3, nP4, nP5⟩
  have FrI := fun_mk (st := rInit) lrI grI krI
  have FrRd := fun_mk (st := rRead) lrRd grRd krRd
  have FrAh := fun_mk (st := rAhead) lrAh grAh krAh
  have FrTa := fun_mk (st := rTaken) lrTa grTa krTa
  have FrTk := fun_mk (st := rTakes) lrTk grTk krTk
  have FrEx := fun_mk (st := rExpr) lrEx grEx krEx
  have FrBr := fun_mk (st := rBranch) lrBr grBr krBr
  have FrJo := fun_mk (st := rJoined) lrJo grJo krJo
  have FrIt := fun_mk (st := rItem) lrIt grIt krIt
  have FrAt := fun_mk (st := rAtom) lrAt grAt krAt
  have FrPo := fun_mk (st := rPos) lrPo grPo krPo
  have FrCl := fun_mk (st := rClass) lrCl grCl krCl
  have FrLi := fun_mk (st := rLink) lrLi grLi krLi
  have FpP := fun_mk (st := pInit) lpP gpP kpP
  have FU := fun_mk (st := sUnited) lU gU kU
  have FR := fun_mk (st := sReadP) lR gR kR
  have FO := fun_mk (st := sPool) lO gO kO
  have FD := fun_mk (st := sDraw) lD gD kD
  have FT := fun_mk (st := sTree) lT gT kT
  have FX := fun_mk (st := sText) lX gX kX
  have FK := fun_mk (st := sKinds) lK gK kK
  have FW := fun_mk (st := sTold) lW gW kW
  have FB := fun_mk (st := sBad) lB gB kB
  have FZ := fun_mk (st := sLaw) lZ gZ kZ
  have brI := FrI.binds (ps := ["self", "text"]) fun _ _ _ _ _ _ us hl => match us, hl with | [_, _], _ => rfl
  have brRd := FrRd.binds (ps := ["self"]) fun _ _ _ _ _ _ us hl => match us, hl with | [_], _ => rfl
  have brAh := FrAh.binds (ps := ["self"]) fun _ _ _ _ _ _ us hl => match us, hl with | [_], _ => rfl
  have brTa := FrTa.binds (ps := ["self"]) fun _ _ _ _ _ _ us hl => match us, hl with | [_], _ => rfl
  have brTk := FrTk.binds (ps := ["self", "sign"]) fun _ _ _ _ _ _ us hl => match us, hl with | [_, _], _ => rfl
  have brEx := FrEx.binds (ps := ["self"]) fun _ _ _ _ _ _ us hl => match us, hl with | [_], _ => rfl
  have brBr := FrBr.binds (ps := ["self"]) fun _ _ _ _ _ _ us hl => match us, hl with | [_], _ => rfl
  have brJo := FrJo.binds (ps := ["self", "row", "item"]) fun _ _ _ _ _ _ us hl => match us, hl with | [_, _, _], _ => rfl
  have brIt := FrIt.binds (ps := ["self"]) fun _ _ _ _ _ _ us hl => match us, hl with | [_], _ => rfl
  have brAt := FrAt.binds (ps := ["self"]) fun _ _ _ _ _ _ us hl => match us, hl with | [_], _ => rfl
  have brPo := FrPo.binds (ps := ["self"]) fun _ _ _ _ _ _ us hl => match us, hl with | [_], _ => rfl
  have brCl := FrCl.binds (ps := ["self"]) fun _ _ _ _ _ _ us hl => match us, hl with | [_], _ => rfl
  have brLi := FrLi.binds (ps := ["self", "ends", "begins"]) fun _ _ _ _ _ _ us hl => match us, hl with | [_, _, _], _ => rfl
  have bpP := FpP.binds (ps := ["self", "text"]) fun _ _ _ _ _ _ us hl => match us, hl with | [_, _], _ => rfl
  have bU := FU.binds (ps := ["one", "other"]) fun _ _ _ _ _ _ us hl => match us, hl with | [_, _], _ => rfl
  have bR := FR.binds (ps := ["text"]) fun _ _ _ _ _ _ us hl => match us, hl with | [_], _ => rfl
  have bO := FO.binds (ps := ["_law_script", "_law_k"]) fun _ _ _ _ _ _ us hl => match us, hl with | [_, _], _ => rfl
  have bD := FD.binds (ps := ["_law_pool_here", "_law_many"]) fun _ _ _ _ _ _ us hl => match us, hl with | [_, _], _ => rfl
  have bT := FT.binds (ps := ["_law_pool_here", "_law_deep", "_law_signs"]) fun _ _ _ _ _ _ us hl => match us, hl with | [_, _, _], _ => rfl
  have bX := FX.binds (ps := ["_law_form", "_law_weight"]) fun _ _ _ _ _ _ us hl => match us, hl with | [_, _], _ => rfl
  have bK := FK.binds (ps := ["_law_form"]) fun _ _ _ _ _ _ us hl => match us, hl with | [_], _ => rfl
  have bW := FW.binds (ps := ["_law_text_here"]) fun _ _ _ _ _ _ us hl => match us, hl with | [_], _ => rfl
  have bB := FB.binds (ps := []) fun _ _ _ _ _ _ us hl => match us, hl with | [], _ => rfl
  have mRd : MF K cR "read" "PatternReader.read" rRead ["self"] frRd _ := ⟨FrRd, ⟨arRd, irRd, krRd⟩, brRd⟩
  have mAh : MF K cR "_ahead" "PatternReader._ahead" rAhead ["self"] frAh _ := ⟨FrAh, ⟨arAh, irAh, krAh⟩, brAh⟩
  have mTa : MF K cR "_taken" "PatternReader._taken" rTaken ["self"] frTa _ := ⟨FrTa, ⟨arTa, irTa, krTa⟩, brTa⟩
  have mTk : MF K cR "_takes" "PatternReader._takes" rTakes ["self", "sign"] frTk _ := ⟨FrTk, ⟨arTk, irTk, krTk⟩, brTk⟩
  have mEx : MF K cR "_expression" "PatternReader._expression" rExpr ["self"] frEx _ := ⟨FrEx, ⟨arEx, irEx, krEx⟩, brEx⟩
  have mBr : MF K cR "_branch" "PatternReader._branch" rBranch ["self"] frBr _ := ⟨FrBr, ⟨arBr, irBr, krBr⟩, brBr⟩
  have mJo : MF K cR "_joined" "PatternReader._joined" rJoined ["self", "row", "item"] frJo _ := ⟨FrJo, ⟨arJo, irJo, krJo⟩, brJo⟩
  have mIt : MF K cR "_item" "PatternReader._item" rItem ["self"] frIt _ := ⟨FrIt, ⟨arIt, irIt, krIt⟩, brIt⟩
  have mAt : MF K cR "_atom" "PatternReader._atom" rAtom ["self"] frAt _ := ⟨FrAt, ⟨arAt, irAt, krAt⟩, brAt⟩
  have mPo : MF K cR "_position" "PatternReader._position" rPos ["self"] frPo _ := ⟨FrPo, ⟨arPo, irPo, krPo⟩, brPo⟩
  have mCl : MF K cR "_class_letters" "PatternReader._class_letters" rClass ["self"] frCl _ := ⟨FrCl, ⟨arCl, irCl, krCl⟩, brCl⟩
  have mLi : MF K cR "_link" "PatternReader._link" rLink ["self", "ends", "begins"] frLi _ := ⟨FrLi, ⟨arLi, irLi, krLi⟩, brLi⟩
  have kit : Kit K mg cR cB iB (fun i => match i with | 0 => frI | 1 => frRd | 2 => frAh | 3 => frTa | 4 => frTk | 5 => frEx | 6 => frBr | 7 => frJo | 8 => frIt | 9 => frAt | 10 => frPo | 11 => frCl | 12 => frLi | _ => fU) (fun i => match i with | 0 => PySem.W.fnOf "__init__" "PatternReader.__init__" (defArgs rInit) (defBody rInit) (defScope rInit) .none kvrI dcrI pmrI anrI cdrI ctrI | 1 => PySem.W.fnOf "read" "PatternReader.read" (defArgs rRead) (defBody rRead) (defScope rRead) .none kvrRd dcrRd pmrRd anrRd cdrRd ctrRd | 2 => _ | 3 => _ | 4 => _ | 5 => _ | 6 => _ | 7 => _ | 8 => _ | 9 => _ | 10 => _ | 11 => _ | 12 => _ | _ => _) := ⟨TR, B0, O0, R0, row, FU, bU, PySem.W.mg_of X G aU, mAh, mTa, mTk, mEx, mBr, mJo, mIt, mAt, mPo, mCl, mLi⟩
  refine ⟨PySem.W.fnOf "law" "law" (defArgs sLaw) (defBody sLaw) (defScope sLaw) .none kvZ dcZ pmZ anZ cdZ ctZ, fun s v => .of_eq rfl, fun base _ _ => ?_⟩
  have GR := ok_readP (P := l.prog) (w := w) (base := base) kit FR mkR (PySem.W.mg_of X G gR0) FrI brI mRd
  have GP := ok_pat FpP TP R0 (PySem.W.mg_none_of X G zisinstance) (PySem.W.mg_none_of X G zstr) FR bR (PySem.W.mg_of X G aR) GR
  have GW := ok_told FW R0 (PySem.W.exm_ref tB.exC tB.hdC yB sBB) mkP (PySem.W.mg_of X G gP0) bpP GP
  exact ok_law FZ B O FO bO (PySem.W.mg_of X G aO) FD bD (PySem.W.mg_of X G aD) FT bT (PySem.W.mg_of X G aT) FX bX (PySem.W.mg_of X G aX) FK bK (PySem.W.mg_of X G aK) FW bW (PySem.W.mg_of X G aW) GW FB bB (PySem.W.mg_of X G aB)
end K04

open PySem PySem.W PyProof.Rows
set_option maxHeartbeats 0 in
theorem PySem.Challenge.cw_surelyhas_k04_patterns_refused_holds : PySem.Challenge.rw_surelyhas_k04_patterns_refused.Holds := by
  w_on; o_law; k_head; (case hw => w_witness2)
  k_fill
  refine L2.walk_of (l := PySem.Challenge.rw_surelyhas_k04_patterns_refused) (n := 63) (k := 4 * K04.deep + 10) (x := "_law_script") (CX := fun _ => L2.CX0) (sp := fun w => K04.spLaw _) rfl (by decide) rfl ⟨rfl, by decide, by decide⟩ (fun w h Y => PySem.W.kIn_of Y) ?F (fun _ _ a ns hl _ hS => ⟨a, ns, rfl, hS, hl, fun _ => rfl⟩) fun _ _ _ _ _ z => z
  case F =>
    intro w mg fa h KX G hmg
    refine' K04.all_mk KX G hmg ?tB ?yB ?sBB ?gR0 ?clR ?gP0 ?clP ?nR0 ?nR1 ?nR2 ?nR3 ?nR4 ?nP0 ?nP1 ?nP2 ?nP3 ?nP4 ?nP5 ?mkR ?mkP ?row ?arI ?irI ?lrI ?grI ?krI ?arRd ?irRd ?lrRd ?grRd ?krRd ?arAh ?irAh ?lrAh ?grAh ?krAh ?arTa ?irTa ?lrTa ?grTa ?krTa ?arTk ?irTk ?lrTk ?grTk ?krTk ?arEx ?irEx ?lrEx ?grEx ?krEx ?arBr ?irBr ?lrBr ?grBr ?krBr ?arJo ?irJo ?lrJo ?grJo ?krJo ?arIt ?irIt ?lrIt ?grIt ?krIt ?arAt ?irAt ?lrAt ?grAt ?krAt ?arPo ?irPo ?lrPo ?grPo ?krPo ?arCl ?irCl ?lrCl ?grCl ?krCl ?arLi ?irLi ?lrLi ?grLi ?krLi ?apP ?ipP ?lpP ?gpP ?kpP ?aU ?lU ?gU ?kU ?aR ?lR ?gR ?kR ?aO ?lO ?gO ?kO ?aD ?lD ?gD ?kD ?aT ?lT ?gT ?kT ?aX ?lX ?gX ?kX ?aK ?lK ?gK ?kK ?aW ?lW ?gW ?kW ?aB ?lB ?gB ?kB ?aZ ?lZ ?gZ ?kZ ?c_letters ?c_most ?c_chars ?c_tend ?ztuple ?zsorted ?zset ?zlen ?zisinstance ?zstr ?zsum ?zabs ?zint ?zrange ?zmax ?zmin
    (case tB => refine' K04.mk_err KX G (.inr (.inr (.inl rfl))) ?aC ?ini ?over ?sa ?ga ?gg ?noN ?noT ?iC ?tC ?kC ?exC ?hdC ?clC ?obC ?spC ?taC ?lf ?cf; (case aC => k_is); (case ini => kx_is); (case over => kx_is); (case sa => k_is); (case ga => k_is); (case gg => k_is); (case noN => k_is); (case noT => k_is); (case iC => k_is); (case tC => k_is); (case kC => k_is); (case exC => k_is); (case hdC => k_is); (case clC => k_is); (case obC => k_is); (case spC => k_is); (case taC => k_is); (case lf => k_is); (case cf => k_is))
    (case yB => k_is); (case sBB => k_is); (case gR0 => k_is)
    (case clR => refine' K04.mk_cls ?pg ?hd ?po ?sa; (case pg => k_is); (case hd => k_is); (case po => k_is); (case sa => k_is))
    (case gP0 => k_is)
    (case clP => refine' K04.mk_cls ?pg ?hd ?po ?sa; (case pg => k_is); (case hd => k_is); (case po => k_is); (case sa => k_is))
    (case nR0 => k_is); (case nR1 => k_is); (case nR2 => k_is); (case nR3 => k_is); (case nR4 => k_is)
    (case nP0 => k_is); (case nP1 => k_is); (case nP2 => k_is); (case nP3 => k_is); (case nP4 => k_is); (case nP5 => k_is)
    (case mkR => refine' K04.mk_mk ?m ?i ?n ?k; (case m => k_is); (case i => k_is); (case n => k_is); (case k => k_is))
    (case mkP => refine' K04.mk_mk ?m ?i ?n ?k; (case m => k_is); (case i => k_is); (case n => k_is); (case k => k_is))
    (case row => refine' K04.mk_row KX G ?g ?la ?lx ?ly; (case g => k_is); (case la => k_is); (case lx => k_is); (case ly => k_is))
    (case arI => k_is); (case irI => k_is); (case lrI => k_is); (case grI => k_is); (case krI => k_is)
    (case arRd => k_is); (case irRd => k_is); (case lrRd => k_is); (case grRd => k_is); (case krRd => k_is)
    (case arAh => k_is); (case irAh => k_is); (case lrAh => k_is); (case grAh => k_is); (case krAh => k_is)
    (case arTa => k_is); (case irTa => k_is); (case lrTa => k_is); (case grTa => k_is); (case krTa => k_is)
    (case arTk => k_is); (case irTk => k_is); (case lrTk => k_is); (case grTk => k_is); (case krTk => k_is)
    (case arEx => k_is); (case irEx => k_is); (case lrEx => k_is); (case grEx => k_is); (case krEx => k_is)
    (case arBr => k_is); (case irBr => k_is); (case lrBr => k_is); (case grBr => k_is); (case krBr => k_is)
    (case arJo => k_is); (case irJo => k_is); (case lrJo => k_is); (case grJo => k_is); (case krJo => k_is)
    (case arIt => k_is); (case irIt => k_is); (case lrIt => k_is); (case grIt => k_is); (case krIt => k_is)
    (case arAt => k_is); (case irAt => k_is); (case lrAt => k_is); (case grAt => k_is); (case krAt => k_is)
    (case arPo => k_is); (case irPo => k_is); (case lrPo => k_is); (case grPo => k_is); (case krPo => k_is)
    (case arCl => k_is); (case irCl => k_is); (case lrCl => k_is); (case grCl => k_is); (case krCl => k_is)
    (case arLi => k_is); (case irLi => k_is); (case lrLi => k_is); (case grLi => k_is); (case krLi => k_is)
    (case apP => k_is); (case ipP => k_is); (case lpP => k_is); (case gpP => k_is); (case kpP => k_is)
    (case aU => k_is); (case lU => k_is); (case gU => k_is); (case kU => k_is)
    (case aR => k_is); (case lR => k_is); (case gR => k_is); (case kR => k_is)
    (case aO => k_is); (case lO => k_is); (case gO => k_is); (case kO => k_is)
    (case aD => k_is); (case lD => k_is); (case gD => k_is); (case kD => k_is)
    (case aT => k_is); (case lT => k_is); (case gT => k_is); (case kT => k_is)
    (case aX => k_is); (case lX => k_is); (case gX => k_is); (case kX => k_is)
    (case aK => k_is); (case lK => k_is); (case gK => k_is); (case kK => k_is)
    (case aW => k_is); (case lW => k_is); (case gW => k_is); (case kW => k_is)
    (case aB => k_is); (case lB => k_is); (case gB => k_is); (case kB => k_is)
    (case aZ => k_is); (case lZ => k_is); (case gZ => k_is); (case kZ => k_is)
    (case c_letters => k_is); (case c_most => k_is); (case c_chars => k_is); (case c_tend => k_is)
    (case ztuple => k_is); (case zsorted => k_is); (case zset => k_is); (case zlen => k_is); (case zisinstance => k_is); (case zstr => k_is); (case zsum => k_is); (case zabs => k_is); (case zint => k_is); (case zrange => k_is); (case zmax => k_is); (case zmin => k_is)
