import PyProof.Rows.All
import Wide.All
import OpenK.AllK
import Wide.FinOn
import PySem.Challenge.RW_surelyhas_k01_lines_pages_and_words
import PyProof.EqAt
import KE.KExcIs
import KE.KExcInit
import KE.KExcLine
import HandS.ForMost
import HandS.Exc
import HandS.IsInst
import HandS.ExcInit
import HandS.ExcValue
import HandS.SetFor
import HandS.TupLe
import HandS.Walk
import HandS.TryMany
import HandS.SetTxt0
import HandS.Set
import HandS.More
import HandS.ForExc
import HandS.TupAny
import HandS.ExcIs
set_option Elab.async false
set_option linter.all false
set_option maxRecDepth 100000
set_option maxHeartbeats 2000000
/-! Lines, names, words, signs and pages; what is shown of a page and read of it. A promise for each def of the law and of the code, over the modules HandS. -/
namespace PySem
namespace ErrX
open PySem.W PySem.Calls PyProof.Rows PySem.HandSPX Builtin Builtin.ObjectAttr
section
variable {M : Model} {A : Around} {E : Value → Shared → Prop} {hp : Heap} {gs : Array GenState} {dr : Drawn} {tk : Nat} {os : OsState}
variable {nm q : Str} {C N : Addr} {bs bm bmB : List Value} {hdct : Bool} {sn : List Str} {sub : List Value} {ab : Bool} {col : Option Bool} {dd : Option Addr} {k0 k1 k2 k3 k5 : Option Value} {B newId initId : String}
/-- the check ahead of the base's __new__, keywords among what it is handed -/
theorem chk_new (F : ExcBaseFacts B newId initId bmB) (hT : ∀ X : String, bm.contains (.type X) = bmB.contains (.type X)) {zs : List Value} {kw : List (Str × Value)} {Q : Unit → Shared → Prop}
    (cC : hp.get? C = some (excClassObj nm q C N bs bm hdct sn sub ab col dd k0 k1 k2 k3 k5 newId)) (fin : Q () ⟨hp, gs, dr, tk, os⟩) : wpAny M A (checkBuiltinCall newId ⟨.ref C :: zs, kw⟩) Q E ⟨hp, gs, dr, tk, os⟩ := by
  have inB : (Value.ref C :: bm).contains (.type B) = true := by rw [List.contains_cons, hT, F.hasB, Bool.or_true]
  have nst := F.noStar
  simp only [checkBuiltinCall, F.newKind, F.newSplit, F.newRow]
  repeat (first | refine wpAny_loadPart_at cC ?_ | (refine wpAny_isSubtype_exc cC ?_; rw [inB]) | refine wpAny_staticBase_exc cC ?_ | refine wpAny_madeBy_exc cC ?_ | simp only [bne_self_eq_false, Bool.false_eq_true, if_false] | wp_step)
  exact fin
end
section
variable {prog : Program} {w : World} {A : Around} {E : Value → Shared → Prop} {R : Result → Shared → Prop} {hp : Heap} {gs : Array GenState} {dr : Drawn} {tk : Nat} {os : OsState}
variable {nm q : Str} {C N : Addr} {bs bm bmB : List Value} {hdct : Bool} {sn : List Str} {sub : List Value} {ab : Bool} {col : Option Bool} {dd : Option Addr} {k0 k1 k2 k3 k5 : Option Value} {B newId initId : String}
/-- the base's __new__ of such a class, keywords let alone -/
theorem base_new (F : ExcBaseFacts B newId initId bmB) (hT : ∀ X : String, bm.contains (.type X) = bmB.contains (.type X)) {zs : List Value} {kw : List (Str × Value)}
    (cC : hp.get? C = some (excClassObj nm q C N bs bm hdct sn sub ab col dd k0 k1 k2 k3 k5 newId)) (lz : zs.length ≤ sizeLine)
    (fin : R (.ok (.ret (.ref (hp.objs.size + 1)))) ⟨(hp.push (W.kdv_tup zs)).push (excO C hp.objs.size), gs, dr, tk, os⟩) :
    codeAny (model prog w) A (.builtin newId ⟨.ref C :: zs, kw⟩) R ⟨hp, gs, dr, tk, os⟩ := by
  have nds := F.ends
  have inB : (Value.ref C :: bm).contains (.type B) = true := by rw [List.contains_cons, hT, F.hasB, Bool.or_true]
  have noA : (Value.ref C :: bm).contains (.type "AttributeError") = false := by rw [List.contains_cons, hT, F.noAttr]; rfl
  have noN : (Value.ref C :: bm).contains (.type "NameError") = false := by rw [List.contains_cons, hT, F.noName]; rfl
  refine codeAny_builtinAt F.entry ?_
  unfold Builtin.«BaseException.__new__»
  refine wpAt_bind ?_
  show wpAt _ _ _ (stack >>= _) _ _ _
  refine wpAt_bind (wpAt_stack fun _ _ => wpAt_of_wpAny ?_)
  wp_walk
  refine wpAt_of_wpAny ?_
  rw [F.owner]
  repeat (first | with_reducible refine wpAny_madeHere_exc F.canon cC ?_ | with_reducible refine wpAny_loadPart_at cC ?_ | (with_reducible refine wpAny_isSubtype_exc cC ?_; first | rw [inB] | rw [noA] | rw [noN]) | wp_step)
  show R _ _
  rw [Heap.size_push]
  exact fin
/-- type.__call__ of it: __new__, then its own __init__, with the same values and keywords -/
theorem type_call (F : ExcBaseFacts B newId initId bmB) (hT : ∀ X : String, bm.contains (.type X) = bmB.contains (.type X)) {zs : List Value} {kw : List (Str × Value)} {fI : Addr} {Q : Fin → Shared → Prop}
    (cC : hp.get? C = some (excClassObj nm q C N bs bm hdct sn sub ab col dd k0 k1 k2 k3 k5 newId))
    (hi : W.Looks (model prog w) hp (typeLookup (.ref C) "__init__") (some (.ref fI))) (hb : ∀ z, W.Looks (model prog w) hp (bindSpecial (.ref fI) z) (.ref fI, [z])) (lz : zs.length ≤ sizeLine)
    (fin : codeAny (model prog w) A (.call (.ref fI) ⟨.ref (hp.objs.size + 1) :: zs, kw⟩)
      (fun r s' => match r with | .ok (.ret v) => v = .none ∧ Q (.done (.ret (.ref (hp.objs.size + 1)))) s' | .ok _ => False | .error e => E e s')
      ⟨(hp.push (W.kdv_tup zs)).push (excO C hp.objs.size), gs, dr, tk, os⟩) :
    wpAny (model prog w) A (Builtin.«type.__call__» ⟨.ref C :: zs, kw⟩) Q E ⟨hp, gs, dr, tk, os⟩ := by
  repeat (first | with_reducible refine wpAny_loadPart_at cC ?_ | with_reducible refine wpAny_madeBy_exc cC ?_ | wp_step)
  refine codeAny_call_builtin_code (Code.quiet_builtin _ F.quiet) (chk_new F hT cC (base_new F hT cC lz ?_))
  show wpAny _ _ _ _ _ _
  have kp : ∀ b o, hp.get? b = some o → ((hp.push (W.kdv_tup zs)).push (excO C hp.objs.size)).get? b = some o := fun b o z => Heap.get?_push_of_some _ (Heap.get?_push_of_some _ z)
  have cC1 := kp _ _ cC
  have at1 : ((hp.push (W.kdv_tup zs)).push (excO C hp.objs.size)).get? (hp.objs.size + 1) = some (excO C hp.objs.size) := by heap_get
  have inC : (Value.ref C :: bm).contains (.ref C) = true := by simp
  have hi1 := hi.keeps kp
  have hb1 := (hb (.ref (hp.objs.size + 1))).keeps kp
  unfold isInstance
  repeat (first | with_reducible refine wpAny_loadPart_at at1 ?_ | (with_reducible refine wpAny_isSubtype_exc cC1 ?_; rw [inC]) | wp_step)
  show wpAny _ _ (typeLookup (.ref C) _) _ _ _
  refine hi1.at (wpAny_holding (wpAny_bind (hb1.at (wpAny_bind (wpAny_call (codeAny_mono fin fun r s' z => ?_))))))
  rcases r with e | (v | _ | _ | _) <;> first | exact z | exact z.elim | skip
  obtain ⟨rfl, z⟩ := z
  first | exact wpAny_pure (wpAny_pure z) | (wp_walk; exact z)
/-- X(..), X(f=..), X an own exception class with an __init__ of its own -/
theorem call_cls (F : ExcBaseFacts B newId initId bmB) (hT : ∀ X : String, bm.contains (.type X) = bmB.contains (.type X)) {zs : List Value} {kw : List (Str × Value)} {fI : Addr}
    (cC : hp.get? C = some (excClassObj nm q C N bs bm hdct sn sub ab col dd k0 k1 k2 k3 k5 newId))
    (hi : W.Looks (model prog w) hp (typeLookup (.ref C) "__init__") (some (.ref fI))) (hb : ∀ z, W.Looks (model prog w) hp (bindSpecial (.ref fI) z) (.ref fI, [z])) (lz : zs.length ≤ sizeLine)
    (fin : codeAny (model prog w) (A.under (.builtin "type.__call__" ⟨.ref C :: zs, kw⟩)) (.call (.ref fI) ⟨.ref (hp.objs.size + 1) :: zs, kw⟩) (W.InitBack (hp.objs.size + 1) R)
      ⟨(hp.push (W.kdv_tup zs)).push (excO C hp.objs.size), gs, dr, tk, os⟩) :
    codeAny (model prog w) A (.call (.ref C) ⟨zs, kw⟩) R ⟨hp, gs, dr, tk, os⟩ := by
  have look := tc_lookup
  have bnd := tc_bind (.ref C)
  have ty : (⟨hp, gs, dr, tk, os⟩ : Shared).TypeIs (.ref C) "type" := ⟨_, cC, rfl⟩
  refine codeAny_of_tree ?_
  show wpAny _ _ (callAny (.ref C) _) _ _ _
  repeat (any_goals (first | assumption | with_reducible refine wpAny_loadPart_at cC ?_ | wp_step))
  refine ⟨rfl, codeAny_call_builtin_at (Code.quiet_builtin _ (by decide +kernel)) entry_typeCall (wpAny_check_type_call_sub cC (type_call F hT cC hi hb lz ?_))⟩
  refine codeAny_mono fin fun r s' z => ?_
  rcases r with e | (v | _ | _ | _) <;> exact z
end
end ErrX
end PySem

namespace PySem
namespace ErrX
open PySem.W PySem.Calls PyProof.Rows PySem.HandSPX Builtin Builtin.ObjectAttr
abbrev exTail : List Value := [.type "Exception", .type "BaseException", .type "object"]
/-- def __init__(self, f): self.f = f, as it stands in the text -/
def iArgs (f : Str) (p1 p2 : Pos) : Arguments := { posonlyargs := [], args := [{ arg := "self", annotation := none, pos := p1 }, { arg := f, annotation := none, pos := p2 }], vararg := none, kwonlyargs := [], kw_defaults := [], kwarg := none, defaults := [] }
def iBody (f : Str) (q1 q2 q3 q4 : Pos) : List Stmt := [.Assign [.Attribute (.Name "self" q1) f q2] (.Name f q3) q4]
def iScope (f : Str) : Scope := { kind := .function, names := [(PySem.Str.ofString "self", .local), (f, .local)], isGenerator := false, isCoroutine := false, more := [] }
/-- the fields' names -/
def Fld (f : Str) : Prop := f = "value" ∨ f = "name" ∨ f = "at" ∨ f = "number" ∨ f = "line"
/-- what the written part says of an error's class, at C, and of its __init__, at fI -/
structure ErrTxt (K : Frag) (mg : Str → Option Value) (nm f : Str) (C fI : Addr) : Prop where
  fld : Fld f
  gC : mg nm = some (.ref C)
  ini : excInitIn K C exTail "Exception.__new__" = true
  over : excOver K C exTail = true
  sa : findIn K (.ref C) "__setattr__" = some (some (.builtin "object.__setattr__"))
  ga : findIn K (.ref C) "__getattribute__" = some (some (.builtin "BaseException.__getattribute__"))
  gg : findIn K (.ref C) "__getattr__" = some none
  noN : findIn K (.ref C) f = some none
  noT : takerIn K C f = some none
  iC : findIn K (.ref C) "__init__" = some (some (.ref fI))
  tC : typeIn K (.ref fI) = some (.type "function")
  kC : keepIn K (.ref C) = true
  exC : subIn K (.ref C) (.type "BaseException") = some true
  hdC : hasDictIn K C = true
  clC : findIn K (.ref C) "__class__" = some (some (.builtin "object.__class__"))
  obC : mroIn K C (.type "object") = some true
  spC : specialIn K (.builtin "object.__class__") "__get__" = some (some (.builtin "getset_descriptor.__get__"))
  taC : takesIn K (.builtin "object.__class__") = some true
  fn : ∃ (oc : Value) (od : Option Addr) (qual : Str) (doc pm : Value) (an : Option Addr) (cdv ct : Value) (osl : Array (Option Value)) (p1 p2 q1 q2 q3 q4 : Pos),
    K.lookup fI = some ⟨oc, od, .func (fnOf "__init__" qual (iArgs f p1 p2) (iBody f q1 q2 q3 q4) (iScope f) .none .none doc pm an cdv ct), osl⟩ ∧ codeIn K cdv qual = true
theorem err_one (v : Value) : [v].length ≤ sizeLine := by
  rw [sizeLine_eq]
  exact (by decide : 1 ≤ 16777216)
section
variable {prog : Program} {w : World} {A : Around} {E : Value → Shared → Prop} {R : Result → Shared → Prop} {s : Shared} {K : Frag} {mg : Str → Option Value} {nm f : Str} {C fI : Addr}
/-- a first store on an exception that has no dict yet -/
theorem first_store {x t0 : Addr} {tk : Tok} {v : Value} (T : ErrTxt K mg nm f C fI) (X : K.In s.heap) (hx : s.heap.get? x = some (excO C t0))
    (fin : ∀ h' tk' dx, (∀ b o, b ≠ x → s.heap.get? b = some o → h'.get? b = some o) → s.heap.objs.size ≤ dx → dx ≠ x → h'.get? x = some { cls := .ref C, dict := some dx, data := .fields #[.ref t0, .none, .none, .none, .bool false, .none] } →
      h'.Ns1 dx (fun y => if y = f then some v else none) → R (.ok (.ret .none)) { s with heap := h', toks := tk' }) :
    codeAny (model prog w) A (.call (.builtin "object.__setattr__") ⟨[.ref x, .str f tk, v], []⟩) R s := by
  have I : W.InstAt s.heap x (excO C t0) C none := ⟨hx, rfl, rfl, trivial⟩
  obtain ⟨cd, hcd, hh⟩ := any_some T.hdC
  have far : x ≠ s.heap.objs.size := Nat.ne_of_lt (Heap.lt_size hx)
  have lk : W.Looks (model prog w) s.heap (classData C) cd := W.looks_clsIn X hcd
  refine osa_openX F.store_Exception X I T.over T.noT fun b => ?_
  show wpAny _ _ (storeInOwnDict (.ref x) (.ref C) (.str f tk) f v b) _ _ _
  obtain ⟨hp, g, d, t, os⟩ := s
  obtain ⟨cn, cb, cm, cns, cq, chd, csn, csb, cab, ccol, cdel⟩ := cd
  dsimp only at hh
  subst hh
  unfold storeInOwnDict ownDictForStores
  cases b <;>
  · repeat (first | with_reducible refine store_in_new ?_ ?_ | with_reducible refine wpAny_loadPart_at hx ?_ | with_reducible refine lk.at ?_ | wp_step)
    · exact ⟨_, #[], _, (Heap.get?_update_ne _ _ _ _ far.symm).trans (Heap.get?_push_at rfl rfl), rfl, fun e he => absurd he (by simp), fun _ => rfl⟩
    · intro h' tk' hn' hs
      have hx1 : (hp.push { cls := .type "dict", data := .dict #[] }).get? x = some (excO C t0) := Heap.get?_push_of_some _ hx
      refine fin h' tk' hp.objs.size (fun b o hb ho => ?_) (Nat.le_refl _) far.symm ?_ hn'
      · exact (hs.2 b (Nat.ne_of_lt (Heap.lt_size ho))).trans ((Heap.get?_update_ne _ _ _ _ hb).trans (Heap.get?_push_of_some _ ho))
      · exact (hs.2 x far).trans (Heap.get?_update_self _ hx1 rfl)
end
end ErrX
end PySem

namespace PySem
namespace ErrX
open PySem.W PySem.Calls PyProof.Rows PySem.HandSPX Builtin Builtin.ObjectAttr
theorem keeps_except {K : Frag} {h h' : Heap} {x : Addr} (X : K.In h) (hx : K.lookup x = none) (k : ∀ b o, b ≠ x → h.get? b = some o → h'.get? b = some o) : K.In h' :=
  fun a o e => k a o (fun z => by rw [z, hx] at e; cases e) (X a o e)
theorem load_loc {M : Model} {s : Shared} {qual : Str} {scope : Scope} {L a : Addr} {cd : Value} {m : Str → Option Value} {x : Str} {pos : Pos} {v : Value} {Q : Value → Shared → Prop} {A : Around} {E : Value → Shared → Prop} (hn : s.heap.Ns L m) (hv : m x = some v) (h : Q v s)
    (hk : scope.kind = .function) (hl : (envOfC qual scope L a cd).kindOf x = some .local) (hd : (x == ("__debug__" : Str)) = false) :
    wpAny M A (eval (.Name x pos) (envOfC qual scope L a cd)) Q E s := wpAny_Name (wpAny_loadName_local hk hl hn hv h) hd
/-- a made error at e: its own dict d holds the field; what stood before stands -/
structure ErrMade (h h' : Heap) (e C d : Addr) (f : Str) (v : Value) : Prop where
  keep : ∀ b o, h.get? b = some o → h'.get? b = some o
  new : h.objs.size ≤ e
  obj : ∃ t0, h'.get? e = some { cls := .ref C, dict := some d, data := .fields #[.ref t0, .none, .none, .none, .bool false, .none] }
  dnew : h.objs.size ≤ d
  dne : d ≠ e
  ns : h'.Ns1 d (fun y => if y = f then some v else none)
/-- how the call hands the value: by position, or by the field's name -/
def handed (f : Str) (v : Value) (byName : Bool) : List Value × List (Str × Value) := if byName then ([], [(f, v)]) else ([v], [])
section
variable {prog : Program} {w : World} {A : Around} {E : Value → Shared → Prop} {R : Result → Shared → Prop} {s : Shared} {K : Frag} {mg : Str → Option Value} {nm f : Str} {C fI : Addr}
theorem err_init (T : ErrTxt K mg nm f C fI) {x t0 : Addr} {v : Value} {byName : Bool} (X : K.In s.heap) (hlim : s.heap.NoLimit) (hx : s.heap.get? x = some (excO C t0)) (hnx : K.lookup x = none) (hroom : A.depth < recursionLimit)
    (fin : ∀ h' tk dx, (∀ b o, b ≠ x → s.heap.get? b = some o → h'.get? b = some o) → s.heap.objs.size ≤ dx → dx ≠ x → h'.get? x = some { cls := .ref C, dict := some dx, data := .fields #[.ref t0, .none, .none, .none, .bool false, .none] } →
      h'.Ns1 dx (fun y => if y = f then some v else none) → R (.ok (.ret .none)) { s with heap := h', toks := tk }) :
    codeAny (model prog w) A (.call (.ref fI) ⟨.ref x :: (handed f v byName).1, (handed f v byName).2⟩) R s := by
  obtain ⟨oc, od, qual, doc, pm, an, cdv, ct, osl, p1, p2, q1, q2, q3, q4, ho, hcd⟩ := T.fn
  have bnd : BindsTo s (fnOf "__init__" qual (iArgs f p1 p2) (iBody f q1 q2 q3 q4) (iScope f) .none .none doc pm an cdv ct) ⟨.ref x :: (handed f v byName).1, (handed f v byName).2⟩ [("self", .ref x), (f, v)] := by
    rcases T.fld with rfl | rfl | rfl | rfl | rfl <;> cases byName <;> exact BindsTo.of_eq (by first | rfl | with_unfolding_all rfl)
  have kS : (iScope f).names.lookup ("self" : Str) = some .local ∧ (iScope f).names.lookup f = some .local ∧ (f == ("__debug__" : Str)) = false ∧ f ≠ ("self" : Str) := by
    rcases T.fld with rfl | rfl | rfl | rfl | rfl <;> exact ⟨by decide +kernel, by decide +kernel, by decide +kernel, by decide +kernel⟩
  refine Att.call_fn (binds := [("self", .ref x), (f, v)]) X hlim ho hcd hroom bnd ?_ (fun s1 IC => ?_) rfl rfl rfl
  · rcases T.fld with rfl | rfl | rfl | rfl | rfl <;> first | rfl | decide | with_unfolding_all rfl
  obtain ⟨h1, tk1, rfl⟩ := IC.toInCall.same
  have k1 : ∀ b o, s.heap.get? b = some o → h1.get? b = some o := IC.toInCall.keep
  have hn := IC.toInCall.ns
  have X1 : K.In h1 := X.keeps k1
  have hx1 := k1 _ _ hx
  show wpAny _ _ (execs _ _) _ _ _
  refine wpAny_execs_cons (plainObj_wpAny_Assign_Attribute ?_ ?sw)
  case sw => rcases T.fld with rfl | rfl | rfl | rfl | rfl <;> rfl
  refine load_loc (v := v) hn ?m1 (load_loc (v := .ref x) hn ?m2 ?_ rfl ?k2 rfl) rfl ?k1 kS.2.2.1
  case m1 => rcases T.fld with rfl | rfl | rfl | rfl | rfl <;> first | rfl | with_unfolding_all rfl | kernel_rfl
  case m2 => rcases T.fld with rfl | rfl | rfl | rfl | rfl <;> first | rfl | with_unfolding_all rfl | kernel_rfl
  case k1 => rcases T.fld with rfl | rfl | rfl | rfl | rfl <;> rfl
  case k2 => rcases T.fld with rfl | rfl | rfl | rfl | rfl <;> rfl
  refine set_plain X1 (ox := excO C t0) (od := none) ⟨hx1, rfl, rfl, trivial⟩ T.sa ?_
  refine first_store T X1 hx1 fun h3 tk3 dx k3 dn dne hx3 hn3 => ?_
  show wpAny _ _ (execs _ _) _ _ _
  have lt1 : s.heap.objs.size < h1.objs.size := hn.lt
  exact wpAny_execs_nil (fin h3 tk3 dx (fun b o hb z => k3 b o hb (k1 b o z)) (Nat.le_of_lt (Nat.lt_of_lt_of_le lt1 dn)) dne hx3 hn3)
theorem err_made (T : ErrTxt K mg nm f C fI) {v : Value} {byName : Bool} (X : K.In s.heap) (hlim : s.heap.NoLimit) (hroom : A.depth + 1 < recursionLimit)
    (fin : ∀ h' tk e d, ErrMade s.heap h' e C d f v → R (.ok (.ret (.ref e))) { s with heap := h', toks := tk }) :
    codeAny (model prog w) A (.call (.ref C) ⟨(handed f v byName).1, (handed f v byName).2⟩) R s := by
  obtain ⟨mn, N, q, bs, bm, hdct, sn, sub, ab, col, dd, k0, k1, k2, k3, k5, hC, hT⟩ := excInit_of X T.ini
  obtain ⟨hp, g, dr, tk, os⟩ := s
  have lz : (handed f v byName).1.length ≤ sizeLine := by
    cases byName
    · exact err_one v
    · exact Nat.zero_le _
  have kp : ∀ b o, hp.get? b = some o → ((hp.push (W.kdv_tup (handed f v byName).1)).push (excO C hp.objs.size)).get? b = some o := fun b o e => Heap.get?_push_of_some _ (Heap.get?_push_of_some _ e)
  have hget : ((hp.push (W.kdv_tup (handed f v byName).1)).push (excO C hp.objs.size)).get? (hp.objs.size + 1) = some (excO C hp.objs.size) := by heap_get
  have hnx : K.lookup (hp.objs.size + 1) = none := by
    cases e : K.lookup (hp.objs.size + 1) with
    | none => rfl
    | some o =>
      have z : hp.get? (hp.objs.size + 1) = some o := X _ _ e
      exact absurd (Nat.lt_of_succ_lt (Heap.lt_size z)) (Nat.lt_irrefl _)
  refine call_cls F.excBase_Exception hT hC (looks_findIn X T.iC) (fun z => bind_fn X z T.tC) lz ?_
  refine err_init (s := ⟨(hp.push (W.kdv_tup (handed f v byName).1)).push (excO C hp.objs.size), g, dr, tk, os⟩) T (X.keeps kp) (hlim.keeps kp) hget hnx ?_ fun h' tk' dx k' dn dne hx hns => ?_
  · have e : (A.under (.builtin "type.__call__" ⟨.ref C :: (handed f v byName).1, (handed f v byName).2⟩)).depth = A.depth + 1 := by
      first | rfl | simp [Around.under, Code.weight, Code.isCreation, Code.isGuard, Code.isCaller, Code.frames, Code.isFrame, guardIds]
    rw [e]
    exact hroom
  · have old : ∀ b o, hp.get? b = some o → h'.get? b = some o := fun b o e => k' b o (Nat.ne_of_lt (Nat.lt_succ_of_lt (Heap.lt_size e))) (kp b o e)
    have z : hp.objs.size ≤ dx := by
      have q := dn
      rw [Heap.size_push, Heap.size_push] at q
      omega
    exact ⟨rfl, fin h' tk' (hp.objs.size + 1) dx ⟨old, Nat.le_succ _, ⟨_, hx⟩, z, dne, hns⟩⟩
end
end ErrX
end PySem

namespace L2
open PySem PySem.Spec PyProof.Rows PySem.ErrX
section
variable {X : Cx} {C fI : Addr} {nm f : Str} {a : Expr} {ta : TA} {p pos pos2 kpos : Pos}
theorem relO_one {v : V} {v' : Value} (r : RelV v v') (f g : Str) : RelO (List.lookup g [(f, v)]) (if g = f then some v' else none) := by
  by_cases h : g = f
  · subst h
    rw [if_pos rfl]
    have q : List.lookup g [(g, v)] = some v := by simp [List.lookup]
    rw [q]
    exact r
  · rw [if_neg h]
    have q1 : (g == f) = false := by simpa using h
    have q : List.lookup g [(f, v)] = none := by simp [List.lookup, q1]
    rw [q]
    trivial
/-- one value is handed -/
def tOne (ta : TA) : TE := fun σ H Q => ta σ H fun vs H1 => ∃ v, vs = [v] ∧ Q v H1
/-- a made error and its dict, tracked -/
def tErr (C : Addr) (f : Str) (ta : TA) : TE := fun σ H Q => ta σ H fun vs H1 => ∃ v, vs = [v] ∧
  ∀ e d, H1 e = none → H1 d = none → d ≠ e → Q (.ref e) (upd (upd H1 d (.xd [(f, v)])) e (exo e C (some d)))
/-- the call itself, its value in hand -/
theorem err_call {k : Nat} {byName : Bool} {v' : Value} {s1 : Shared} {E : Value → Shared → Prop} {Q : Value → Shared → Prop} {pins : List (Addr × Obj)} {σ : St} {H1 : Hp} (T : ErrTxt X.K X.mg nm f C fI) (hr : Room k X.A) (I1 : Inv X pins σ H1 s1)
    (h : ∀ h' tk e d, ErrMade s1.heap h' e C d f v' → Q (.ref e) { s1 with heap := h', toks := tk }) :
    wpAny (model X.prog X.w) X.A (call (.ref C) (handed f v' byName).1 (handed f v' byName).2) Q E s1 :=
  wpAny_call (err_made T I1.kIn I1.nolimit (by have := hr.dp; omega) fun h' tk e d M => h h' tk e d M)
/-- what a made error's field reads -/
theorem err_get {v' : Value} {s1 : Shared} {E : Value → Shared → Prop} {Q : Value → Shared → Prop} {pins : List (Addr × Obj)} {σ : St} {H1 : Hp} {h' : Heap} {e d : Addr} {tk : Nat} {b : Bool} (T : ErrTxt X.K X.mg nm f C fI) (I1 : Inv X pins σ H1 s1) (M : ErrMade s1.heap h' e C d f v')
    (hv : PySem.W.handedIn v' = true) (h : ∀ tk', Q v' { s1 with heap := h', toks := tk' }) :
    wpAny (model X.prog X.w) X.A (getAttr (.ref e) f b) Q E { s1 with heap := h', toks := tk } := by
  obtain ⟨t0, he⟩ := M.obj
  obtain ⟨od, ho, hl⟩ := lookIn_ns M.ns
  have J : PySem.W.InstAt h' e _ C (some od) := ⟨he, rfl, rfl, ho⟩
  have KI : X.K.In h' := I1.kIn.keeps M.keep
  exact PySem.HandSPX.exc_get KI J T.ga T.gg T.exC (PySem.W.findObj_own T.hdC T.noN rfl (by rw [hl]; simp)) hv (h _)
/-- the made error and its dict, tracked from here on -/
theorem err_laid {v : V} {v' : Value} {s1 : Shared} {pins : List (Addr × Obj)} {σ : St} {H1 : Hp} {h' : Heap} {e d : Addr} {tk : Nat} (I1 : Inv X pins σ H1 s1) (rv : RelV v v') (M : ErrMade s1.heap h' e C d f v') :
    H1 e = none ∧ H1 d = none ∧ Inv X pins σ (upd (upd H1 d (.xd [(f, v)])) e (exo e C (some d))) { s1 with heap := h', toks := tk } := by
  obtain ⟨t0, he⟩ := M.obj
  obtain ⟨G, g1, g2⟩ := restrict h' fun b => decide (b ≠ e)
  have gk : ∀ b, b ≠ e → G.get? b = h'.get? b := fun b hb => g1 b (decide_eq_true hb)
  have ge : G.get? e = none := g2 e (by simp)
  have old : ∀ b o, s1.heap.get? b = some o → G.get? b = some o := fun b o q => (gk b (Nat.ne_of_lt (Nat.lt_of_lt_of_le (Heap.lt_size q) M.new))).trans (M.keep b o q)
  have back : ∀ b o, G.get? b = some o → h'.get? b = some o := fun b o q => by
    by_cases z : b = e
    · rw [z, ge] at q
      cases q
    · rw [← gk b z]
      exact q
  have n1 : H1 e = none := I1.hok.fresh M.new
  have n2 : H1 d = none := I1.hok.fresh M.dnew
  have o1 : ObjOk X.prog X.w (upd H1 d (.xd [(f, v)])) G d (.xd [(f, v)]) := ⟨_, M.ns.at (fun o q => (gk d M.dne).trans q), fun g => relO_one rv f g⟩
  have J1 : Inv X pins σ (upd H1 d (.xd [(f, v)])) { s1 with heap := G, toks := tk } := I1.laid (t' := tk) old M.dnew o1
  have n3 : upd H1 d (.xd [(f, v)]) e = none := by
    rw [upd_ne (fun z => M.dne z.symm)]
    exact n1
  exact ⟨n1, n2, J1.laidN (h' := h') (t' := tk) back ge n3 (exo_ok he)⟩
theorem pe_errGet {k : Nat} (T : ErrTxt X.K X.mg nm f C fI) (hr : Room k X.A) (ha : PA X [a] ta) (hg : Gl X nm := by rfl) (hdb : (nm == ("__debug__" : Str)) = false := by decide)
    (hb : attributeBase (.Call (.Name nm p) [a] [] pos) f X.env (eval (.Call (.Name nm p) [a] [] pos) X.env) = eval (.Call (.Name nm p) [a] [] pos) X.env := by rfl)
    (he : starEach (a :: []) X.env = (false, eval a X.env) :: starEach [] X.env := by rfl) (hpl : (backTo pos (starEach [] X.env)).any (·.1) = false := by rfl) :
    PE X (.Attribute (.Call (.Name nm p) [a] [] pos) f pos2) (tOne ta) := by
  refine ⟨fun pins s σ H Q I h => attr_of hb ?_⟩
  refine wpAny_Call_Name_kw (ld_glob I hg T.gC ?_ hdb)
  refine PySem.W.callWith_K (h₀ := X.base) I.ok.mod.kin T.kC (thn (ha.run pos pins s σ H _ I h) fun us s1 hh => ?_) he hpl
  obtain ⟨vs, H1, I1, r1, v, ev, q1⟩ := hh
  subst ev
  refine ⟨I1.kIn, ?_⟩
  cases r1 with
  | cons rv rn =>
    rename_i v' us'
    cases rn
    show wpAny _ _ (call (.ref C) [v']) _ _ _
    exact err_call (byName := false) T hr I1 fun h' tk e d M => err_get T I1 M (handed_of rv) fun tk' => ⟨v, H1, I1.kept M.keep, rv, q1⟩
theorem pe_errGetK {k : Nat} (T : ErrTxt X.K X.mg nm f C fI) (hr : Room k X.A) (ha : PK X [⟨some f, a, kpos⟩] ta) (hg : Gl X nm := by rfl) (hdb : (nm == ("__debug__" : Str)) = false := by decide)
    (hb : attributeBase (.Call (.Name nm p) [] [⟨some f, a, kpos⟩] pos) f X.env (eval (.Call (.Name nm p) [] [⟨some f, a, kpos⟩] pos) X.env) = eval (.Call (.Name nm p) [] [⟨some f, a, kpos⟩] pos) X.env := by rfl)
    (hall : (backToKw pos (keywordEach [⟨some f, a, kpos⟩] X.env)).all (·.1.isSome) = true := by rfl) (hks : (backToKw pos (keywordEach [⟨some f, a, kpos⟩] X.env)).filterMap (·.1) = [f] := by rfl)
    (hpl : ((backTo pos (starEach [] X.env)).any (·.1) || (backToKw pos (keywordEach [⟨some f, a, kpos⟩] X.env)).any (·.1.isNone)) = false := by rfl) :
    PE X (.Attribute (.Call (.Name nm p) [] [⟨some f, a, kpos⟩] pos) f pos2) (tOne ta) := by
  refine ⟨fun pins s σ H Q I h => attr_of hb ?_⟩
  refine wpAny_Call_Name_kw (ld_glob I hg T.gC ?_ hdb)
  refine PySem.W.callWith_KW0 (h₀ := X.base) I.ok.mod.kin T.kC hall (thn (ha.run pos pins s σ H _ I h) fun us s1 hh => ?_) hpl
  obtain ⟨vs, H1, I1, r1, v, ev, q1⟩ := hh
  subst ev
  refine ⟨I1.kIn, ?_⟩
  rw [hks]
  cases r1 with
  | cons rv rn =>
    rename_i v' us'
    cases rn
    show wpAny _ _ (call (.ref C) [] [(f, v')]) _ _ _
    exact err_call (byName := true) T hr I1 fun h' tk e d M => err_get T I1 M (handed_of rv) fun tk' => ⟨v, H1, I1.kept M.keep, rv, q1⟩
theorem pe_errMake {k : Nat} (T : ErrTxt X.K X.mg nm f C fI) (hr : Room k X.A) (ha : PA X [a] ta) (hg : Gl X nm := by rfl) (hdb : (nm == ("__debug__" : Str)) = false := by decide)
    (he : starEach (a :: []) X.env = (false, eval a X.env) :: starEach [] X.env := by rfl) (hpl : (backTo pos (starEach [] X.env)).any (·.1) = false := by rfl) :
    PE X (.Call (.Name nm p) [a] [] pos) (tErr C f ta) := by
  refine ⟨fun pins s σ H Q I h => ?_⟩
  refine wpAny_Call_Name_kw (ld_glob I hg T.gC ?_ hdb)
  refine PySem.W.callWith_K (h₀ := X.base) I.ok.mod.kin T.kC (thn (ha.run pos pins s σ H _ I h) fun us s1 hh => ?_) he hpl
  obtain ⟨vs, H1, I1, r1, v, ev, q1⟩ := hh
  subst ev
  refine ⟨I1.kIn, ?_⟩
  cases r1 with
  | cons rv rn =>
    rename_i v' us'
    cases rn
    show wpAny _ _ (call (.ref C) [v']) _ _ _
    refine err_call (byName := false) T hr I1 fun h' tk e d M => ?_
    obtain ⟨n1, n2, J⟩ := err_laid (tk := tk) I1 rv M
    exact ⟨.ref e, _, J, rfl, q1 e d n1 n2 M.dne⟩
/-- isinstance of a made error -/
def rIsErr (K : PySem.W.Frag) : List V → Hp → VK → Prop := fun xs H Q => ∃ (e C d : Addr) (f : Str) (v c : V) (u : Value) (b : Bool), xs = [.ref e, c] ∧ ClsV c u ∧ H e = some (exo e C (some d)) ∧ H d = some (.xd [(f, v)]) ∧
  (∃ mg nm g fI, ErrTxt K mg nm g C fI) ∧ PySem.W.kitOne K (.ref C) u = some b ∧ Q (.bl b) H
theorem call_isErr : CallR X (.builtin "isinstance") (rIsErr X.K) := by
  intro pins s σ H xs us Q I r h
  obtain ⟨e, C, d, f, v, c, u, b, rfl, kc, he, hd, ⟨mg, nm, g, fI, T⟩, ek, q⟩ := h
  obtain ⟨u1, u2, rfl, r1, r2⟩ := vals2 r
  have e2 := kc.eq r2
  subst e2
  cases (show u1 = Value.ref e from r1)
  obtain ⟨t1, hx⟩ := exo_at I.hok he
  obtain ⟨mA, hns, _⟩ := (show ObjOk X.prog X.w H s.heap d (.xd [(f, v)]) from I.hok d _ hd)
  obtain ⟨od, ho, _⟩ := lookIn_ns hns
  have J : PySem.W.InstAt s.heap e _ C (some od) := ⟨hx, rfl, rfl, ho⟩
  have hcl : (PySem.W.clsIn X.K C).isSome = true := by
    obtain ⟨cd, hc, _⟩ := PySem.W.any_some T.hdC
    rw [hc]
    rfl
  exact PySem.W.kia_one (PySem.W.kitx_exc hcl T.ga T.gg T.exC T.clC T.spC T.taC T.obC) I.kIn J ek (fun z => nomatch z) fun tk => ⟨.bl b, H, I.tok tk, rfl, q⟩
end
end L2

namespace L2
open PySem PySem.Spec PyProof.Rows PySem.ErrX
section
variable {X : Cx}
/-- list.count of a flat value, over flat items -/
def rCntF (K : PySem.W.Frag) : V → List V → Hp → VK → Prop := fun x xs H Q => ∃ (p : Addr) (ys : List V) (y : V), x = .ref p ∧ xs = [y] ∧ SqL K H p ys ∧ flatV y = true ∧ ys.all flatV = true ∧ Q (.int (ys.countP (fun z => eqV z y) : Nat)) H
theorem count_eqU {y : V} : ∀ {ys : List V} {us : List Value}, Vals ys us → ys.all flatV = true → us.countP (eqU y) = ys.countP (fun z => eqV z y)
  | _, _, .nil, _ => rfl
  | z :: ys, u :: us, .cons r t, f => by
    rw [List.all_cons, Bool.and_eq_true] at f
    rw [List.countP_cons, List.countP_cons, count_eqU t f.2, eqU_of r f.1]
theorem mt_countF : MtR X "list.count" (rCntF X.K) := by
  intro pins s σ H x xs v us Q I rx rxs h
  obtain ⟨p, ys, y, rfl, rfl, hs, fy, fys, q⟩ := h
  cases rx
  obtain ⟨u, rfl, ru⟩ := rxs.one
  obtain ⟨its, rv, ⟨⟨cls, dd, data, sl⟩, n, ho, hc, hdn, hd⟩, hlen⟩ := I.list hs
  simp only at hc hd
  subst hc hd
  refine call_meets PySem.F.slot_list_count ⟨_, ho, rfl⟩ PySem.F.entry_list_count (PySem.F.args_list_count_2 _ _)
    (SeqAt.list_countAt p its.toArray n dd sl u (eqU y)) ⟨ho, fun z hz => mem_eqAt ru fy rv fys z (by simpa using hz), ?_⟩
  refine ⟨.int (ys.countP (fun z => eqV z y) : Nat), H, I.tok _, ⟨s.toks, ?_⟩, q⟩
  rw [← count_eqU rv fys]
/-- what repr tells of a value -/
inductive Shw (K : PySem.W.Frag) (H : Hp) : V → Str → Prop
  | non : Shw K H .non "None"
  | int (i : Int) (h : i.natAbs.log2 < 1920) : Shw K H (.int i) (toString i)
  | str (x : Str) (h : (reprText x).length ≤ sizeLine) : Shw K H (.str x) (reprText x)
  | seq (a : Addr) (d : PyData) (h : Dp K H (.ref a) d) (hs : d.showable = true) (hd : d.hasDict = false) (hp : d.depth ≤ 64) (hz : d.shown.length ≤ sizeLine) : Shw K H (.ref a) d.shown
  | emp (a : Addr) (h : H a = some (.dK [])) : Shw K H (.ref a) "{}"
def rShw (K : PySem.W.Frag) : List V → Hp → VK → Prop := fun xs H Q => ∃ v T, xs = [v] ∧ Shw K H v T ∧ Q (.str T) H
theorem call_repr_shw {k : Nat} (hg : X.A.guards = some []) (hr : Room k X.A) : CallR X (.builtin "repr") (rShw X.K) := by
  intro pins s σ H xs us Q I r h
  obtain ⟨v, T, rfl, sh, q⟩ := h
  obtain ⟨u, rfl, ru⟩ := vals1 r
  have un := hr.un
  cases sh with
  | non => cases (show u = Value.none from ru); exact PySem.P.repr_of_none ⟨.str _, H, I.tok _, ⟨_, rfl⟩, q⟩
  | int i hi => obtain ⟨t, rfl⟩ := (show ∃ t, u = Value.int i t from ru); exact PySem.P.repr_of_int hi ⟨.str _, H, I.tok _, ⟨_, rfl⟩, q⟩
  | str x hx => obtain ⟨t, rfl⟩ := (show ∃ t, u = Value.str x t from ru); exact PySem.P.repr_of_str (h := ⟨.str _, H, I.tok _, ⟨_, rfl⟩, q⟩) hx
  | seq a d hd hs hno hp hz =>
    cases (show u = Value.ref a from ru)
    obtain ⟨as, rd⟩ := Dp.reads I d _ _ hd rfl
    exact PySem.repr_of_reads' rd hs (fun z => by rw [hno] at z; cases z) hg (by omega) (fun _ _ z => z) (fun h' u tk kp => ⟨.str _, H, I.kept kp, ⟨_, rfl⟩, q⟩) hz
  | emp a ha =>
    cases (show u = Value.ref a from ru)
    obtain ⟨_, ns, vs, kv, o, es, ep, h1, h2, h3, _, h5, _⟩ := (show ObjOk X.prog X.w H s.heap a (.dK []) from I.hok a _ ha)
    cases kv
    have e0 : es.toList = [] := List.eq_nil_of_length_eq_zero h5.length
    have rd : Reads s.heap (.ref a) (.dict []) (a :: [] ++ []) := .dict (kvs := []) h1 h2.1 h3 (by rw [e0]; exact .nil) (by rw [e0]; exact .nil)
    have far : sysModules ∉ (a :: [] ++ [] : List Addr) := fun z => by
      have z1 : sysModules = a := by simpa using z
      rw [z1] at ns
      simp at ns
    have sh : (PyData.dict []).shown = ("{}" : Str) := by decide +kernel
    exact PySem.repr_of_reads' rd (by decide +kernel) (fun _ => far) hg (by show X.A.units + ((PyData.dict []).depth + 1) < cLine; have : (PyData.dict []).depth ≤ 64 := by decide +kernel
                                                                            omega) (fun _ _ z => z) (fun h' u tk kp => ⟨.str _, H, I.kept kp, ⟨_, by rw [sh]⟩, q⟩) (by rw [sh]; decide +kernel)
end
end L2

namespace L2
open PySem PySem.Spec PyProof.Rows PySem.ErrX
/-- a def's promise where no repr is under way (the machine's stack of such is known to be empty) -/
structure FnG (P : Program) (w : World) (K : PySem.W.Frag) (mg : Str → Option Value) (base : Heap) (CX : CXT) (k : Nat) (f : Addr) (fd : FuncData) (ps : List Str) (sp : Sp) : Prop where
  len : ∀ vs H Q E, sp vs H Q E → vs.length = ps.length
  run : ∀ (A : Around), A.guards = some [] → ∀ (outer : List Env) (s : Shared) (H : Hp) (args : Args) (us : List Value) (vs : List V) (Q : VK) (E : XK),
    Room k A → Env0 P w K mg base A outer s H → BindsTo s fd args (ps.zip us) → Vals vs us → sp vs H Q E → codeAny (model P w) A (.call (.ref f) args) (CR CX outer P w H s Q E) s
theorem FnOk.toG {P : Program} {w : World} {K : PySem.W.Frag} {mg : Str → Option Value} {base : Heap} {CX : CXT} {k : Nat} {f : Addr} {fd : FuncData} {ps : List Str} {sp : Sp} (F : FnOk P w K mg base CX k f fd ps sp) : FnG P w K mg base CX k f fd ps sp :=
  ⟨F.len, fun A _ outer s H args us vs Q E hr he hb hv hs => F.run A outer s H args us vs Q E hr he hb hv hs⟩
section
variable {P : Program} {w : World} {K : PySem.W.Frag} {mg : Str → Option Value} {base : Heap}
/-- such a def by its body -/
theorem Fun.okG {CX : CXT} {x qual : Str} {st : Stmt} {f : Addr} {fd : FuncData} {N ps : List Str} {k : Nat} {sp : Sp} (F : Fun K x qual st f fd) (S : FnScope N ps (defScope st)) (len : ∀ vs H Q E, sp vs H Q E → vs.length = ps.length)
    (body : ∀ (cdv : Value) (A : Around) (outer : List Env) (s : Shared) (H : Hp) (vs : List V) (Q : VK) (E : XK), Room k (A.deeper (envOfC qual (defScope st) s.heap.objs.size f cdv)) →
      (A.deeper (envOfC qual (defScope st) s.heap.objs.size f cdv)).guards = some [] → sp vs H Q E →
      ∃ t, PSs (cxOf CX P w K mg base N qual (defScope st) f cdv A outer s H E) (defBody st) t ∧ t { nx := fun _ H' => Q .non H', rt := Q } (start N vs) H) : FnG P w K mg base CX (k + 1) f fd ps sp := by
  obtain ⟨oc, od, kV, doc, pm, an, cdv, ct, osl, rfl, lk, hcd⟩ := F.ex
  refine ⟨len, fun A gA outer s H args us vs Q E room env bnd rel prom => ?_⟩
  have lv := len _ _ _ _ prom
  have kin : K.In s.heap := env.mod.kin.keeps fun b o z => (env.bs b o z).1
  have lim : s.heap.NoLimit := env.mod.nolimit.keeps fun b o z => (env.bs b o z).1
  refine codeAny_call_function room.depth (kin _ _ lk) rfl S.co S.gen rfl (PySem.W.codeRec_of kin hcd) (bnd _ _ _ _ (wpAny_newFunctionEnv_cells S.kind (fun y hy => ?_) fun e1 he s1 x1 => ?_))
  · obtain ⟨n, v⟩ := y
    rcases S.par n (List.of_mem_zip hy).1 with z | z
    · exact .inl z
    · exact .inr ⟨z, PySem.W.cellsFrom_some _ _ _ (.inl z)⟩
  subst he
  refine ⟨lim.keeps x1.toInCall.keep, codeAny_func ?_⟩
  obtain ⟨t, ht, hq⟩ := body cdv A outer s H vs Q E (room.deeper _) gA prom
  have inv : Inv (cxOf CX P w K mg base N qual (defScope st) f cdv A outer s H E) [] (start N vs) H s1 := inv_start S room.hd env lv rel x1
  refine wpAny_mono (ht.run [] s1 _ H _ inv hq) (fun fl s2 hs => ?_) fun _ _ z => z
  cases fl with
  | ret u =>
    obtain ⟨v, σ2, H2, J, rv, q⟩ := hs
    exact ⟨v, H2, J.os, J.bare, J.base, J.hok, rv, q⟩
  | next =>
    obtain ⟨σ2, H2, J, q⟩ := hs
    exact ⟨.non, H2, J.os, J.bare, J.base, J.hok, rfl, q⟩
  | brk => exact (hs.elim fun _ z => z.elim fun _ z => z.2).elim
  | cont => exact (hs.elim fun _ z => z.elim fun _ z => z.2).elim
/-- the same where nothing that is raised leaves the def -/
theorem Fun.okG0 {x qual : Str} {st : Stmt} {f : Addr} {fd : FuncData} {N ps : List Str} {k : Nat} {sp : Sp} (F : Fun K x qual st f fd) (S : FnScope N ps (defScope st)) (len : ∀ vs H Q E, sp vs H Q E → vs.length = ps.length)
    (body : ∀ (cdv : Value) (A : Around) (outer : List Env) (s : Shared) (H : Hp) (vs : List V) (Q : VK) (E : XK), Room k (A.deeper (envOfC qual (defScope st) s.heap.objs.size f cdv)) →
      (A.deeper (envOfC qual (defScope st) s.heap.objs.size f cdv)).guards = some [] → sp vs H Q E →
      ∃ t, PSs (cxOf CX0 P w K mg base N qual (defScope st) f cdv A outer s H E).nox (defBody st) t ∧ t { nx := fun _ H' => Q .non H', rt := Q } (start N vs) H) : FnG P w K mg base CX0 (k + 1) f fd ps sp :=
  F.okG S len fun cdv A outer s H vs Q E room g prom => by
    obtain ⟨t, ht, q⟩ := body cdv A outer s H vs Q E room g prom
    exact ⟨t, ht.nox, q⟩
/-- the law's call from the machine's outermost place, over one abstract heap -/
theorem top_run {CX : CXT} {mb : Str → Option Value} {k : Nat} {fa a : Addr} {fd : FuncData} {x : Str} {sp : Sp} {s₁ : Shared} {vs : List Value} {ns : List Int} (H : Hp)
    (KX : K.In s₁.heap) (nsG : s₁.heap.Ns mainGlobals mg) (nsB : s₁.heap.Ns builtinsNs mb) (same : ∀ x : Str, x ≠ "__name__" → mb x = bootBuiltins x) (lim : s₁.heap.NoLimit) (gen : s₁.gens = #[])
    (at_ : s₁.heap.get? a = some { cls := .type "list", data := .seq vs.toArray }) (room : Room k callerA) (F : ∀ base : Heap, K.In base → base.Ns mainGlobals mg → FnG P w K mg base CX k fa fd [x] sp) (bnd : ∀ (s : Shared) (u : Value), BindsTo s fd ⟨[u], []⟩ [(x, u)])
    (noX : ∀ H e s', CX [] H s₁ (fun _ _ _ => False) e s' → False) (only : Only H) (prom : sp [.ref a] H (fun v _ => v = .bl true) fun _ _ _ => False) (ok : HOk P w H s₁.heap) (lone : ∀ b, H b ≠ none → b = a) (free : H a ≠ none → K.lookup a = none) :
    codeAny (model P w) callerA (.call (.ref fa) ⟨[.ref a], []⟩) (fun r s' => r = .ok (.ret (.bool true)) ∧ OldK s₁.heap s'.heap ∧ s'.os = s₁.os ∧ AllBare s'.gens) s₁ := by
  have dictFree : ∀ {b : Addr} {o : Obj} {es : Array DictEntry} {ep : Nat}, s₁.heap.get? b = some o → o.data = .dict es ep → H b = none := fun {b o es ep} z1 z2 => by
    by_cases z : H b = none
    · exact z
    · rw [lone b z, at_] at z1
      cases z1
      exact nomatch z2
  have hidN : ∀ {b : Addr} {m : Str → Option Value}, s₁.heap.Ns b m → (hidT s₁.heap H).Ns b m := fun ⟨o, es, ep, z1, z2, z3⟩ => ⟨o, es, ep, hidT_get z1 (dictFree z1 z2), z2, z3⟩
  have hidK : K.In (hidT s₁.heap H) := fun b o z => hidT_get (KX b o z) (by
    by_cases y : H b = none
    · exact y
    · have y2 := lone b y
      subst y2
      rw [free y] at z
      cases z)
  obtain ⟨mc, l1, l2⟩ := lim
  have env : Env0 P w K mg (hidT s₁.heap H) callerA [] s₁ H :=
    { frames := rfl, mod := ⟨hidK, hidN nsG, ⟨mb, hidN nsB, same⟩, ⟨mc, hidN l1, l2⟩⟩, bs := fun b o z => of_hidT z, bsz := Nat.le_of_eq (hidT_size _ _), funs := trivial, frf := fun b z => (List.not_mem_nil z).elim, hok := ok, bare := .of_eq gen }
  refine codeAny_mono ((F _ hidK (hidN nsG)).run callerA rfl [] s₁ H ⟨[.ref a], []⟩ [.ref a] [.ref a] _ _ room env (bnd s₁ (.ref a)) (.cons rfl .nil) prom) fun r s' z => ?_
  have leave : ∀ u, r = .ok (.ret u) → CE [] P w H s₁ (fun v _ => v = .bl true) u s' → r = .ok (.ret (.bool true)) ∧ OldK s₁.heap s'.heap ∧ s'.os = s₁.os ∧ AllBare s'.gens := fun u er ⟨v, H', os, bare, un, ok', rv, q⟩ => by
    cases (show v = V.bl true from q)
    cases (show u = Value.bool true from rv)
    refine ⟨er, OldK.of_keep fun b o z => ?_, os, bare⟩
    rcases only b with y | ⟨ob, xs, y⟩
    · exact un.keep b o z y (fun i => (List.not_mem_nil i).elim) (fun i => (List.not_mem_nil i).elim)
    · obtain ⟨g1, _⟩ := ok b _ y
      obtain ⟨g2, _⟩ := ok' b _ (un.frzs b ob _ y)
      rw [z] at g1
      cases g1
      exact g2
  match r, z, leave with
  | .error e, z, _ => exact (noX H e s' z).elim
  | .ok (.ret u), z, leave => exact leave u rfl z
/-- the law's promise at the heap behind the top -/
theorem top_call {CX : CXT} {mb : Str → Option Value} {k : Nat} {fa a : Addr} {fd : FuncData} {x : Str} {sp : Sp} {s₁ : Shared} {vs : List Value} {ns : List Int}
    (KX : K.In s₁.heap) (nsG : s₁.heap.Ns mainGlobals mg) (nsB : s₁.heap.Ns builtinsNs mb) (same : ∀ x : Str, x ≠ "__name__" → mb x = bootBuiltins x) (lim : s₁.heap.NoLimit) (gen : s₁.gens = #[])
    (at_ : s₁.heap.get? a = some { cls := .type "list", data := .seq vs.toArray }) (iv : IntsAre vs ns) (small : ns.length ≤ sizeLine) (room : Room k callerA) (F : ∀ base : Heap, K.In base → base.Ns mainGlobals mg → FnG P w K mg base CX k fa fd [x] sp) (bnd : ∀ (s : Shared) (u : Value), BindsTo s fd ⟨[u], []⟩ [(x, u)])
    (noX : ∀ H e s', CX [] H s₁ (fun _ _ _ => False) e s' → False) (prom : ∀ H : Hp, Only H → SqL K H a (ns.map V.int) → sp [.ref a] H (fun v _ => v = .bl true) fun _ _ _ => False) :
    codeAny (model P w) callerA (.call (.ref fa) ⟨[.ref a], []⟩) (fun r s' => r = .ok (.ret (.bool true)) ∧ OldK s₁.heap s'.heap ∧ s'.os = s₁.os ∧ AllBare s'.gens) s₁ := by
  have rv := vals_ints iv
  cases hk : K.lookup a with
  | some o =>
    have z := KX a o hk
    rw [at_] at z
    cases z
    have sq : SqL K (fun _ => none) a (ns.map V.int) := .inr ⟨_, vs.toArray, _, hk, rfl, rfl, rfl, by rw [List.size_toArray, iv.length]; exact small, by simpa using rv⟩
    exact top_run (ns := ns) (fun _ => none) KX nsG nsB same lim gen at_ room F bnd noX (fun _ => .inl rfl) (prom _ (fun _ => .inl rfl) sq) (fun b u z => by have y : (none : Option HO) = some u := z; cases y) (fun b z => absurd rfl z) fun z => absurd rfl z
  | none =>
    obtain ⟨Hs, e1⟩ : ∃ Hs : Hp, Hs = fun b => if b = a then some (.frz { cls := .type "list", data := .seq vs.toArray } (.lst (ns.map V.int))) else none := ⟨_, rfl⟩
    have hit : Hs a = some (.frz { cls := .type "list", data := .seq vs.toArray } (.lst (ns.map V.int))) := by rw [e1]; exact if_pos rfl
    have miss : ∀ b, b ≠ a → Hs b = none := fun b z => by rw [e1]; exact if_neg z
    have only : Only Hs := fun b => by
      by_cases z : b = a
      · exact .inr ⟨_, _, by rw [z]; exact hit⟩
      · exact .inl (miss b z)
    refine top_run (ns := ns) Hs KX nsG nsB same lim gen at_ room F bnd noX only (prom _ only (.inl (.inr ⟨_, hit⟩))) (fun b u z => ?_) (fun b z => ?_) fun _ => hk
    · by_cases y : b = a
      · subst y
        rw [hit] at z
        cases z
        exact ⟨at_, by rw [List.length_map]; exact small, vs, _, rv, at_⟩
      · rw [miss b y] at z
        cases z
    · by_cases y : b = a
      · exact y
      · exact absurd (miss b y) z
end
/-- the law row's end, from such a promise of the law's def -/
theorem walk_ofG {l : PySem.W.OpenLaw} {n k : Nat} {q : Program} {loose : List Str} {XP : (Str → Option Value) → Heap → Prop} {YP : World → Heap → Prop} {d : DefRec} {K : Params → PySem.W.Frag} {sp : World → Sp} {x : Str}
    (most : l.most = some n) (fits : n ≤ sizeLine) (plain : d.params.defaults = []) (room : Room k callerA) (there : ∀ (w : World) (h : Heap), YP w h → (K w.params).In h)
    (F : ∀ (w : World) (mg : Str → Option Value) (fa : Addr) (h : Heap), (K w.params).In h → h.Ns mainGlobals mg → mg d.name = some (.ref fa) →
      ∃ fd : FuncData, (∀ (s : Shared) (u : Value), BindsTo s fd ⟨[u], []⟩ [(x, u)]) ∧ ∀ base : Heap, (K w.params).In base → base.Ns mainGlobals mg → FnG l.prog w (K w.params) mg base CX0 k fa fd [x] (sp w))
    (prom : ∀ (w : World) (H : Hp) (a : Addr) (ns : List Int), ns.length ≤ n → Only H → SqL (K w.params) H a (ns.map V.int) → sp w [.ref a] H (fun v _ => v = .bl true) fun _ _ _ => False) :
    PySem.W.WalkO q loose XP YP l.row.toRowW d [] (fun f vs => PySem.call f vs) := by
  refine Att.attach_call most plain fun w s₀ s₁ mg mb fa o pm cd doc a vs ns G Y _ _ _ hmg at_ iv len gen => ?_
  have KX := there w _ Y
  obtain ⟨fd, bnd, f1⟩ := F w mg fa _ KX G.T.g hmg
  exact top_call KX G.T.g G.T.b G.T.builtins G.T.nolimit gen at_ iv (Nat.le_trans len fits) room f1 bnd (fun _ _ _ z => z) fun H o s => prom w H a ns len o s
end L2

namespace L2
open PySem PySem.Spec PyProof.Rows PySem.ErrX
section
variable {X : Cx} {C fI : Addr} {nm f : Str} {a : Expr} {ta : TA} {p pos pos2 : Pos}
/-- an error made to be raised: its own dict, new, holds the field -/
def tThrow (C : Addr) (f : Str) (ta : TA) : St → Hp → XK → Prop := fun σ H Q => ta σ H fun vs H1 => ∃ v, vs = [v] ∧ ∀ d, H1 d = none → Q (.ref C) (some d) (upd H1 d (.xd [(f, v)]))
theorem pmk_err {k : Nat} (T : ErrTxt X.K X.mg nm f C fI) (tyC : PySem.W.typeIn X.K (.ref C) = some (.type "type")) (hr : Room k X.A) (ha : PA X [a] ta) (hg : Gl X nm := by rfl) (hdb : (nm == ("__debug__" : Str)) = false := by decide)
    (hst : starEach (a :: []) X.env = (false, eval a X.env) :: starEach [] X.env := by rfl) (hpl : (backTo pos (starEach [] X.env)).any (·.1) = false := by rfl) :
    PMk X (.Call (.Name nm p) [a] [] pos) (tThrow C f ta) := by
  intro pins s σ H Q I h
  refine wpAny_Call_Name_kw (ld_glob I hg T.gC ?_ hdb)
  refine PySem.W.callWith_K (h₀ := X.base) I.ok.mod.kin T.kC (thn (ha.run pos pins s σ H _ I h) fun us s1 goal => ?_) hst hpl
  obtain ⟨vs, H1, I1, r1, v, ev, q1⟩ := goal
  subst ev
  refine ⟨I1.kIn, ?_⟩
  cases r1 with
  | cons rv rn =>
    rename_i v' us'
    cases rn
    show wpAny _ _ (call (.ref C) [v'] []) _ _ _
    refine err_call (byName := false) T hr I1 fun h' tk e d M => ?_
    obtain ⟨t0, he⟩ := M.obj
    obtain ⟨G, g1, g2⟩ := restrict h' fun b => decide (b ≠ e)
    have off : ∀ b, b ≠ e → G.get? b = h'.get? b := fun b z => g1 b (decide_eq_true z)
    have gone : G.get? e = none := g2 e (by simp)
    have old : ∀ b o, s1.heap.get? b = some o → G.get? b = some o := fun b o z => (off b (Nat.ne_of_lt (Nat.lt_of_lt_of_le (Heap.lt_size z) M.new))).trans (M.keep b o z)
    have od : ObjOk X.prog X.w (upd H1 d (.xd [(f, v)])) G d (.xd [(f, v)]) := ⟨_, M.ns.at (fun o z => (off d M.dne).trans z), fun g => relO_one rv f g⟩
    have J : Inv X pins σ (upd H1 d (.xd [(f, v)])) { s1 with heap := G, toks := tk } := I1.laid (t' := tk) old M.dnew od
    refine ⟨e, _, _, { s1 with heap := G, toks := tk }, _, .ref C, some d, rfl, J, fun b o z => ?_, gone, he, ⟨rfl, rfl⟩, rfl, rfl, ?_, rfl, I1.bare, raises_own T.exC tyC, q1 d (I1.hok.fresh M.dnew)⟩
    · by_cases y : b = e
      · have z' : G.get? b = some o := z
        rw [y, gone] at z'
        cases z'
      · exact (off b y).symm.trans z
    · rw [upd_ne (Ne.symm M.dne)]
      exact I1.hok.fresh M.new
def tRaiseErr (C : Addr) (f : Str) (W : WX) (ta : TA) : TS := fun _ σ H => tThrow C f ta σ H fun cls d H' => W cls d σ H'
theorem ps_raiseErr {k : Nat} {W : WX} (hc : X.calm = true) (T : ErrTxt X.K X.mg nm f C fI) (tyC : PySem.W.typeIn X.K (.ref C) = some (.type "type")) (hr : Room k X.A) (tk : Takes X W) (ha : PA X [a] ta) (hg : Gl X nm := by rfl) (hdb : (nm == ("__debug__" : Str)) = false := by decide)
    (hst : starEach (a :: []) X.env = (false, eval a X.env) :: starEach [] X.env := by rfl) (hpl : (backTo pos (starEach [] X.env)).any (·.1) = false := by rfl) :
    PS X (.Raise (some (.Call (.Name nm p) [a] [] pos)) none pos2) (tRaiseErr C f W ta) := ps_raise hc tk (pmk_err T tyC hr ha hg hdb hst hpl)
/-- e.f, e the error that the suite holds -/
def tOfErr (C : Addr) (f : Str) (a : Addr) (cls : Value) (d : Option Addr) (te : TE) : TE := fun σ H Q => te σ H fun x H1 => x = .ref a ∧ cls = .ref C ∧ ∃ (dd : Addr) (v : V), d = some dd ∧ H1 dd = some (.xd [(f, v)]) ∧ Q v H1
theorem pe_ofErr {a : Addr} {oe : Obj} {cls : Value} {d : Option Addr} {pn : List (Addr × Obj)} {e : Expr} {te : TE} (T : ErrTxt X.K X.mg nm f C fI) (hz : Zc cls d oe) (hf : ∃ vs, oe.data = .fields vs) (he : PE (X.suite a ((a, oe) :: pn)) e te)
    (hb : attributeBase e f X.env (eval e X.env) = eval e X.env := by rfl) : PE (X.suite a ((a, oe) :: pn)) (.Attribute e f pos) (tOfErr C f a cls d te) := by
  refine ⟨fun pins s σ H Q I h => attr_of hb (thn (he.run pins s σ H _ I h) fun u s1 goal => ?_)⟩
  obtain ⟨x, H1, I1, rx, ex, ec, dd, v, ed, ea, q⟩ := goal
  subst ex ec ed
  cases (show u = Value.ref a from rx)
  obtain ⟨at_, _⟩ := I1.pin (a, oe) (List.mem_append_left _ List.mem_cons_self)
  obtain ⟨vs, hd⟩ := hf
  obtain ⟨mA, hns, hr⟩ := (show ObjOk X.prog X.w H1 s1.heap dd (.xd [(f, v)]) from I1.hok dd _ ea)
  obtain ⟨od, ho, hl⟩ := lookIn_ns hns
  have lk : List.lookup f [(f, v)] = some v := by simp [List.lookup]
  obtain ⟨u, hu, ru⟩ := RelO.some_of (v := v) (o := mA f) (by rw [← lk]; exact hr f)
  have J : PySem.W.InstAt s1.heap a oe C (some od) := ⟨at_, hz.1, by unfold PySem.W.notCls; rw [hd] <;> rfl, by rw [hz.2]; exact ho⟩
  exact PySem.HandSPX.exc_get I1.kIn J T.ga T.gg T.exC (PySem.W.findObj_own T.hdC T.noN rfl (by rw [hl, hu])) (handed_of ru) ⟨v, H1, I1.tok _, ru, q⟩
/-- repr where an error may be handled -/
theorem call_repr_at {K : PySem.W.Frag} (hK : X.K = K) (hg : X.A.guards = some []) (hu : X.A.units + 200 < cLine) : CallR X (.builtin "repr") (rShw K) := by
  subst hK
  intro pins s σ H xs us Q I r h
  obtain ⟨v, T, rfl, sh, q⟩ := h
  obtain ⟨u, rfl, ru⟩ := vals1 r
  cases sh with
  | non => cases (show u = Value.none from ru); exact PySem.P.repr_of_none ⟨.str _, H, I.tok _, ⟨_, rfl⟩, q⟩
  | int i hi => obtain ⟨t, rfl⟩ := (show ∃ t, u = Value.int i t from ru); exact PySem.P.repr_of_int hi ⟨.str _, H, I.tok _, ⟨_, rfl⟩, q⟩
  | str x hx => obtain ⟨t, rfl⟩ := (show ∃ t, u = Value.str x t from ru); exact PySem.P.repr_of_str (h := ⟨.str _, H, I.tok _, ⟨_, rfl⟩, q⟩) hx
  | seq a d hd hs hno hp hz =>
    cases (show u = Value.ref a from ru)
    obtain ⟨as, rd⟩ := Dp.reads I d _ _ hd rfl
    exact PySem.repr_of_reads' rd hs (fun z => by rw [hno] at z; cases z) hg (by omega) (fun _ _ z => z) (fun h' u tk kp => ⟨.str _, H, I.kept kp, ⟨_, rfl⟩, q⟩) hz
  | emp a ha =>
    cases (show u = Value.ref a from ru)
    obtain ⟨_, ns, vs, kv, o, es, ep, h1, h2, h3, _, h5, _⟩ := (show ObjOk X.prog X.w H s.heap a (.dK []) from I.hok a _ ha)
    cases kv
    have e0 : es.toList = [] := List.eq_nil_of_length_eq_zero h5.length
    have rd : Reads s.heap (.ref a) (.dict []) (a :: [] ++ []) := .dict (kvs := []) h1 h2.1 h3 (by rw [e0]; exact .nil) (by rw [e0]; exact .nil)
    have far : sysModules ∉ (a :: [] ++ [] : List Addr) := fun z => by
      have z1 : sysModules = a := by simpa using z
      rw [z1] at ns
      simp at ns
    have sh : (PyData.dict []).shown = ("{}" : Str) := by decide +kernel
    have dp : (PyData.dict []).depth ≤ 64 := by decide +kernel
    exact PySem.repr_of_reads' rd (by decide +kernel) (fun _ => far) hg (by omega) (fun _ _ z => z) (fun h' u tk kp => ⟨.str _, H, I.kept kp, ⟨_, by rw [sh]⟩, q⟩) (by rw [sh]; decide +kernel)
/-- nothing leaves a call whose promise lets nothing out -/
theorem passX0 : Passes (L2.CX X.prog X.w) X E0 := fun _ _ _ _ _ _ _ ⟨_, _, _, _, _, _, _, _, _, _, _, _, z⟩ => z.elim
/-- a call of a def whose promise wants that no repr is under way -/
theorem pe_callG {CX : CXT} {k : Nat} {fa : Addr} {fd : FuncData} {ps : List Str} {sp : Sp} {dvs : List V} {ds : List Value} {E : XK} {x : Str} {e : Expr} {es : List Expr} {t : TA} (F : FnG X.prog X.w X.K X.mg X.base CX k fa fd ps sp) (hgd : X.A.guards = some []) (hr : Room k X.A) (hg : Gl X x) (hm : X.mg x = some (.ref fa)) (hk : PySem.W.keepIn X.K (.ref fa) = true) (hb : Binds X.K fd ps ds) (hd : Vals dvs ds) (hx : Passes CX X E)
    (ha : PA X (e :: es) t) (hdb : (x == ("__debug__" : Str)) = false := by decide) (he : starEach (e :: es) X.env = (false, eval e X.env) :: starEach es X.env := by rfl) (hpl : (backTo pos (starEach es X.env)).any (·.1) = false := by rfl) :
    PE X (.Call (.Name x p) (e :: es) [] pos) (tCall sp dvs E t) := by
  refine ⟨fun pins s σ H Q I h => wpAny_Call_Name_kw (ld_glob I hg hm ?_ hdb)⟩
  refine PySem.W.callWith_K (h₀ := X.base) I.ok.mod.kin hk (thn (ha.run pos pins s σ H _ I h) fun us s1 goal => ?_) he hpl
  obtain ⟨vs, H1, I1, r, q⟩ := goal
  have r2 : Vals (vs ++ dvs) (us ++ ds) := r.append hd
  have ln : (us ++ ds).length = ps.length := by rw [← r2.length]; exact F.len _ _ _ _ q
  refine ⟨I1.kIn, wpAny_call (codeAny_mono (F.run X.A hgd X.stack s1 H1 ⟨us, []⟩ (us ++ ds) (vs ++ dvs) Q E hr I1.env0 (hb s1 us I1.kIn ln) r2 q) fun r s' z => ?_)⟩
  match r, z with
  | .error e, z => exact hx pins σ H1 s1 e s' I1 z
  | .ok (.ret u), z => exact I1.after z
end
end L2

namespace L2
open PySem PySem.Spec PyProof.Rows PySem.ErrX
/-- behind a suite its name is gone -/
def offName (i : Nat) (D : Ends) : Ends := { nx := fun σ H => D.nx (σ.set i none) H, rt := D.rt, bk := fun σ H => D.bk (σ.set i none) H, ct := fun σ H => D.ct (σ.set i none) H }
/-- what several clauses, each «as» the name in slot i, wish of an exception of the body -/
def wAses (K : PySem.W.Frag) (i : Nat) (Wout : WX) (D : Ends) : List (Value × (Addr → Value → Option Addr → TS)) → WX
  | [] => Wout
  | (c, ts) :: r => fun cls d σ H => ∃ b, PySem.W.exmOne K cls c = some b ∧ (b = true → ∀ a, H a = none → ts a cls d (offName i D) (σ.set i (some (.ref a))) H) ∧ (b = false → wAses K i Wout D r cls d σ H)
inductive HdsAs (X : Cx) (n : Str) : List ExceptHandler → List (Value × (Addr → Value → Option Addr → TS)) → Prop
  | nil : HdsAs X n [] []
  | cons {x : Str} {c : Value} {ts : Addr → Value → Option Addr → TS} {b₀ : Stmt} {suite : List Stmt} {np hp : Pos} {hds : List ExceptHandler} {l : List (Value × (Addr → Value → Option Addr → TS))} (named : Names X x c)
      (inner : ∀ (a : Addr) (oe : Obj) (cls : Value) (d : Option Addr) (pn : List (Addr × Obj)), Zc cls d oe → (∃ vs, oe.data = .fields vs) → PSs (X.suite a ((a, oe) :: pn)) (b₀ :: suite) (ts a cls d)) (more : HdsAs X n hds l) :
      HdsAs X n (.ExceptHandler (some (.Name x np)) (some n) (b₀ :: suite) hp :: hds) ((c, ts) :: l)
section
variable {X : Cx} {body : List Stmt} {h₀ : ExceptHandler} {hds : List ExceptHandler} {l : List (Value × (Addr → Value → Option Addr → TS))} {pos : Pos} {tb : WX → TS} {Wout : WX} {n : Str} {i : Nat}
theorem ps_try_ases (stk : X.stack = X.env :: X.outer) (fr : X.env.frame = some X.env.locals) (nodup : X.N.Nodup) (slot : X.N[i]? = some n) (loc : X.env.kindOf n = some .local) (out : Takes X Wout)
    (tried : ∀ (W : WX) (pn : List (Addr × Obj)) (xe : Value → Shared → Prop), Takes (X.tr pn xe) W → PassesOwn (model X.prog X.w) X.A X.env xe → PSs (X.tr pn xe) body (tb W))
    (clauses : HdsAs X n (h₀ :: hds) l) : PS X (.Try body (h₀ :: hds) [] [] pos) (fun D σ H => tb (wAses X.K i Wout D l) D σ H) := by
  refine ⟨fun pins s σ H D I h => wpAny_Try_except ?_⟩
  have okX := I.ok
  have frames : X.A.frames = some (X.env :: X.outer) := by rw [okX.frames, stk]
  refine wpAny_mono ((tried (wAses X.K i Wout D l) (X.pn ++ pins) (fun e s₁ => wpAny (model X.prog X.w) X.A (noteFrame e X.env) (fun _ s₂ => wpAny (model X.prog X.w) X.A (setFlight e none) (fun _ s₃ => wpAny (model X.prog X.w) X.A (handleBy e X.env (h₀ :: hds)) (SP X pins D) X.xe s₃) X.xe s₂) X.xe s₁)
    (fun u s' air => ?_) PassesOwn.looking).run [] s σ H D (I.toTry _) h) (fun f s1 done => ?_) (fun _ _ z => z)
  case refine_2 =>
    cases f with
    | next => obtain ⟨σ', H', J, q⟩ := done; exact wpAny_execs_nil ⟨σ', H', J.ofTry okX, q⟩
    | brk => obtain ⟨σ', H', J, q⟩ := done; exact ⟨σ', H', J.ofTry okX, q⟩
    | cont => obtain ⟨σ', H', J, q⟩ := done; exact ⟨σ', H', J.ofTry okX, q⟩
    | ret u => obtain ⟨v, σ', H', J, r, q⟩ := done; exact ⟨v, σ', H', J.ofTry okX, r, q⟩
  obtain ⟨a, B, sI, pins', σ', H', cls, d, rfl, J0, nb, up, sky, na, os, ag, wish⟩ := air
  have J : Inv X pins σ' H' sI := J0.ofTry okX
  show wpAny (model X.prog X.w) X.A (noteFrame (.ref a) X.env) _ _ _
  refine Sky.land Zc.steady frames fr (show Sky B (X.env :: X.outer) a (Zc cls d) X.env.locals s'.heap by rw [← stk]; exact sky) fun h3 fl3 up3 => ?_
  have J3 : Inv X pins σ' H' { s' with heap := h3 } := J.landed nb fl3.1 (up.trans up3) os ag
  obtain ⟨oe3, vs3, he3, hz3, hd3⟩ := fl3.there
  have apart : a ∉ frs (X.env :: X.outer) := fun hm => by
    obtain ⟨_, o', e', hnf⟩ := fl3.2.2.1.mem hm
    rw [he3] at e'
    cases e'
    exact hnf _ hd3
  have nL : a ≠ X.env.locals := fun z => apart (List.mem_filterMap.mpr ⟨X.env, List.mem_cons_self, by rw [fr, z]⟩)
  have nF : a ∉ X.fs := fun hm => by
    obtain ⟨e, he, q⟩ := List.mem_filterMap.mp hm
    exact apart (List.mem_filterMap.mpr ⟨e, List.mem_cons_of_mem _ he, q⟩)
  have S3 := J3.suite he3 hd3 na nL nF
  suffices go : ∀ (hs : List ExceptHandler) (ls : List (Value × (Addr → Value → Option Addr → TS))), HdsAs X n hs ls → wAses X.K i Wout D ls cls d σ' H' → wpAny (model X.prog X.w) X.A (handleBy (.ref a) X.env hs) (SP X pins D) X.xe { s' with heap := h3 } from go _ _ clauses wish
  intro hs ls ok
  induction ok with
  | nil =>
    intro w
    refine wpAny_handleBy_nil ?_
    obtain ⟨k1, k2, k3, oe, vs, T, oT, ts', he, hz, hd, h1, hr⟩ := id fl3
    unfold PySem.passOn
    refine wpAny_bind (wpAny_field he hd h1 ?_)
    rw [if_neg (show ¬ ((Value.ref T == Value.none) = true) from by simp)]
    have fin : wpAny (model X.prog X.w) X.A (setFlight (.ref a) X.env.frame) (fun _ s4 => wpAny (model X.prog X.w) X.A (throw (.ref a) : Sem Flow) (SP X pins D) X.xe s4) X.xe { s' with heap := h3 } := by
      rw [fr]
      exact HandSPX.setFlight_upZ fl3 fun h4 hh4 up4 => wpAny_throw (out _ _ ⟨a, B, sI, pins, σ', H', cls, d, rfl, J, nb, (up.trans up3).trans up4, .inr (.inr (by rw [stk]; exact hh4)), na, os, ag, w⟩)
    first | exact wpAny_bind (wpAny_pure (wpAny_bind fin)) | exact wpAny_bind fin
  | @cons x c ts b₀ suite np hp hds2 l2 named inner more ih =>
    intro w
    obtain ⟨b, hb, yes, no⟩ := w
    refine wpAny_handleBy_cons (codeAny_handlers_test ?_) (by intro q; cases q)
    have LT : PySem.W.Looks (model X.prog X.w) h3 (typeOf (.ref a)) cls := fun A Q E s k q => wpAny_typeOf_ref (k _ _ he3) (by rw [hz3.1]; exact q)
    have LM := PySem.W.exm_one (M := model X.prog X.w) (J3.kIn) LT hb
    have asked : ∀ {Q : Value → Shared → Prop} {E : Value → Shared → Prop}, Q c { s' with heap := h3 } → wpAny (model X.prog X.w) (X.A.mark (some (.ref a))) (eval (.Name x np) X.env) Q E { s' with heap := h3 } := fun {Q E} q => by
      rcases named with ⟨hg, hdb, hm | ⟨hm, hv, hnn⟩⟩
      · exact ld_glob (X := X.suite a ((a, oe3) :: (X.pn ++ pins))) S3 hg hm q hdb
      · exact ld_blt (X := X.suite a ((a, oe3) :: (X.pn ++ pins))) S3 hg hm hv q hnn hdb
    refine asked (LM.here ?_)
    cases b with
    | false => exact ih (no rfl)
    | true =>
      refine codeAny_handlers_suite_as (HandSPX.lands_againZ fl3 fun h4 fl4 up4 => ?_)
      have J4 : Inv X pins σ' H' { s' with heap := h4 } := J.landed nb fl4.1 ((up.trans up3).trans up4) os ag
      obtain ⟨oe4, vs4, he4, hz4, hd4⟩ := fl4.there
      refine store_ok (X := X.suite a ((a, oe4) :: (X.pn ++ pins))) (v := .ref a) (J4.suite he4 hd4 na nL nF) nodup slot (.inl loc) rfl (fun s5 S5 => ?_) (.inr loc)
      refine wpAny_mono ((inner a oe4 cls d (X.pn ++ pins) hz4 ⟨_, hd4⟩).run [] s5 _ H' _ S5 (yes rfl a na)) (fun f s6 done => ?_) (fun _ _ z => z.elim)
      have last : ∀ {σ6 : L2.St} {H6 : Hp} {Q : Shared → Prop}, Inv (X.suite a ((a, oe4) :: (X.pn ++ pins))) [] σ6 H6 s6 → (∀ s7, Inv X pins (σ6.set i none) H6 s7 → Q s7) →
          wpAny (model X.prog X.w) X.A (do bindName X.env n .none; unbindBehindTheSuite X.env n hp) (fun _ s7 => Q s7) X.xe s6 := fun S6 hq => gone_ok (S6.unsuite okX) nodup slot loc hq
      cases f with
      | next => obtain ⟨σ6, H6, S6, q6⟩ := done; exact last S6 fun s7 J7 => ⟨_, _, J7, q6⟩
      | brk => obtain ⟨σ6, H6, S6, q6⟩ := done; exact last S6 fun s7 J7 => ⟨_, _, J7, q6⟩
      | cont => obtain ⟨σ6, H6, S6, q6⟩ := done; exact last S6 fun s7 J7 => ⟨_, _, J7, q6⟩
      | ret u => obtain ⟨v6, σ6, H6, S6, r6, q6⟩ := done; exact last S6 fun s7 J7 => ⟨_, _, _, J7, r6, q6⟩
end
end L2

namespace L2
open PySem PySem.Spec PyProof.Rows
/-! ### a set of texts that can be walked -/
def keyT (e : Int × Value) : Str := match e.2 with | .str x _ => x | _ => Str.empty
def GoodT (P : Program) (w : World) (e : Int × Value) : Prop := ∃ x tk, e.2 = Value.str x tk ∧ e.1 = (strKind P w).hash x
/-- at a: a set of just the texts of S, n of them; its table rises -/
def TxR (P : Program) (w : World) (h : Heap) (a : Addr) (S : Str → Bool) (n : Nat) : Prop :=
  ∃ o es ep t, h.get? a = some o ∧ o.ExactSet ∧ o.data = .set es ep t ∧ (∀ e ∈ es.toList, GoodT P w e) ∧ (es.toList.map keyT).Nodup ∧ (∀ k, S k = true ↔ k ∈ es.toList.map keyT) ∧
    es.size < scanBound ∧ t.fits es.size = true ∧ es.size = n ∧ Ris t.place.toList ∧ (w.params.followText "set-order" = true ∨ t.led = true)
section
variable {P : Program} {w : World} {h h' : Heap} {a : Addr} {S : Str → Bool} {n : Nat}
theorem TxR.keep (R : TxR P w h a S n) (k : ∀ o, h.get? a = some o → h'.get? a = some o) : TxR P w h' a S n :=
  let ⟨o, es, ep, t, ho, r⟩ := R; ⟨o, es, ep, t, k o ho, r⟩
theorem TxR.same {S' : Str → Bool} (R : TxR P w h a S n) (e : ∀ k, S' k = S k) : TxR P w h a S' n := (funext e : S' = S) ▸ R
theorem goodT_is {e : Int × Value} (g : GoodT P w e) (k : Str) : (strKind P w).is k e.2 = true ↔ keyT e = k := by
  obtain ⟨x, tk, z, _⟩ := g
  unfold keyT
  rw [z]
  show Value.isStrOf k (.str x tk) = true ↔ x = k
  simp [Value.isStrOf]
theorem goodT_elems {l : List (Int × Value)} (g : ∀ e ∈ l, GoodT P w e) : ElemsOf (strKind P w) l := fun e he => by
  obtain ⟨x, tk, z1, z2⟩ := g e he
  exact ⟨⟨x, (goodT_is (g e he) x).2 (by unfold keyT; rw [z1]), z2⟩, by rw [z1] <;> rfl⟩
theorem goodT_mem {l : List (Int × Value)} (g : ∀ e ∈ l, GoodT P w e) (k : Str) : k ∈ l.map keyT ↔ ∃ e ∈ l, (strKind P w).is k e.2 = true := by
  rw [List.mem_map]
  exact ⟨fun ⟨e, he, q⟩ => ⟨e, he, (goodT_is (g e he) k).2 q⟩, fun ⟨e, he, q⟩ => ⟨e, he, (goodT_is (g e he) k).1 q⟩⟩
end
section
variable {P : Program} {w : World} {A : Around} {E : Value → Shared → Prop} {s : Shared} {a : Addr} {S : Str → Bool} {n : Nat}
/-- the end of an add: stored, and laid anew where the table is too full -/
theorem txR_tail {g : Bool → Sem Unit} (free : ∀ (b : Bool) (s₁ : Shared) (Q' : Unit → Shared → Prop), Q' () s₁ → wpAny (model P w) A (g b) Q' E s₁)
    {o : Obj} {es : Array (Int × Value)} {ep : Nat} {t : SetTable} (ho : s.heap.get? a = some o) (hex : o.ExactSet) (hd : o.data = .set es ep t)
    {es1 : Array (Int × Value)} {t2 : SetTable} {S' : Str → Bool} (g1 : ∀ e ∈ es1.toList, GoodT P w e) (nd1 : (es1.toList.map keyT).Nodup) (m1 : ∀ k, S' k = true ↔ k ∈ es1.toList.map keyT)
    (b1 : es1.size < scanBound) (f2 : t2.fits es1.size = true) (r2 : Ris t2.place.toList) (l2 : w.params.followText "set-order" = true ∨ t2.led = true) {dummy : Bool} {R : Option Bool → Shared → Prop}
    (fin : ∀ h', Heap.SameBut a s.heap h' → TxR P w h' a S' es1.size → R (some true) { s with heap := h' }) :
    wpAny (model P w) A (do
        storeSet a es1 t2
        if (!dummy && t2.tooFull) = true then do
            g (relayAll t2 es1 (SetTable.grown es1.size)).2.2
            storeSet a (relayAll t2 es1 (SetTable.grown es1.size)).1 (relayAll t2 es1 (SetTable.grown es1.size)).2.1
            pure (some true)
          else pure (some true)) R E s := by
  refine wpAny_bind (wpAny_storeSet_of ho hd ?_ (fits_of_scanBound b1))
  have at1 := store_at (es' := es1) (t' := t2) ho hd
  have but1 := Heap.SameBut.update s.heap a (Obj.putSet es1 t2)
  split
  case isFalse => exact wpAny_pure (fin _ but1 ⟨_, es1, _, t2, at1, hex, rfl, g1, nd1, m1, b1, f2, rfl, r2, l2⟩)
  case isTrue =>
    have perm := relayAll_perm t2 es1 (SetTable.grown es1.size)
    have fits := relayAll_fits t2 es1 (SetTable.grown es1.size)
    have rises := relayAll_ris t2 es1 (SetTable.grown es1.size)
    have leds := relayAll_led t2 es1 (SetTable.grown es1.size)
    generalize relayAll t2 es1 (SetTable.grown es1.size) = Z at perm fits rises leds ⊢
    obtain ⟨es2, t3, gave⟩ := Z
    dsimp only at perm fits rises leds ⊢
    have size : es2.size = es1.size := by rw [← Array.length_toList, perm.length_eq, Array.length_toList]
    have b2 : es2.size < scanBound := by rw [size]; exact b1
    refine wpAny_bind (free _ _ _ (wpAny_bind (wpAny_storeSet_of at1 rfl ?_ (fits_of_scanBound b2))))
    have at2 := store_at (es' := es2) (t' := t3) at1 rfl
    exact wpAny_pure (fin _ (but1.trans (Heap.SameBut.update _ a _)) ⟨_, es2, _, t3, at2, hex, rfl, fun e he => g1 e (perm.mem_iff.mp he), (perm.map keyT).nodup_iff.mpr nd1,
      fun k => (m1 k).trans (perm.map keyT).mem_iff.symm, b2, fits, size, rises, l2.imp id fun z => by rw [leds]; exact z⟩)
/-- a text added, its hash in hand -/
theorem txR_add {k : Str} {tk : Tok} {Q : Bool → Shared → Prop} (R : TxR P w s.heap a S n) (room : n + 1 < scanBound)
    (fin : ∀ h', Heap.SameBut a s.heap h' → TxR P w h' a (fun j => S j || decide (j = k)) (if S k = true then n else n + 1) → Q (!S k) { s with heap := h' }) :
    wpAny (model P w) A (setAddHashed a (.str k tk) ((strKind P w).hash k)) Q E s := by
  obtain ⟨o, es, ep, t, ho, hex, hd, good, nd, hm, hb, hf, hn, rises, led⟩ := R
  have isk : (strKind P w).is k (.str k tk) = true := Froz.is_str k tk
  have scan : (Value.str k tk).scannable = true := rfl
  have elems : ElemsOf (strKind P w) es.toList := goodT_elems good
  unfold setAddHashed setAddHashedIn
  refine wpAny_holding (wpAny_bind (wpAny_setState_of ho hd hf ?_))
  dsimp only
  rw [byScan_of scan hb elems]
  simp only [↓reduceIte]
  unfold setAddByScan
  refine wpAny_bind (wpAny_bind (wpAny_rule (wpAny_bind (wpAny_setScan_of isk ho hd hf elems ?_))))
  cases found : List.findIdx? (fun e => (strKind P w).is k e.2) es.toList with
  | some j =>
    dsimp only
    obtain ⟨hj, pj, _⟩ := List.findIdx?_eq_some_iff_getElem.mp found
    have inS : S k = true := (hm k).2 ((goodT_mem (P := P) (w := w) good k).2 ⟨es.toList[j], List.getElem_mem hj, pj⟩)
    have q := fin s.heap (Heap.SameBut.refl a s.heap) ⟨o, es, ep, t, ho, hex, hd, good, nd, fun i => by
      rw [Bool.or_eq_true, decide_eq_true_eq, ← hm i]
      exact ⟨fun z => z.elim id (fun e => e ▸ inS), .inl⟩, hb, hf, by rw [if_pos inS]; exact hn, rises, led⟩
    rw [inS] at q
    exact wpAny_pure (wpAny_pure q)
  | none =>
    dsimp only
    have fresh : k ∉ es.toList.map keyT := fun z => by
      obtain ⟨e, he, q⟩ := (goodT_mem (P := P) (w := w) good k).1 z
      rw [List.findIdx?_eq_none_iff.mp found e he] at q
      cases q
    have offS : S k = false := Bool.eq_false_iff.mpr fun q => fresh ((hm k).1 q)
    have ways : ∀ (b : Bool) {s₁ : Shared} {Q' : Unit → Shared → Prop}, Q' () s₁ → wpAny (model P w) A (match b with | true => rule "set.scan.the-table-gave-way" | false => pure ()) Q' E s₁ := fun b s₁ Q' q => by
      cases b <;> first | exact wpAny_pure q | exact wpAny_rule q
    have perm := layNew_perm t es ((strKind P w).hash k) (.str k tk)
    have fits := layNew_fits t es ((strKind P w).hash k) (.str k tk)
    have ris1 := layNew_ris t es ((strKind P w).hash k) (.str k tk) rises
    have led1 := layNew_led t es ((strKind P w).hash k) (.str k tk)
    generalize layNew t es ((strKind P w).hash k) (.str k tk) = Z at perm fits ris1 led1 ⊢
    obtain ⟨es1, t1, dummy, gave⟩ := Z
    dsimp only at perm fits ris1 led1 ⊢
    rw [Array.toList_push] at perm
    have permC : es1.toList.Perm (((strKind P w).hash k, Value.str k tk) :: es.toList) := perm.trans (List.perm_append_singleton _ _)
    have permK : (es1.toList.map keyT).Perm (k :: es.toList.map keyT) := permC.map keyT
    have good1 : ∀ e ∈ es1.toList, GoodT P w e := fun e he => (List.mem_cons.mp (permC.mem_iff.mp he)).elim (fun z => by rw [z]; exact ⟨k, tk, rfl, rfl⟩) (good e)
    have nd1 : (es1.toList.map keyT).Nodup := permK.nodup_iff.mpr (List.nodup_cons.mpr ⟨fresh, nd⟩)
    have mem1 : ∀ i, (S i || decide (i = k)) = true ↔ i ∈ es1.toList.map keyT := fun i => by
      rw [Bool.or_eq_true, decide_eq_true_eq, hm i, permK.mem_iff, List.mem_cons]
      exact Or.comm
    have size : es1.size = n + 1 := by rw [← Array.length_toList, permC.length_eq, List.length_cons, Array.length_toList, hn]
    have b1 : es1.size < scanBound := by rw [size]; exact room
    have ledd : w.params.followText "set-order" = true ∨ t1.led = true := led.imp id fun z => by rw [led1]; exact z
    have last : ∀ h', Heap.SameBut a s.heap h' → TxR P w h' a (fun j => S j || decide (j = k)) es1.size → Q true { s with heap := h' } := fun h' sb r => by
      have q := fin h' sb
      rw [offS] at q
      rw [size] at r
      exact q r
    refine wpAny_bind (ways _ ?_)
    split
    · refine wpAny_bind ?_
      rw [hashByValue_scannable 8 scan]
      refine wpAny_pure (txR_tail (fun b s₁ Q' q => by cases b <;> first | exact wpAny_pure q | exact wpAny_rule q) ho hex hd good1 nd1 mem1 b1 ?_ ?_ ?_ fun h' sb r => by dsimp only; exact wpAny_pure (last h' sb r))
      · first | (split <;> first | exact fits | exact SetTable.fits_plain_off fits) | exact fits
      · first | (split <;> exact ris1) | exact ris1
      · first | (split <;> exact ledd) | exact ledd
    · refine wpAny_bind (wpAny_pure ?_)
      simp only [↓reduceIte]
      exact txR_tail (fun b s₁ Q' q => by cases b <;> first | exact wpAny_pure q | exact wpAny_rule q) ho hex hd good1 nd1 mem1 b1 fits ris1 ledd fun h' sb r => by dsimp only; exact wpAny_pure (last h' sb r)
/-- all that a walk yields, into the set -/
theorem txR_fill {I : Addr} {fp wr : List Addr} {G : Array GenState → Array GenState → Prop} {n : Nat} {Pv : Nat → Value → Prop} {St : Nat → Shared → Prop} {R : Result → Shared → Prop}
    (W : WalksS P w A.in1 I fp wr G n Pv St) (T : Addr) (apart : T ∉ fp) (xs : List Str) (many : n = xs.length) (room : xs.length + 1 < scanBound) (item : ∀ i v, Pv i v → ∃ k t, xs[i]? = some k ∧ v = .str k t) :
    ∀ (left i : Nat) (s : Shared), n - i = left → i ≤ n → St i s → (∃ c, c ≤ i ∧ TxR P w s.heap T (fun j => decide (j ∈ xs.take i)) c) →
      (∀ s' c, Moved (T :: wr) G s s' → c ≤ n → TxR P w s'.heap T (fun j => decide (j ∈ xs)) c → R (.ok (.ret .none)) s') → codeAny (model P w) A (.builtin "set.update.loop" ⟨[.ref T, .ref I], []⟩) R s := by
  have offW : T ∉ wr := fun z => apart (W.sub _ z)
  have incl : ∀ b ∈ wr, b ∈ T :: wr := fun b z => List.mem_cons_of_mem _ z
  intro left
  induction left with
  | zero =>
    intro i s e0 le st ⟨c, hc, set⟩ fin
    obtain rfl : i = n := by omega
    refine codeAny_builtin F.entry_set_update_loop ?_
    rw [Around.under_plainId F.plain_set_update_loop _]
    show wpAny _ A.in1 (pyNext (.ref I) >>= _) _ _ s
    refine wpAny_bind (W.done s _ _ st fun s' mv => ?_)
    rw [List.take_of_length_le (by omega)] at set
    exact wpAny_pure (fin s' c (mv.mono incl) hc (set.keep fun o z => mv.heap T o offW z))
  | succ left ih =>
    intro i s e0 le st ⟨c, hc, set⟩ fin
    have lt : i < n := by omega
    refine codeAny_builtin F.entry_set_update_loop ?_
    rw [Around.under_plainId F.plain_set_update_loop _]
    show wpAny _ A.in1 (pyNext (.ref I) >>= _) _ _ s
    refine wpAny_bind (W.item i s _ _ lt st fun v s' hP st' mv => ?_)
    obtain ⟨k, t, hk, rfl⟩ := item i v hP
    have set' : TxR P w s'.heap T (fun j => decide (j ∈ xs.take i)) c := set.keep fun o z => mv.heap T o offW z
    show wpAny _ A.in1 (holding [Value.str k t] (setAdd T (.str k t)) >>= _) _ _ s'
    refine wpAny_bind (wpAny_holding ?_)
    unfold setAdd
    refine wpAny_holding (wpAny_bind ((strKind P w).pyHash (k := k) (Froz.is_str _ _) ?_))
    refine txR_add (s := { s' with toks := s'.toks + 1 }) set' (by omega) fun h' but set2 => ?_
    have set3 : TxR P w h' T (fun j => decide (j ∈ xs.take (i + 1))) (if decide (k ∈ xs.take i) = true then c else c + 1) := set2.same fun j => by
      rw [List.take_add_one, hk]
      simp [List.mem_append]
    have le3 : (if decide (k ∈ xs.take i) = true then c else c + 1) ≤ i + 1 := by
      split <;> omega
    refine wpAny_pure ⟨plainId_quiet F.plain_set_update_loop _, ih (i + 1) _ (by omega) lt (W.frame _ s' _ _ st' (Nat.le_succ _) fun b z o e => ?_) ⟨_, le3, set3⟩ fun s'' c2 mv2 hc2 set4 => ?_⟩
    · rw [but.2 b (fun y : b = T => apart (by rw [← y]; exact z))]; exact e
    · refine fin s'' c2 (Moved.trans W.gtrans ((mv.mono incl).then_heap (Nat.le_succ _) fun b o z e => ?_) mv2) hc2 set4
      rw [but.2 b (fun y : b = T => z (by rw [y]; exact List.mem_cons_self))]; exact e
/-- a text's signs, each a text -/
def signsOf (x : Str) : List Str := x.cps.toList.map fun c => ⟨#[c]⟩
theorem sub_str_set : isSubtype (.type "str") (.type "set") = pure false := by rw [isSubtype_type]; kernel_rfl
theorem sub_str_frozenset : isSubtype (.type "str") (.type "frozenset") = pure false := by rw [isSubtype_type]; kernel_rfl
set_option maxHeartbeats 4000000 in
/-- set(a text) -/
theorem call_set_text {x : Str} {t : Tok} {Q : Value → Shared → Prop} (hh : A.handled = none) (room : (signsOf x).length + 1 < scanBound)
    (fin : ∀ (h' : Heap) (tk c : Nat), TxR P w h' s.heap.objs.size (fun j => decide (j ∈ signsOf x)) c → c ≤ (signsOf x).length → (∀ b o, s.heap.get? b = some o → h'.get? b = some o) → Q (.ref s.heap.objs.size) { s with heap := h', toks := tk }) :
    wpAny (model P w) A (call (.type "set") [.str x t]) Q E s := by
  have mro := F.called_set.mro
  obtain ⟨c, tl, mro⟩ := mro
  have made := F.called_set.made
  have sub := F.called_set.sub
  refine wpAny_call (codeAny_of_tree ?_)
  show wpAny _ _ (callAny (.type "set") _) _ _ _
  refine wpAny_pure ⟨Code.quiet_builtin _ (by decide +kernel), codeAny_builtin F.entry_type_call ?_⟩
  rw [Around.under_plain (weight_type_call_type "set" [.str x t] []) rfl]
  have f1 := F.called_set.notType
  have f2 := F.called_set.canCreate
  have f3 := F.typeCall_set_1 (.str x t)
  repeat (any_goals (first | assumption | wp_step))
  obtain ⟨h1, e1⟩ : ∃ h1 : Heap, h1 = s.heap.push { cls := .type "set", dict := none, data := .set #[] 0 (.fresh 0 0 (!w.params.followText "set-order")) } := ⟨_, rfl⟩
  have size1 : h1.objs.size = s.heap.objs.size + 1 := by rw [e1]; exact Heap.size_push ..
  have keep1 : ∀ b o, s.heap.get? b = some o → h1.get? b = some o := fun b o z => by rw [e1]; exact Heap.get?_push_of_some _ z
  have at1 : h1.get? s.heap.objs.size = some { cls := .type "set", dict := none, data := .set #[] 0 (.fresh 0 0 (!w.params.followText "set-order")) } := by rw [e1]; exact Heap.get?_push_size _ rfl
  refine codeAny_mono (code_set_led1 (.str x t) (E := E) (Q₁ := fun obj s₁ => obj = .ref s.heap.objs.size ∧ s₁ = { s with heap := h1 }) ⟨rfl, by rw [e1]⟩) fun r s₁ back => ?_
  match r, back with
  | .error e, back => exact back
  | .ok (.ret obj), back =>
    obtain ⟨rfl, rfl⟩ := back
    have ty : Shared.TypeIs { s with heap := h1 } (.ref s.heap.objs.size) "set" := ⟨_, at1, rfl⟩
    have look := F.called_set.init.lookup
    have bnd := F.called_set.init.bind (.ref s.heap.objs.size)
    repeat (any_goals (first | assumption | wp_step))
    refine codeAny_mono (codeAny_call_builtin (R := wants (fun r s₂ => r = .none ∧ ∃ h' tk c, s₂ = { s with heap := h', toks := tk } ∧ TxR P w h' s.heap.objs.size (fun j => decide (j ∈ signsOf x)) c ∧ c ≤ (signsOf x).length ∧
        (∀ b o, s.heap.get? b = some o → h'.get? b = some o)) E) F.called_set.init.plain F.entry_set_init (check_set_init_1 ty ?_)) fun r₂ s₂ back₂ => ?_
    · have z1 := sub_str_set
      have z2 := sub_str_frozenset
      have z3 : (Value.type "str" == Value.type "dict") = false := by decide
      unfold Builtin.«set.__init__» noKeywords Builtin.Frozenset.updateFrom
      generalize hPI : pyIter = PI
      wp_walk
      subst hPI
      refine wpAny_pyIter_str fun o St walk st0 => ?_
      refine wpAny_bind (wpAny_runValue ?_)
      have hh3 : A.in1.in1.in1.handled = none := by simp [hh]
      have many : x.cps.size = (signsOf x).length := by simp [signsOf]
      have empty : TxR P w (h1.push o) s.heap.objs.size (fun j => decide (j ∈ (signsOf x).take 0)) 0 :=
        ⟨_, #[], 0, _, Heap.get?_push_of_some _ at1, ⟨rfl, rfl, rfl⟩, rfl, (fun e he => by simp at he), (by simp), (fun k => by simp), (by decide), (by rfl), rfl, List.Pairwise.nil, by
          show _ ∨ (!w.params.followText "set-order") = true
          cases w.params.followText "set-order"
          · exact .inr rfl
          · exact .inl rfl⟩
      refine txR_fill ((walk _ hh3).toS) s.heap.objs.size (fun z => by have z1 : s.heap.objs.size = h1.objs.size := List.mem_singleton.mp z; rw [size1] at z1; exact absurd z1 (Nat.ne_of_lt (Nat.lt_succ_self _))) (signsOf x) many room (fun i v sign => ?item) (x.cps.size - 0) 0 _ rfl (Nat.zero_le _) st0 ⟨0, Nat.le_refl 0, empty⟩ fun s' c' mv le set => ?last
      case item =>
        obtain ⟨c, u, hc, rfl⟩ := sign
        refine ⟨⟨#[c]⟩, u, ?_, rfl⟩
        show (x.cps.toList.map _)[i]? = _
        rw [List.getElem?_map, Array.getElem?_toList, hc]
        rfl
      case last =>
        obtain ⟨h', g2, d', tk', os'⟩ := s'
        obtain rfl : g2 = s.gens := mv.gens
        obtain rfl : d' = s.drawn := mv.drawn
        obtain rfl : os' = s.os := mv.os
        show wpAny _ _ _ _ _ _
        refine wpAny_pure ?_
        show wpAny _ _ (ret Value.none) _ _ _
        rw [many] at le
        refine wpAny_pure ⟨rfl, h', tk', c', rfl, set, le, fun b o e => ?_⟩
        have lt := Heap.lt_size e
        refine mv.heap b o (fun z => ?_) (Heap.get?_push_of_some _ (keep1 _ _ e))
        rcases List.mem_cons.mp z with z | z
        · exact absurd lt (by rw [z]; exact Nat.lt_irrefl _)
        · have z3 : b = h1.objs.size := List.mem_singleton.mp z
          rw [size1] at z3
          exact absurd lt (by rw [z3]; exact Nat.not_lt_of_le (Nat.le_succ _))
    · match r₂, back₂ with
      | .error e, back₂ => exact back₂
      | .ok (.ret r), back₂ =>
        obtain ⟨rfl, h', tk, c', rfl, set, le, kept⟩ := back₂
        repeat (any_goals (first | assumption | wp_step))
        exact fin _ _ _ set le kept
end
end L2

namespace L2
open PySem PySem.Spec PyProof.Rows
section
variable {P : Program} {w : World} {A : Around} {E : Value → Shared → Prop} {s : Shared} {a : Addr} {S : Str → Bool} {n : Nat}
theorem strs_of_good : ∀ l : List (Int × Value), (∀ e ∈ l, GoodT P w e) → StrsAre (l.map (·.2)) (l.map keyT)
  | [], _ => .nil
  | e :: l, g => by
    obtain ⟨x, tk, z, _⟩ := g e List.mem_cons_self
    have k : keyT e = x := by unfold keyT; rw [z]
    rw [List.map_cons, List.map_cons, z, k]
    exact .cons x tk (strs_of_good l fun u hu => g u (List.mem_cons_of_mem _ hu))
def textOf (v : Value) : Str := match v with | .str x _ => x | _ => Str.empty
theorem strs_of : ∀ l : List Value, (∀ v ∈ l, ∃ x tk, v = Value.str x tk) → StrsAre l (l.map textOf)
  | [], _ => .nil
  | v :: l, g => by
    obtain ⟨x, tk, rfl⟩ := g v List.mem_cons_self
    exact .cons x tk (strs_of l fun u hu => g u (List.mem_cons_of_mem _ hu))
/-- sorted(a set of texts) -/
theorem sorted_texts {Q : Value → Shared → Prop} (R : TxR P w s.heap a S n) (hh : A.handled = none) (few : n < 64)
    (fin : ∀ s' p (out : Array Value) (c : Nat) (ys : List Str), (∀ b o, s.heap.get? b = some o → s'.heap.get? b = some o) → s'.gens = s.gens → s'.os = s.os → s.heap.objs.size ≤ p →
      s'.heap.get? p = some (seqObj "list" out c) → StrsAre out.toList ys → sortedS ys = true → ys.Nodup → (∀ k, k ∈ ys ↔ S k = true) → ys.length = n → Q (.ref p) s') :
    wpAny (model P w) A (call (.builtin "sorted") [.ref a]) Q E s := by
  obtain ⟨o, es, ep, t, ho, hex, hd, good, nd, mem, bound, fits, many, rises, led⟩ := R
  refine Calls.call_function_entry kind_sorted plain_sorted entry_sorted (args_sorted1 _) ?_
  unfold Builtin.«sorted»
  refine wpAny_bind (m := checkCount "sorted" 1 1 _) (wpAny_pure (wpAny_bind (collect_set (A := A.in1) hh ⟨o, ho, hex.1, hd⟩ fits bound rises led fun s1 vs k1 size1 gens1 os1 perm => ?_)))
  have len : vs.length = n := by rw [perm.length_eq, List.length_map, Array.length_toList]; exact many
  have ts : StrsAre vs (vs.map textOf) := strs_of vs fun v hv => by
    obtain ⟨e, he, q⟩ := List.mem_map.mp (perm.mem_iff.mp hv)
    obtain ⟨x, tk, z, _⟩ := good e he
    exact ⟨x, tk, by rw [← q]; exact z⟩
  have permK : (vs.map textOf).Perm (es.toList.map keyT) := by
    have q := perm.map textOf
    rw [List.map_map] at q
    exact q
  refine wpAny_bind (wpAny_newList ?_ (by rw [len, sizeLine_eq]; omega))
  have at1 : (s1.heap.push (seqObj "list" vs.toArray 0)).get? s1.heap.objs.size = some (seqObj "list" vs.toArray 0) := Heap.get?_push_size _ rfl
  refine wpAny_bind (wpAny_holding (wpAny_call_entry slot_list_sort ⟨_, at1, rfl⟩ entry_list_sort (list_sort_treeK strKind_oneLt at1 ts.keysOf (fun v₁ v₂ rest e => keyKind_strs (by rw [← e]; exact ts)) (by rw [len]; exact few) fun st' hp hs => ?_) (args_list_sort _)))
  obtain ⟨ys, g1, g2, g3⟩ := sorted_out_str ts hp hs
  obtain ⟨c, hc⟩ := sortedHeap_at (vs := vs) (out := (arrOf st').map (·.2)) at1
  have permY : ys.Perm (es.toList.map keyT) := g2.trans permK
  refine ⟨.none, rfl, wpAny_pure ⟨_, rfl, fin _ s1.heap.objs.size _ c ys (fun b u z => ?_) gens1 os1 size1 hc g1 g3 (permY.nodup_iff.mpr nd) (fun k => by rw [permY.mem_iff, ← mem k]) ?_⟩⟩
  · have z1 := k1 b u z
    have lt := Heap.lt_size z1
    show (sortedHeap (s1.heap.push (seqObj "list" vs.toArray 0)) s1.heap.objs.size vs ((arrOf st').map (·.2))).get? b = some u
    rw [sortedHeap_old (Nat.ne_of_lt lt) (by rw [size_push']; exact Nat.lt_succ_of_lt lt)]
    exact Heap.get?_push_of_some _ z1
  · rw [permY.length_eq, List.length_map, Array.length_toList]
    exact many
end
/-! ### sorted(set(a text)) as an expression -/
def TxO (P : Program) (w : World) (a : Addr) (S : Str → Bool) (n : Nat) : HO := .ext fun h => TxR P w h a S n
theorem txO_new {w : World} {P : Program} {H : Hp} {h : Heap} {a : Addr} {S : Str → Bool} {n : Nat} (R : TxR P w h a S n) : ObjOk P w H h a (TxO P w a S n) :=
  ⟨R, (let ⟨o, _, _, _, ho, _⟩ := R; ⟨o, ho⟩), fun _ _ z k => z.keep fun o e => k o e⟩
section
variable {X : Cx}
/-- set(a text): a set of its signs -/
def rSetTx (P : Program) (w : World) : List V → Hp → VK → Prop := fun xs H Q => ∃ x : Str, xs = [.str x] ∧ (signsOf x).length ≤ 1000 ∧ ∀ p c, c ≤ (signsOf x).length → H p = none → Q (.ref p) (upd H p (TxO P w p (fun j => decide (j ∈ signsOf x)) c))
theorem cr_setTx (hc : X.calm = true) : CallR X (.type "set") (rSetTx X.prog X.w) := by
  intro pins s σ H xs us Q I r h
  obtain ⟨x, rfl, few, q⟩ := h
  obtain ⟨u, rfl, ru⟩ := vals1 r
  obtain ⟨t, rfl⟩ := (show ∃ t, u = Value.str x t from ru)
  refine call_set_text (I.ok.hd hc) (Nat.lt_of_le_of_lt (Nat.succ_le_succ few) (by decide)) fun h' tk c R le kept => ?_
  have fresh : H s.heap.objs.size = none := I.hok.fresh (Nat.le_refl _)
  exact ⟨.ref s.heap.objs.size, _, I.laid (t' := tk) kept (Nat.le_refl _) (txO_new R), rfl, q _ c le fresh⟩
/-- sorted(such a set): a new list, rising, of its texts -/
def rSortTx (P : Program) (w : World) : List V → Hp → VK → Prop := fun vs H Q => ∃ (a : Addr) (S : Str → Bool) (n : Nat), vs = [.ref a] ∧ H a = some (TxO P w a S n) ∧ n < 64 ∧
  ∀ (ys : List Str) (p : Addr), sortedS ys = true → ys.Nodup → (∀ k, k ∈ ys ↔ S k = true) → ys.length = n → H p = none → Q (.ref p) (upd H p (.lst (ys.map V.str)))
theorem cr_sortTx (hc : X.calm = true) : CallR X (.builtin "sorted") (rSortTx X.prog X.w) := by
  intro pins s σ H vs us Q I r h
  obtain ⟨a, S, n, rfl, ha, few, q⟩ := h
  have R : TxR X.prog X.w s.heap a S n := (show ObjOk X.prog X.w H s.heap a (.ext fun h => TxR X.prog X.w h a S n) from I.hok a _ ha).1
  rw [Vals.ref1 r]
  refine sorted_texts R (I.ok.hd hc) few fun s' p out c ys kept g o new at_ st so nd mem len => ?_
  have fits : (ys.map V.str).length ≤ sizeLine := by rw [List.length_map, len, sizeLine_eq]; omega
  have fresh : H p = none := I.hok.fresh new
  have J : Inv X pins σ (upd H p (.lst (ys.map V.str))) { s with heap := s'.heap, gens := s'.gens, drawn := s'.drawn, toks := s'.toks } :=
    I.call (ch := []) (Un.laid kept new fresh) (I.hok.laid kept new ⟨fits, out.toList, c, vals_of_strs st, at_⟩) (by rw [g]; exact I.bare) (fun _ z => nomatch z)
  have e : s' = { s with heap := s'.heap, gens := s'.gens, drawn := s'.drawn, toks := s'.toks } := by
    cases s'
    cases s
    cases o
    rfl
  rw [e]
  exact ⟨.ref p, _, J, rfl, q ys p so nd mem len fresh⟩
end
end L2

namespace K01
open PySem PySem.Spec PyProof.Rows PySem.ErrX L2
/-! ### the text -/
def topS (i : Nat) : Stmt := PySem.Challenge.pw_surelyhas_k01_lines_pages_and_words.main.body.getD i (.Pass ⟨0, 0, 0, 0⟩)
abbrev sLine : Stmt := topS 11
abbrev sName : Stmt := topS 12
abbrev sPage : Stmt := topS 13
abbrev sSigns : Stmt := topS 14
abbrev sWord : Stmt := topS 15
abbrev sShow : Stmt := topS 16
abbrev sRead : Stmt := topS 17
abbrev sPool : Stmt := topS 19
abbrev sDraw : Stmt := topS 20
abbrev sSome : Stmt := topS 21
abbrev sMade : Stmt := topS 22
abbrev sDue : Stmt := topS 23
abbrev sTold : Stmt := topS 24
abbrev sLaw : Stmt := topS 25
theorem same_upd {H : Hp} {p : Addr} {o : HO} (h : H p = none) : Same H (upd H p o) := fun b x e => by
  rw [upd_ne (ne_of_none e h)]
  exact e
def abc : Str := "abcdefghijklmnopqrstuvwxyz"
def low (z : Str) : Bool := z.cps.toList.all fun c => decide (c ∈ abc.cps.toList)
/-- the kinds of values that are asked -/
inductive Kind (K : PySem.W.Frag) (H : Hp) : V → Prop
  | non : Kind K H .non
  | bl (b : Bool) : Kind K H (.bl b)
  | int (i : Int) : Kind K H (.int i)
  | str (x : Str) (h : x.length ≤ 1000) : Kind K H (.str x)
  | tup (a : Addr) (xs : List V) (h : H a = some (.tup xs)) : Kind K H (.ref a)
  | lst (a : Addr) (xs : List V) (h : H a = some (.lst xs)) : Kind K H (.ref a)
  | dct (a : Addr) (kvs : List (L2.Key × V)) (h : H a = some (.dK kvs)) : Kind K H (.ref a)
theorem Kind.same {K : PySem.W.Frag} {H H' : Hp} {x : V} (s : Same H H') : Kind K H x → Kind K H' x
  | .non => .non
  | .bl b => .bl b
  | .int i => .int i
  | .str x h => .str x h
  | .tup a xs h => .tup a xs (s _ _ h)
  | .lst a xs h => .lst a xs (s _ _ h)
  | .dct a xs h => .dct a xs (s _ _ h)
def isStr : V → Bool
  | .str _ => true
  | _ => false
def isLine : V → Bool
  | .str z => low z
  | _ => false
theorem Kind.ofStr {K : PySem.W.Frag} {H : Hp} {x : V} (k : Kind K H x) {Q : VK} (h : Q (.bl (isStr x)) H) : rIsi K [x, .ty "str"] H Q := by
  cases k with
  | non => exact ⟨_, _, _, _, false, rfl, .ty _, .base .non, kit_ty (by decide +kernel), h⟩
  | bl b => exact ⟨_, _, _, _, false, rfl, .ty _, .base (.bl b), kit_ty (by decide +kernel), h⟩
  | int i => exact ⟨_, _, _, _, false, rfl, .ty _, .base (.int i), kit_ty (by decide +kernel), h⟩
  | str x _ => exact ⟨_, _, _, _, true, rfl, .ty _, .base (.str x), kit_ty (by decide +kernel), h⟩
  | tup a xs e => exact ⟨_, _, _, _, false, rfl, .ty _, .base (.tup e), kit_ty (by decide +kernel), h⟩
  | lst a xs e => exact ⟨_, _, _, _, false, rfl, .ty _, .base (.lst e), kit_ty (by decide +kernel), h⟩
  | dct a xs e => exact ⟨_, _, _, _, false, rfl, .ty _, .base (.dK e), kit_ty (by decide +kernel), h⟩
theorem Kind.ofTup {K : PySem.W.Frag} {H : Hp} {x : V} (k : Kind K H x) {Q : VK} (h : (∀ a xs, x = .ref a → H a = some (.tup xs) → Q (.bl true) H) ∧ ((∀ a xs, x = .ref a → H a ≠ some (.tup xs)) → Q (.bl false) H)) : rIsi K [x, .ty "tuple"] H Q := by
  cases k with
  | non => exact ⟨_, _, _, _, false, rfl, .ty _, .base .non, kit_ty (by decide +kernel), h.2 fun _ _ z => nomatch z⟩
  | bl b => exact ⟨_, _, _, _, false, rfl, .ty _, .base (.bl b), kit_ty (by decide +kernel), h.2 fun _ _ z => nomatch z⟩
  | int i => exact ⟨_, _, _, _, false, rfl, .ty _, .base (.int i), kit_ty (by decide +kernel), h.2 fun _ _ z => nomatch z⟩
  | str x _ => exact ⟨_, _, _, _, false, rfl, .ty _, .base (.str x), kit_ty (by decide +kernel), h.2 fun _ _ z => nomatch z⟩
  | tup a xs e => exact ⟨_, _, _, _, true, rfl, .ty _, .base (.tup e), kit_ty (by decide +kernel), h.1 a xs rfl e⟩
  | lst a xs e => exact ⟨_, _, _, _, false, rfl, .ty _, .base (.lst e), kit_ty (by decide +kernel), h.2 fun b zs z q => by cases z; rw [e] at q; cases q⟩
  | dct a xs e => exact ⟨_, _, _, _, false, rfl, .ty _, .base (.dK e), kit_ty (by decide +kernel), h.2 fun b zs z q => by cases z; rw [e] at q; cases q⟩
def rOfStr (K : PySem.W.Frag) : List V → Hp → VK → Prop := fun xs H Q => ∃ x, xs = [x, .ty "str"] ∧ Kind K H x ∧ Q (.bl (isStr x)) H
theorem call_ofStr {X : Cx} : CallR X (.builtin "isinstance") (rOfStr X.K) := fun pins s σ H xs us Q I r ⟨_, e, k, q⟩ => by
  subst e
  exact call_isi pins s σ H _ us Q I r (k.ofStr q)
def rOfTup (K : PySem.W.Frag) : List V → Hp → VK → Prop := fun xs H Q => ∃ x, xs = [x, .ty "tuple"] ∧ Kind K H x ∧ (∀ a xs, x = .ref a → H a = some (.tup xs) → Q (.bl true) H) ∧ ((∀ a xs, x = .ref a → H a ≠ some (.tup xs)) → Q (.bl false) H)
theorem call_ofTup {X : Cx} : CallR X (.builtin "isinstance") (rOfTup X.K) := fun pins s σ H xs us Q I r ⟨_, e, k, q⟩ => by
  subst e
  exact call_isi pins s σ H _ us Q I r (k.ofTup q)
/-- what the top has written of the module's constants, and which built-in names stand free -/
structure Txt (mg : Str → Option Value) : Prop where
  letters : ∃ t, mg "LETTERS" = some (.str abc t)
  signs : ∃ t, mg "MOST_SIGNS" = some (.int 6 t)
  word : ∃ t, mg "MOST_IN_WORD" = some (.int 3 t)
  name : ∃ t, mg "MOST_IN_NAME" = some (.int 8 t)
  noLines : ∃ t, mg "NO_LINES" = some (.str "-" t)
  mark : ∃ t, mg "LINE_MARK" = some (.str "=" t)
  isi : mg "isinstance" = none
  str : mg "str" = none
  all : mg "all" = none
  len : mg "len" = none
  tuple : mg "tuple" = none
  list : mg "list" = none
  sorted : mg "sorted" = none
  set : mg "set" = none
theorem pe_str1 {X : Cx} {x z : Str} {t : Tok} {pos : Pos} (hm : X.mg x = some (.str z t)) (hg : Gl X x := by rfl) (hdb : (x == ("__debug__" : Str)) = false := by decide) : PE X (.Name x pos) (tC (.str z)) := pe_glob (v := .str z) hg hm ⟨t, rfl⟩ hdb
theorem pe_int1 {X : Cx} {x : Str} {i : Int} {t : Tok} {pos : Pos} (hm : X.mg x = some (.int i t)) (hg : Gl X x := by rfl) (hdb : (x == ("__debug__" : Str)) = false := by decide) : PE X (.Name x pos) (tC (.int i)) := pe_glob (v := .int i) hg hm ⟨t, rfl⟩ hdb
theorem pe_ty {X : Cx} {x : Str} {n : String} {pos : Pos} (hm : X.mg x = none) (hv : bootBuiltins x = some (.type n)) (hg : Gl X x := by rfl) (hn : x ≠ "__name__" := by decide) (hdb : (x == ("__debug__" : Str)) = false := by decide) : PE X (.Name x pos) (tC (.ty n)) := pe_bltn (v := .ty n) hg hm hv rfl hn hdb
theorem boot_str : bootBuiltins "str" = some (.type "str") := by decide +kernel
theorem boot_all : bootBuiltins "all" = some (.builtin "all") := by decide +kernel
theorem boot_tuple : bootBuiltins "tuple" = some (.type "tuple") := by decide +kernel
section
variable {P : Program} {w : World} {K : PySem.W.Frag} {mg : Str → Option Value} {base : Heap}
/-- all([sign in LETTERS for sign in z]) -/
theorem all_low {z : Str} (hz : z.length ≤ 1000) {H : Hp} {Q : VK} (h : ∀ H', Same H H' → Q (.bl (low z)) H') :
    tCB (rAll K) (tCons (tLc (iStr (tVar 0)) (gName 1) tYes (tOp (fun x y H Q => ∃ (c : Nat) (z : Str), x = .str ⟨#[c]⟩ ∧ y = .str z ∧ Q (.bl (decide (c ∈ z.cps.toList))) H) (tVar 1) (tC (.str abc))) [1]) tNil) [some (.str z), none] H Q := by
  refine ⟨.str z, rfl, z, rfl, fun D nD => ?_⟩
  refine lc_it walk_str (fun i H5 => Same H H5 ∧ H5 D = some (.lst ((z.cps.toList.take i).map fun c => .bl (decide (c ∈ abc.cps.toList))))) ⟨same_upd nD, upd_same⟩ (fun _ _ _ _ => trivial) ?_ ?_
  · rintro i y H5 H6 hi ⟨s5, hD⟩ ⟨rfl, c, hc, rfl⟩
    refine ⟨rfl, .str ⟨#[c]⟩, rfl, c, abc, rfl, rfl, _, hD, ?_, fun b o e => ?_, ?_⟩
    · have z1 : 1000 < sizeLine := by decide
      have z2 : z.length = z.cps.size := rfl
      rw [List.length_map, List.length_take, Array.length_toList]
      omega
    · rw [upd_ne (ne_of_none e nD)]
      exact s5 _ _ e
    · have e : z.cps.toList[i]? = some c := by rw [Array.getElem?_toList]; exact hc
      rw [upd_same, List.take_add_one, e, List.map_append]
      rfl
  · rintro H5 ⟨s5, hD⟩
    rw [List.take_of_length_le (by rw [Array.length_toList]; exact Nat.le_refl _)] at hD
    refine ⟨D, z.cps.toList.map (fun c => decide (c ∈ abc.cps.toList)), rfl, .inl (.inl (by rw [hD, List.map_map]; rfl)), ?_⟩
    have e : (z.cps.toList.map (fun c => decide (c ∈ abc.cps.toList))).all id = low z := by
      unfold low
      rw [List.all_map]
      rfl
    rw [e]
    exact h _ s5
def spLine (K : PySem.W.Frag) : Sp := fun vs H Q _ => ∃ x, vs = [x] ∧ Kind K H x ∧ ∀ H', Same H H' → Q (.bl (isLine x)) H'
theorem scLine : FnScope ["value", "sign"] ["value"] (defScope sLine) := ⟨rfl, rfl, rfl, by decide +kernel, rfl, by decide +kernel, by decide +kernel⟩
theorem ok_line {f : Addr} {fd : FuncData} (F : Fun K "is_line" "is_line" sLine f fd) (T : Txt mg) : FnOk P w K mg base CX0 1 f fd ["value"] (spLine K) := by
  obtain ⟨tl, gl⟩ := T.letters
  refine F.ok scLine (fun vs H Q E h => ?_) (fun cdv A outer s H vs Q E hr h => ?_)
  · obtain ⟨x, rfl, _⟩ := h
    rfl
  · obtain ⟨x, rfl, k, q⟩ := h
    refine ⟨_, pss_one (ps_ret (pe_and (pe_callB call_ofStr (by rfl) T.isi PyProof.Rows.boot_isinstance (pa_cons (pv 0) (pa_cons (pe_ty T.str boot_str) pa_nil)))
      (pe_one (pe_callB (cr_all rfl) (by rfl) T.all boot_all (pa_cons (pe_lc (own := [("sign", 1)]) (g := gName 1) (tt := tYes) rfl scLine.nd (pi_str (pv 0)) (blkOk_by (N := ["value", "sign"]) (sc := defScope sLine) (by decide +kernel)) (fun _ _ _ _ _ => pg_name (i := 1) scLine.nd rfl (Or.inl rfl)) (fun _ _ _ _ _ => pts_nil)
        (fun _ _ _ _ _ => pe_cmpR op_in_sign (pv 1) (pe_str1 gl) (by rfl))) pa_nil))))), ?_⟩
    refine ⟨x, rfl, x, rfl, k, _, rfl, ?_⟩
    cases x with
    | str z =>
      have hz : z.length ≤ 1000 := by
        cases k with
        | str _ h => exact h
      exact iteT (all_low hz q)
    | non => exact iteF (q H fun _ _ e => e)
    | bl b => exact iteF (q H fun _ _ e => e)
    | int i => exact iteF (q H fun _ _ e => e)
    | byt b => exact iteF (q H fun _ _ e => e)
    | flt b => exact iteF (q H fun _ _ e => e)
    | ref a => exact iteF (q H fun _ _ e => e)
    | ty n => exact iteF (q H fun _ _ e => e)
/-! ### names and words -/
def upTo (n : Nat) : V → Bool
  | .str z => low z && (decide (1 ≤ z.length) && decide (z.length ≤ n))
  | _ => false
def spUpTo (K : PySem.W.Frag) (n : Nat) : Sp := fun vs H Q _ => ∃ x, vs = [x] ∧ Kind K H x ∧ ∀ H', Same H H' → Q (.bl (upTo n x)) H'
abbrev tLen : TE := tCB (fun xs H Q => ∃ z : Str, xs = [.str z] ∧ z.length ≤ sizeLine ∧ Q (.int z.length) H) (tCons (tVar 0) tNil)
theorem small {n : Nat} (h : n ≤ 1000) : n ≤ sizeLine := Nat.le_trans h (by decide)
/-- 1 <= len(x) <= n, x a text -/
theorem lens {z : Str} {n : Nat} (hz : z.length ≤ 1000) {σ : L2.St} {H : Hp} {Q : VK} (h : Q (.bl (decide (1 ≤ z.length) && decide (z.length ≤ n))) H) :
    tChain (rI0 fun i j => .bl (decide (i ≤ j))) (rI0 fun i j => .bl (decide (i ≤ j))) (tC (.int 1)) tLen (tC (.int n)) (some (.str z) :: σ) H Q := by
  refine ⟨.str z, rfl, z, rfl, small hz, 1, (z.length : Int), rfl, rfl, _, rfl, ?_⟩
  refine ite2 (fun e => ⟨(z.length : Int), (n : Int), rfl, rfl, ?_⟩) (fun e => ?_)
  · have e1 : 1 ≤ z.length := by have := of_decide_eq_true e; omega
    have e2 : decide ((z.length : Int) ≤ (n : Int)) = decide (z.length ≤ n) := by
      apply decide_eq_decide.mpr
      omega
    show Q (.bl (decide ((z.length : Int) ≤ (n : Int)))) H
    rw [e2]
    rw [decide_eq_true e1, Bool.true_and] at h
    exact h
  · have e1 : ¬ 1 ≤ z.length := fun y => e (decide_eq_true (by omega))
    rw [decide_eq_false e1, Bool.false_and] at h
    exact h
/-- what stands behind «is_line(x) and», in three defs -/
theorem afterLine {K : PySem.W.Frag} {n : Nat} {x : V} {H1 : Hp} {Q : VK} (k : Kind K H1 x) (q : Q (.bl (upTo n x)) H1) :
    if isLine x = true then tChain (rI0 fun i j => .bl (decide (i ≤ j))) (rI0 fun i j => .bl (decide (i ≤ j))) (tC (.int 1)) tLen (tC (.int n)) [some x] H1 Q else Q (.bl false) H1 := by
  cases x with
  | str z =>
    have hz : z.length ≤ 1000 := by
      cases k with
      | str _ h => exact h
    refine ite2 (fun e => ?_) (fun e => ?_)
    · have e1 : low z = true := e
      refine lens hz ?_
      have e2 : upTo n (.str z) = (decide (1 ≤ z.length) && decide (z.length ≤ n)) := by
        show (low z && _) = _
        rw [e1, Bool.true_and]
      rw [← e2]
      exact q
    · have e1 : low z = false := Bool.eq_false_iff.mpr e
      have e2 : upTo n (.str z) = false := by
        show (low z && _) = _
        rw [e1, Bool.false_and]
      rw [e2] at q
      exact q
  | non => exact iteF q
  | bl b => exact iteF q
  | int i => exact iteF q
  | byt b => exact iteF q
  | flt b => exact iteF q
  | ref a => exact iteF q
  | ty n => exact iteF q
theorem scName : FnScope ["value"] ["value"] (defScope sName) := ⟨rfl, rfl, rfl, by decide +kernel, rfl, by decide +kernel, by decide +kernel⟩
theorem ok_name {f fL : Addr} {fd fdL : FuncData} (F : Fun K "is_name" "is_name" sName f fd) (T : Txt mg) (FL : Fun K "is_line" "is_line" sLine fL fdL) (bL : L2.Binds K fdL ["value"] []) (gL : mg "is_line" = some (.ref fL)) : FnOk P w K mg base CX0 2 f fd ["value"] (spUpTo K 8) := by
  have GL : FnOk P w K mg base CX0 1 fL fdL ["value"] (spLine K) := ok_line FL T
  obtain ⟨tn, gn⟩ := T.name
  refine F.ok scName (fun vs H Q E h => ?_) (fun cdv A outer s H vs Q E hr h => ?_)
  · obtain ⟨x, rfl, _⟩ := h
    rfl
  · obtain ⟨x, rfl, k, q⟩ := h
    refine ⟨_, pss_one (ps_ret (pe_and (pe_call GL hr (by rfl) gL FL.kp bL .nil pass0 (pa_cons (pv 0) pa_nil)) (pe_one (pe_chain op_le op_le pe_int (pe_callB call_len_str (by rfl) T.len PySem.boot_len (pa_cons (pv 0) pa_nil)) (pe_int1 gn))))), ?_⟩
    exact ⟨x, rfl, x, rfl, k, fun H1 s1 => ⟨_, rfl, afterLine (n := 8) (k.same s1) (q _ s1)⟩⟩
theorem scWord : FnScope ["value"] ["value"] (defScope sWord) := ⟨rfl, rfl, rfl, by decide +kernel, rfl, by decide +kernel, by decide +kernel⟩
theorem ok_word {f fL : Addr} {fd fdL : FuncData} (F : Fun K "is_word" "is_word" sWord f fd) (T : Txt mg) (FL : Fun K "is_line" "is_line" sLine fL fdL) (bL : L2.Binds K fdL ["value"] []) (gL : mg "is_line" = some (.ref fL)) : FnOk P w K mg base CX0 2 f fd ["value"] (spUpTo K 3) := by
  have GL : FnOk P w K mg base CX0 1 fL fdL ["value"] (spLine K) := ok_line FL T
  obtain ⟨tn, gn⟩ := T.word
  refine F.ok scWord (fun vs H Q E h => ?_) (fun cdv A outer s H vs Q E hr h => ?_)
  · obtain ⟨x, rfl, _⟩ := h
    rfl
  · obtain ⟨x, rfl, k, q⟩ := h
    refine ⟨_, pss_one (ps_ret (pe_and (pe_call GL hr (by rfl) gL FL.kp bL .nil pass0 (pa_cons (pv 0) pa_nil)) (pe_one (pe_chain op_le op_le pe_int (pe_callB call_len_str (by rfl) T.len PySem.boot_len (pa_cons (pv 0) pa_nil)) (pe_int1 gn))))), ?_⟩
    exact ⟨x, rfl, x, rfl, k, fun H1 s1 => ⟨_, rfl, afterLine (n := 3) (k.same s1) (q _ s1)⟩⟩
/-! ### pages -/
/-- all its lines are lines -/
def lines (xs : List V) : Bool := xs.all isLine
def spPage (K : PySem.W.Frag) : Sp := fun vs H Q _ => ∃ x, vs = [x] ∧ Kind K H x ∧ (∀ a xs, x = .ref a → H a = some (.tup xs) → xs.length ≤ 1000 ∧ (∀ y ∈ xs, Kind K H y) ∧ ∀ H', Same H H' → Q (.bl (lines xs)) H') ∧
  ((∀ a xs, x = .ref a → H a ≠ some (.tup xs)) → ∀ H', Same H H' → Q (.bl false) H')
theorem scPage : FnScope ["value", "line"] ["value"] (defScope sPage) := ⟨rfl, rfl, rfl, by decide +kernel, rfl, by decide +kernel, by decide +kernel⟩
theorem ok_page {f fL : Addr} {fd fdL : FuncData} (F : Fun K "is_page" "is_page" sPage f fd) (T : Txt mg) (FL : Fun K "is_line" "is_line" sLine fL fdL) (bL : L2.Binds K fdL ["value"] []) (gL : mg "is_line" = some (.ref fL)) : FnOk P w K mg base CX0 2 f fd ["value"] (spPage K) := by
  have GL : FnOk P w K mg base CX0 1 fL fdL ["value"] (spLine K) := ok_line FL T
  refine F.ok scPage (fun vs H Q E h => ?_) (fun cdv A outer s H vs Q E hr h => ?_)
  · obtain ⟨x, rfl, _⟩ := h
    rfl
  · obtain ⟨x, rfl, k, q1, q2⟩ := h
    refine ⟨_, pss_one (ps_ret (pe_and (pe_callB call_ofTup (by rfl) T.isi PyProof.Rows.boot_isinstance (pa_cons (pv 0) (pa_cons (pe_ty T.tuple boot_tuple) pa_nil)))
      (pe_one (pe_callB (cr_all rfl) (by rfl) T.all boot_all (pa_cons (pe_lc (own := [("line", 1)]) (g := gName 1) (tt := tYes) rfl scPage.nd (pi_tup (pv 0)) (blkOk_by (N := ["value", "line"]) (sc := defScope sPage) (by decide +kernel)) (fun _ _ _ _ _ => pg_name (i := 1) scPage.nd rfl (Or.inl rfl)) (fun _ _ _ _ _ => pts_nil)
        (fun _ _ _ _ _ => pe_call GL hr (by rfl) gL FL.kp bL .nil pass0 (pa_cons (pv 1) pa_nil))) pa_nil))))), ?_⟩
    refine ⟨x, rfl, x, rfl, k, fun a xs e1 e2 => ⟨_, rfl, iteT ?_⟩, fun off => ⟨_, rfl, iteF (q2 off H fun _ _ e => e)⟩⟩
    subst e1
    obtain ⟨few, kinds, qq⟩ := q1 a xs rfl e2
    refine ⟨.ref a, rfl, a, rfl, ⟨_, .inl (.inl e2)⟩, fun D nD => ?_⟩
    refine lc_it (walk_tup (K := K) (a := a) (xs := xs)) (fun i H5 => Same H H5 ∧ H5 D = some (.lst ((xs.take i).map fun y => .bl (isLine y)))) ⟨same_upd nD, upd_same⟩ (fun _ H5 _ z => .inl (.inl (z.1 _ _ e2))) ?_ ?_
    · rintro i y H5 H6 hi ⟨s5, hD⟩ ⟨rfl, hy⟩
      refine ⟨rfl, y, rfl, y, rfl, (kinds y (List.mem_of_getElem? hy)).same s5, fun H7 s7 => ?_⟩
      have hD7 := s7 _ _ hD
      refine ⟨_, hD7, ?_, fun b o e => ?_, ?_⟩
      · have z1 : 1000 < sizeLine := by decide
        rw [List.length_map, List.length_take]
        omega
      · rw [upd_ne (ne_of_none e nD)]
        exact s7 _ _ (s5 _ _ e)
      · rw [upd_same, List.take_add_one, hy, List.map_append]
        rfl
    · rintro H5 ⟨s5, hD⟩
      rw [List.take_length] at hD
      refine ⟨D, xs.map isLine, rfl, .inl (.inl (by rw [hD, List.map_map]; rfl)), ?_⟩
      have e : (xs.map isLine).all id = lines xs := by
        unfold lines
        rw [List.all_map]
        rfl
      rw [e]
      exact qq _ s5
end
end K01

namespace K01
open PySem PySem.Spec PyProof.Rows PySem.ErrX L2
/-! ### rising signs -/
def sing (c : Nat) : Str := ⟨#[c]⟩
theorem sing_inj {c d : Nat} (h : sing c = sing d) : c = d := by
  have e : [c] = [d] := congrArg (fun y : Str => y.cps.toList) h
  exact (List.cons.inj e).1
theorem asc_uniq : ∀ xs ys : List Nat, xs.Pairwise (· < ·) → ys.Pairwise (· < ·) → (∀ k, k ∈ xs ↔ k ∈ ys) → xs = ys
  | [], [], _, _, _ => rfl
  | [], y :: ys, _, _, m => absurd ((m y).2 List.mem_cons_self) (by simp)
  | x :: xs, [], _, _, m => absurd ((m x).1 List.mem_cons_self) (by simp)
  | x :: xs, y :: ys, hx, hy, m => by
    obtain ⟨hx1, hx2⟩ := List.pairwise_cons.mp hx
    obtain ⟨hy1, hy2⟩ := List.pairwise_cons.mp hy
    have e : x = y := by
      rcases List.mem_cons.mp ((m x).1 List.mem_cons_self) with a | a
      · exact a
      · rcases List.mem_cons.mp ((m y).2 List.mem_cons_self) with b | b
        · exact b.symm
        · have := hx1 y b
          have := hy1 x a
          omega
    subst e
    rw [asc_uniq xs ys hx2 hy2 fun k => ?_]
    have mk := m k
    rw [List.mem_cons, List.mem_cons] at mk
    constructor
    · intro a
      rcases mk.1 (.inr a) with b | b
      · have := hx1 k a
        omega
      · exact b
    · intro a
      rcases mk.2 (.inr a) with b | b
      · have := hy1 k a
        omega
      · exact b
theorem rise_le : ∀ (l : List Nat) (p : Nat), risingS (sing p) (l.map sing) = true → (p :: l).Pairwise (· ≤ ·)
  | [], p, _ => List.pairwise_singleton _ _
  | x :: l, p, h => by
    have h' : (!ltCps [x] [p] && risingS (sing x) (l.map sing)) = true := h
    rw [Bool.and_eq_true] at h'
    have ih := rise_le l x h'.2
    have px : p ≤ x := by
      have z : ltCps [x] [p] = false := by
        cases q : ltCps [x] [p] with
        | false => rfl
        | true =>
          rw [q] at h'
          exact absurd h'.1 (by decide)
      by_cases y : x < p
      · have z2 : ltCps [x] [p] = true := by simp [ltCps, y]
        rw [z2] at z
        cases z
      · omega
    refine List.pairwise_cons.mpr ⟨fun k hk => ?_, ih⟩
    rcases List.mem_cons.mp hk with e | e
    · omega
    · have := (List.pairwise_cons.mp ih).1 k e
      omega
theorem sorted_le (l : List Nat) (h : sortedS (l.map sing) = true) : l.Pairwise (· ≤ ·) := by
  cases l with
  | nil => exact List.Pairwise.nil
  | cons x l => exact rise_le l x h
theorem lt_of : ∀ l : List Nat, l.Pairwise (· ≤ ·) → l.Nodup → l.Pairwise (· < ·)
  | [], _, _ => List.Pairwise.nil
  | x :: l, h, d => by
    obtain ⟨h1, h2⟩ := List.pairwise_cons.mp h
    obtain ⟨d1, d2⟩ := List.nodup_cons.mp d
    refine List.pairwise_cons.mpr ⟨fun y hy => ?_, lt_of l h2 d2⟩
    have a := h1 y hy
    have b : x ≠ y := fun z => d1 (z ▸ hy)
    omega
def rising (z : Str) : Bool := decide (z.cps.toList.Pairwise (· < ·))
/-- a rising list of a text's signs is that text's own list just where it rises -/
theorem signs_eq {z : Str} {ys : List Str} (so : sortedS ys = true) (nd : ys.Nodup) (mem : ∀ k, k ∈ ys ↔ k ∈ signsOf z) : decide (signsOf z = ys) = rising z := by
  have all : ∀ k ∈ ys, ∃ c, k = sing c := fun k hk => by
    obtain ⟨c, _, e⟩ := List.mem_map.mp ((mem k).1 hk)
    exact ⟨c, e.symm⟩
  obtain ⟨cs, rfl⟩ : ∃ cs : List Nat, ys = cs.map sing := by
    clear so nd mem
    induction ys with
    | nil => exact ⟨[], rfl⟩
    | cons y ys ih =>
      obtain ⟨c, rfl⟩ := all y List.mem_cons_self
      obtain ⟨cs, rfl⟩ := ih fun k hk => all k (List.mem_cons_of_mem _ hk)
      exact ⟨c :: cs, rfl⟩
  have nd2 : cs.Nodup := (List.pairwise_map.mp nd).imp fun h e => h (congrArg sing e)
  have asc := lt_of cs (sorted_le cs so) nd2
  have m2 : ∀ c, c ∈ cs ↔ c ∈ z.cps.toList := fun c => by
    have h := mem (sing c)
    unfold signsOf at h
    rw [List.mem_map, List.mem_map] at h
    constructor
    · intro hc
      obtain ⟨d, hd, e⟩ := h.1 ⟨c, hc, rfl⟩
      rw [← sing_inj (show sing d = sing c from e)]
      exact hd
    · intro hc
      obtain ⟨d, hd, e⟩ := h.2 ⟨c, hc, rfl⟩
      rw [← sing_inj e]
      exact hd
  unfold rising
  apply decide_eq_decide.mpr
  constructor
  · intro e
    have e2 : z.cps.toList = cs := by
      have inj : ∀ a b : List Nat, a.map sing = b.map sing → a = b := fun a b q => List.map_inj_right (fun x y e => sing_inj e) |>.mp q
      exact inj _ _ e
    rw [e2]
    exact asc
  · intro e
    have e2 := asc_uniq _ _ e asc fun k => (m2 k).symm
    show z.cps.toList.map sing = cs.map sing
    rw [e2]
/-! ### lists of texts compared -/
theorem eqv_strs : ∀ as bs : List Str, PyData.eqv (.list (as.map .str)) (.list (bs.map .str)) = decide (as = bs) := by
  have go : ∀ as bs : List Str, PyData.eqvAll (as.map PyData.str) (bs.map PyData.str) = decide (as = bs) := by
    intro as
    induction as with
    | nil => intro bs; cases bs <;> simp [PyData.eqvAll]
    | cons a as ih =>
      intro bs
      cases bs with
      | nil => simp [PyData.eqvAll]
      | cons b bs =>
        rw [List.map_cons, List.map_cons]
        have e : (a == b) = decide (a = b) := by by_cases q : a = b <;> simp [q]
        simp [PyData.eqvAll, PyData.eqv, ih bs, e]
  intro as bs
  simp [PyData.eqv, go as bs]
theorem strs_dp {K : PySem.W.Frag} {H : Hp} : ∀ xs : List Str, DpAll K H (xs.map V.str) (xs.map PyData.str)
  | [] => .nil
  | x :: xs => .cons (.str x) (strs_dp xs)
theorem lay_strs : ∀ xs : List Str, (∀ x ∈ xs, PyData.strOk x = true) → PyData.canLayAll0 (xs.map PyData.str) = true
  | [], _ => rfl
  | x :: xs, h => by
    rw [List.map_cons]
    simp [PyData.canLayAll0, PyData.canLay0, h x List.mem_cons_self, lay_strs xs fun y hy => h y (List.mem_cons_of_mem _ hy)]
theorem depth_strs : ∀ xs : List Str, PyData.depthAll (xs.map PyData.str) = 0
  | [] => rfl
  | x :: xs => by
    rw [List.map_cons]
    simp [PyData.depthAll, PyData.depth, depth_strs xs]
theorem shaped_strs {xs : List Str} (h : ∀ x ∈ xs, PyData.strOk x = true) : SeqAt.shaped (.list (xs.map .str)) = true := by
  unfold SeqAt.shaped
  have e : (PyData.list (xs.map .str)).canLay0 = true := lay_strs xs h
  rw [e]
  simp [PyData.depth, depth_strs xs]
theorem sing_ok : ∀ c ∈ abc.cps.toList, PyData.strOk (sing c) = true := by decide +kernel
theorem signs_ok {z : Str} (h : low z = true) : ∀ x ∈ signsOf z, PyData.strOk x = true := fun x hx => by
  obtain ⟨c, hc, rfl⟩ := List.mem_map.mp hx
  exact sing_ok c (of_decide_eq_true (List.all_eq_true.mp h c hc))
end K01

namespace K01
open PySem PySem.Spec PyProof.Rows PySem.ErrX L2
section
variable {X : Cx}
/-- list(a text) -/
def rListTx : List V → Hp → VK → Prop := fun xs H Q => ∃ z : Str, xs = [.str z] ∧ z.length ≤ sizeLine ∧ ∀ p, H p = none → Q (.ref p) (upd H p (.lst ((signsOf z).map V.str)))
theorem cr_listTx (hc : X.calm = true) : CallR X (.type "list") rListTx := by
  intro pins s σ H xs us Q I r h
  obtain ⟨z, rfl, fits, q⟩ := h
  obtain ⟨u, rfl, ru⟩ := vals1 r
  obtain ⟨t, rfl⟩ := (show ∃ t, u = Value.str z t from ru)
  refine PySem.call_list_str (I.ok.hd hc) z t (fun h' tk acc c kept at_ items => ?_) fits
  have many : acc.toList.length = (signsOf z).length := by
    rw [Array.length_toList, items.1]
    simp [signsOf]
  have st : StrsAre acc.toList (signsOf z) := strs_at many fun j v hv => by
    obtain ⟨c, u, hc, rfl⟩ := items.2 j v (by rw [← Array.getElem?_toList]; exact hv)
    refine ⟨⟨#[c]⟩, u, ?_, rfl⟩
    show (z.cps.toList.map _)[j]? = _
    rw [List.getElem?_map, Array.getElem?_toList, hc]
    rfl
  have fits2 : ((signsOf z).map V.str).length ≤ sizeLine := by
    rw [List.length_map, ← many, Array.length_toList, items.1]
    exact fits
  exact ⟨.ref s.heap.objs.size, _, I.laid (t' := tk) kept (Nat.le_refl _) (show ObjOk X.prog X.w _ h' _ (.lst ((signsOf z).map V.str)) from ⟨fits2, acc.toList, c, vals_of_strs st, at_⟩), rfl, q _ (I.hok.fresh (Nat.le_refl _))⟩
end
theorem boot_list : bootBuiltins "list" = some (.type "list") := by decide +kernel
theorem boot_set : bootBuiltins "set" = some (.type "set") := by decide +kernel
theorem boot_sorted : bootBuiltins "sorted" = some (.builtin "sorted") := by decide +kernel
section
variable {P : Program} {w : World} {K : PySem.W.Frag} {mg : Str → Option Value} {base : Heap}
def asSigns : V → Bool
  | .str z => low z && (decide (1 ≤ z.length) && decide (z.length ≤ 6)) && rising z
  | _ => false
def spSigns (K : PySem.W.Frag) : Sp := fun vs H Q _ => ∃ x, vs = [x] ∧ Kind K H x ∧ ∀ H', Same H H' → Q (.bl (asSigns x)) H'
theorem scSigns : FnScope ["value"] ["value"] (defScope sSigns) := ⟨rfl, rfl, rfl, by decide +kernel, rfl, by decide +kernel, by decide +kernel⟩
theorem ok_signs {f fL : Addr} {fd fdL : FuncData} (F : Fun K "is_signs" "is_signs" sSigns f fd) (T : Txt mg) (FL : Fun K "is_line" "is_line" sLine fL fdL) (bL : L2.Binds K fdL ["value"] []) (gL : mg "is_line" = some (.ref fL)) : FnOk P w K mg base CX0 2 f fd ["value"] (spSigns K) := by
  have GL : FnOk P w K mg base CX0 1 fL fdL ["value"] (spLine K) := ok_line FL T
  obtain ⟨tn, gn⟩ := T.signs
  refine F.ok scSigns (fun vs H Q E h => ?_) (fun cdv A outer s H vs Q E hr h => ?_)
  · obtain ⟨x, rfl, _⟩ := h
    rfl
  · obtain ⟨x, rfl, k, q⟩ := h
    have hu := hr.units
    refine ⟨_, pss_one (ps_ret (pe_and (pe_call GL hr (by rfl) gL FL.kp bL .nil pass0 (pa_cons (pv 0) pa_nil)) (pe_and (pe_chain op_le op_le pe_int (pe_callB call_len_str (by rfl) T.len PySem.boot_len (pa_cons (pv 0) pa_nil)) (pe_int1 gn))
      (pe_one (pe_cmpR (op_eqD hu) (pe_callTy (cr_listTx rfl) (by rfl) T.list boot_list (pa_cons (pv 0) pa_nil)) (pe_callB (cr_sortTx rfl) (by rfl) T.sorted boot_sorted (pa_cons (pe_callTy (cr_setTx rfl) (by rfl) T.set boot_set (pa_cons (pv 0) pa_nil)) pa_nil)) (nomark _)))))), ?_⟩
    refine ⟨x, rfl, x, rfl, k, fun H1 s1 => ⟨_, rfl, ?_⟩⟩
    have off : isLine x = false → asSigns x = false := fun e => by
      cases x with
      | str z =>
        have e1 : low z = false := e
        show (low z && _ && _) = false
        rw [e1]
        rfl
      | _ => rfl
    refine ite2 (fun e => ?_) (fun e => ?_)
    case refine_2 =>
      have z := off (Bool.eq_false_iff.mpr e)
      rw [z] at q
      exact q _ s1
    cases x with
    | str z =>
      have e1 : low z = true := e
      have hz : z.length ≤ 1000 := by
        cases k with
        | str _ h => exact h
      refine lens (n := 6) hz ⟨_, rfl, ?_⟩
      by_cases c : (decide (1 ≤ z.length) && decide (z.length ≤ 6)) = true
      · rw [c]
        refine iteT ?_
        have few : z.length ≤ 6 := by
          rw [Bool.and_eq_true] at c
          exact of_decide_eq_true c.2
        have many : (signsOf z).length = z.length := by
          unfold signsOf
          rw [List.length_map, Array.length_toList]
          rfl
        refine ⟨.str z, rfl, z, rfl, small hz, fun p np => ⟨.str z, rfl, z, rfl, by omega, fun t c' hc' nt => ⟨t, _, c', rfl, upd_same, by omega, fun ys p2 so nd mem len n2 => ?_⟩⟩⟩
        have s2 := same_upd (o := .lst ((signsOf z).map V.str)) np
        have s3 := same_upd (o := TxO P w t (fun j => decide (j ∈ signsOf z)) c') nt
        have s4 := same_upd (o := .lst (ys.map V.str)) n2
        have m2 : ∀ k, k ∈ ys ↔ k ∈ signsOf z := fun k => (mem k).trans decide_eq_true_iff
        have oks := signs_ok e1
        refine ⟨.list ((signsOf z).map .str), .list (ys.map .str), .lst (.inl (.inl (s4 _ _ (s3 _ _ upd_same)))) (strs_dp _), .lst (.inl (.inl upd_same)) (strs_dp _), shaped_strs oks, shaped_strs (fun x hx => oks x ((m2 x).1 hx)), ?_⟩
        rw [eqv_strs, signs_eq so nd m2]
        have e3 : asSigns (.str z) = rising z := by
          show (low z && (decide (1 ≤ z.length) && decide (z.length ≤ 6)) && rising z) = rising z
          rw [e1, c]
          rfl
        rw [← e3]
        exact q _ (s1.trans (s2.trans (s3.trans s4)))
      · have c2 := Bool.eq_false_iff.mpr c
        rw [c2]
        have e3 : asSigns (.str z) = false := by
          show (low z && (decide (1 ≤ z.length) && decide (z.length ≤ 6)) && rising z) = false
          rw [c2, Bool.and_false]
          rfl
        rw [e3] at q
        exact iteF (q _ s1)
    | _ => exact absurd (show false = true from e) Bool.false_ne_true
end
end K01

namespace K01
open PySem PySem.Spec PyProof.Rows PySem.ErrX L2 TL
/-! ### show_page -/
def shown (zs : List Str) : Str := if zs = [] then "-" else Txt.join "/" (zs.map fun z => ("=" : Str) ++ z)
/-- what is_page tells of a value -/
def PageB (K : PySem.W.Frag) (H : Hp) (x : V) (b : Bool) : Prop := Kind K H x ∧ (∀ a xs, x = .ref a → H a = some (.tup xs) → xs.length ≤ 1000 ∧ (∀ y ∈ xs, Kind K H y) ∧ b = lines xs) ∧ ((∀ a xs, x = .ref a → H a ≠ some (.tup xs)) → b = false)
theorem PageB.page {K : PySem.W.Frag} {H : Hp} {x : V} {b : Bool} {Q : VK} {E : XK} (p : PageB K H x b) (q : ∀ H', Same H H' → Q (.bl b) H') : spPage K [x] H Q E :=
  ⟨x, rfl, p.1, fun a xs e1 e2 => ⟨(p.2.1 a xs e1 e2).1, (p.2.1 a xs e1 e2).2.1, fun H' s => by rw [← (p.2.1 a xs e1 e2).2.2]; exact q H' s⟩, fun off H' s => by have z := p.2.2 off; rw [z] at q; exact q H' s⟩
def spIsPage (K : PySem.W.Frag) : Sp := fun vs H Q _ => ∃ x b, vs = [x] ∧ PageB K H x b ∧ ∀ H', Same H H' → Q (.bl b) H'
theorem ok_isPage {P : Program} {w : World} {K : PySem.W.Frag} {mg : Str → Option Value} {base : Heap} {k : Nat} {f : Addr} {fd : FuncData} (G : FnOk P w K mg base CX0 k f fd ["value"] (spPage K)) : FnOk P w K mg base CX0 k f fd ["value"] (spIsPage K) :=
  G.imp fun vs H Q E ⟨x, b, e, p, q⟩ => by
    subst e
    exact p.page q
theorem total_le : ∀ (ws : List Str) (n : Nat), (∀ w ∈ ws, w.length ≤ n) → (ws.map (·.length)).sum ≤ ws.length * n
  | [], n, _ => by simp
  | w :: ws, n, h => by
    have ih := total_le ws n fun y hy => h y (List.mem_cons_of_mem _ hy)
    have h1 := h w List.mem_cons_self
    rw [List.map_cons, List.sum_cons, List.length_cons, Nat.succ_mul]
    omega
theorem len_mark (z : Str) : (("=" : Str) ++ z).length = z.length + 1 := by
  rw [Str.length_append]
  have e : ("=" : Str).length = 1 := rfl
  omega
def spShow (K : PySem.W.Frag) (Cp : Addr) : Sp := fun vs H Q E => ∃ x b, vs = [x] ∧ PageB K H x b ∧
  (b = true → ∃ a zs, x = .ref a ∧ H a = some (.tup (zs.map V.str)) ∧ zs.length ≤ 1000 ∧ (∀ z ∈ zs, z.length ≤ 1000) ∧ ∀ H', Same H H' → Q (.str (shown zs)) H') ∧
  (b = false → ∀ H1 d, Same H H1 → H1 d = none → E (.ref Cp) (some d) (upd H1 d (.xd [(("value" : Str), x)])))
section
variable {P : Program} {w : World} {K : PySem.W.Frag} {mg : Str → Option Value} {base : Heap} {Cp Ip Ct It : Addr}
/-- the two errors -/
structure Errs (K : PySem.W.Frag) (mg : Str → Option Value) (Cp Ip Ct It : Addr) : Prop where
  page : ErrTxt K mg "BadPage" "value" Cp Ip
  text : ErrTxt K mg "BadText" "at" Ct It
  tyP : PySem.W.typeIn K (.ref Cp) = some (.type "type")
  tyT : PySem.W.typeIn K (.ref Ct) = some (.type "type")
theorem scShow : FnScope ["page", "line"] ["page"] (defScope sShow) := ⟨rfl, rfl, rfl, by decide +kernel, rfl, by decide +kernel, by decide +kernel⟩
theorem ok_show {f fL fG : Addr} {fd fdL fdG : FuncData} (F : Fun K "show_page" "show_page" sShow f fd) (T : Txt mg) (R : Errs K mg Cp Ip Ct It) (FL : Fun K "is_line" "is_line" sLine fL fdL) (bL : L2.Binds K fdL ["value"] []) (gL : mg "is_line" = some (.ref fL))
    (FG : Fun K "is_page" "is_page" sPage fG fdG) (bG : L2.Binds K fdG ["value"] []) (gG : mg "is_page" = some (.ref fG)) : FnOk P w K mg base (L2.CX P w) 3 f fd ["page"] (spShow K Cp) := by
  have GG : FnOk P w K mg base CX0 2 fG fdG ["value"] (spIsPage K) := ok_isPage (ok_page FG T FL bL gL)
  obtain ⟨t1, g1⟩ := T.noLines
  obtain ⟨t2, g2⟩ := T.mark
  refine F.okX scShow (fun vs H Q E h => ?_) (fun cdv A outer s H vs Q E hr h => ?_)
  · obtain ⟨x, b, rfl, _⟩ := h
    rfl
  · obtain ⟨x, b, rfl, pb, good, bad⟩ := h
    refine ⟨_, pss_cons (ps_if (pt_not (pt_val (pe_call GG hr (by rfl) gG FG.kp bG .nil pass0 (pa_cons (pv 0) pa_nil)))) (pss_one (ps_raiseErr rfl R.page R.tyP hr (takes_of rfl rfl rfl rfl) (pa_cons (pv 0) pa_nil))) pss_nil)
      (pss_cons (ps_if (pt_cmpR op_eq (pe_callB call_len_seq (by rfl) T.len PySem.boot_len (pa_cons (pv 0) pa_nil)) pe_int (nomark _)) (pss_one (ps_ret (pe_str1 g1))) pss_nil)
      (pss_one (ps_ret (pe_join pe_str (pe_lc (own := [("line", 1)]) (g := gName 1) (tt := tYes) rfl scShow.nd (pi_tup (pv 0)) (blkOk_by (N := ["page", "line"]) (sc := defScope sShow) (by decide +kernel)) (fun _ _ _ _ _ => pg_name (i := 1) scShow.nd rfl (Or.inl rfl)) (fun _ _ _ _ _ => pts_nil)
        (fun _ _ _ _ _ => pe_op op_add_str (pe_str1 g2) (pv 1))))))), ?_⟩
    refine ⟨x, rfl, x, b, rfl, pb, fun H1 s1 => ⟨b, rfl, ?_⟩⟩
    cases b with
    | false => exact iteT ⟨x, rfl, x, rfl, fun d hd => bad rfl H1 d s1 hd⟩
    | true =>
      obtain ⟨a, zs, rfl, ha, few, short, q⟩ := good rfl
      refine iteF ⟨.ref a, rfl, a, zs.map V.str, rfl, .inr (.inl (.inl (s1 _ _ ha))), rfl, _, rfl, ite2 (fun e => ?_) (fun e => ?_)⟩
      · have e0 : zs = [] := by
          have z : ((zs.map V.str).length : Int) = 0 := V.int.inj (of_decide_eq_true e)
          rw [List.length_map] at z
          exact List.eq_nil_of_length_eq_zero (by omega)
        subst e0
        exact q H1 s1
      · have n0 : zs ≠ [] := fun z => by
          subst z
          exact e (decide_eq_true rfl)
        have s1a := s1 _ _ ha
        refine ⟨⟨_, rfl⟩, .ref a, rfl, a, rfl, ⟨_, .inl (.inl s1a)⟩, fun D nD => ?_⟩
        refine lc_it (walk_tup (K := K) (a := a) (xs := zs.map V.str)) (fun i H5 => Same H1 H5 ∧ H5 D = some (.lst ((zs.take i).map fun z => .str (("=" : Str) ++ z)))) ⟨same_upd nD, upd_same⟩ (fun _ H5 _ z => .inl (.inl (z.1 _ _ s1a))) ?_ ?_
        · rintro i y H5 H6 hi ⟨s5, hD⟩ ⟨rfl, hy⟩
          rw [List.length_map] at hi
          rw [List.getElem?_map, List.getElem?_eq_getElem hi] at hy
          cases (Option.some.inj hy)
          have sh := short _ (List.getElem_mem hi)
          refine ⟨rfl, _, rfl, _, _, rfl, rfl, ?_, _, hD, ?_, fun c o e => ?_, ?_⟩
          · have z1 : 2000 ≤ sizeLine := by decide
            have z2 : ("=" : Str).length = 1 := rfl
            omega
          · have z1 : 1000 < sizeLine := by decide
            rw [List.length_map, List.length_take]
            omega
          · rw [upd_ne (ne_of_none e nD)]
            exact s5 _ _ e
          · rw [upd_same, List.take_add_one, List.getElem?_eq_getElem hi, List.map_append]
            rfl
        · rintro H5 ⟨s5, hD⟩
          rw [List.length_map, List.take_length] at hD
          refine ⟨"/", D, zs.map (fun z => ("=" : Str) ++ z), rfl, rfl, .inl (.inl (.inl (by rw [hD, List.map_map]; rfl))), ?_, ?_⟩
          · have t := total_le (zs.map fun z => ("=" : Str) ++ z) 1001 fun y hy => by
              obtain ⟨z, hz, rfl⟩ := List.mem_map.mp hy
              rw [len_mark]
              have := short z hz
              omega
            rw [List.length_map] at t ⊢
            have e1 : ("/" : Str).length = 1 := rfl
            rw [e1]
            have e2 : zs.length * 1001 ≤ 1000 * 1001 := Nat.mul_le_mul_right _ few
            omega
          · have e1 : Txt.join "/" (zs.map fun z => ("=" : Str) ++ z) = shown zs := by
              unfold shown
              rw [if_neg n0]
            show Q (.str (Txt.join "/" (zs.map fun z => ("=" : Str) ++ z))) H5
            rw [e1]
            exact q H5 (s1.trans s5)
end
/-! ### read_page -/
def behind (p : Str) : Str := cutS p (some 1) none
def partOk (p : Str) : Bool := Txt.startswith p "=" && low (behind p)
def readOf (z : Str) : Option (List Str) := if z = "-" then some [] else if (Txt.split z "/").all partOk then some ((Txt.split z "/").map behind) else none
def spRead (K : PySem.W.Frag) (Ct : Addr) : Sp := fun vs H Q E => ∃ x, vs = [x] ∧ Kind K H x ∧ (∀ z, x = .str z → (∀ ls, readOf z = some ls → ∀ H' p, Same H H' → H' p = some (.tup (ls.map V.str)) → Q (.ref p) H') ∧ (readOf z = none → ∀ H1 d, Same H H1 → H1 d = none → E (.ref Ct) (some d) (upd H1 d (.xd [(("at" : Str), .non)])))) ∧
  (isStr x = false → ∀ H1 d, Same H H1 → H1 d = none → E (.ref Ct) (some d) (upd H1 d (.xd [(("at" : Str), .non)])))
section
variable {P : Program} {w : World} {K : PySem.W.Frag} {mg : Str → Option Value} {base : Heap} {Cp Ip Ct It : Addr}
theorem spl_le (S : List Nat) : ∀ (l : List Nat) (k : Nat) (acc : List Nat), ∀ q ∈ spl S k acc l, q.length ≤ acc.length + l.length := by
  intro l
  induction l with
  | nil =>
    intro k acc q hq
    have e : spl S k acc [] = [acc] := by cases k <;> rfl
    rw [e] at hq
    rw [List.mem_singleton.mp hq]
    simp
  | cons c r ih =>
    intro k acc q hq
    cases k with
    | zero =>
      have e : spl S 0 acc (c :: r) = if pre S (c :: r) = true then acc :: spl S (S.length - 1) [] r else spl S 0 (acc ++ [c]) r := rfl
      rw [e] at hq
      by_cases p : pre S (c :: r) = true
      · rw [if_pos p] at hq
        rcases List.mem_cons.mp hq with z | z
        · rw [z]
          omega
        · have := ih _ _ q z
          simp at this ⊢
          omega
      · rw [if_neg p] at hq
        have := ih _ _ q hq
        simp at this ⊢
        omega
    | succ k =>
      have e : spl S (k + 1) acc (c :: r) = spl S k acc r := rfl
      rw [e] at hq
      have := ih _ _ q hq
      simp at this ⊢
      omega
theorem split_le {z : Str} : ∀ q ∈ Txt.split z "/", q.length ≤ z.length := fun q hq => by
  have h := split_spl z "/" (by decide +kernel) (kind_ok (by decide +kernel))
  have m : tl q ∈ (Txt.split z "/").map tl := List.mem_map.mpr ⟨q, hq, rfl⟩
  rw [h] at m
  have b := spl_le _ _ _ _ _ m
  have e1 : (tl q).length = q.length := Array.length_toList
  have e2 : (tl z).length = z.length := Array.length_toList
  rw [List.length_nil] at b
  omega
theorem scRead : FnScope ["text", "parts", "part"] ["text"] (defScope sRead) := ⟨rfl, rfl, rfl, by decide +kernel, rfl, by decide +kernel, by decide +kernel⟩
theorem ok_read {f fL : Addr} {fd fdL : FuncData} (F : Fun K "read_page" "read_page" sRead f fd) (T : Txt mg) (R : Errs K mg Cp Ip Ct It) (FL : Fun K "is_line" "is_line" sLine fL fdL) (bL : L2.Binds K fdL ["value"] []) (gL : mg "is_line" = some (.ref fL)) : FnOk P w K mg base (L2.CX P w) 3 f fd ["text"] (spRead K Ct) := by
  have GL : FnOk P w K mg base CX0 1 fL fdL ["value"] (spLine K) := ok_line FL T
  obtain ⟨t1, g1⟩ := T.noLines
  obtain ⟨t2, g2⟩ := T.mark
  refine F.okX scRead (fun vs H Q E h => ?_) (fun cdv A outer s H vs Q E hr h => ?_)
  · obtain ⟨x, rfl, _⟩ := h
    rfl
  · obtain ⟨x, rfl, k, isS, noS⟩ := h
    have h1 : Room 1 _ := hr.mono (by decide)
    refine ⟨_, pss_cons (ps_if (pt_not (pt_val (pe_callB call_ofStr (by rfl) T.isi PyProof.Rows.boot_isinstance (pa_cons (pv 0) (pa_cons (pe_ty T.str boot_str) pa_nil))))) (pss_one (ps_raiseErr rfl R.text R.tyT hr (takes_of rfl rfl rfl rfl) (pa_cons pe_non pa_nil))) pss_nil)
      (pss_cons (ps_if (pt_cmpR op_eq (pv 0) (pe_str1 g1) (nomark _)) (pss_one (ps_ret (pe_tup pa_nil))) pss_nil)
      (pss_cons (ps_set (i := 1) scRead.nd rfl (.inl rfl) (pe_split (pv 0) pe_str))
      (pss_cons (ps_if (pt_not (pt_val (pe_callB (cr_all rfl) (by rfl) T.all boot_all (pa_cons (pe_lc (own := [("part", 2)]) (g := gName 2) (tt := tYes) rfl scRead.nd (pi_list (pv 1)) (blkOk_by (N := ["text", "parts", "part"]) (sc := defScope sRead) (by decide +kernel)) (fun _ _ _ _ _ => pg_name (i := 2) scRead.nd rfl (Or.inl rfl)) (fun _ _ _ _ _ => pts_nil)
          (fun _ _ _ _ _ => pe_and (pe_m1 PySem.F.slot_str_startswith PySem.F.type_str_startswith mt_startswith (pv 2) (pe_str1 g2)) (pe_one (pe_call GL h1 (by rfl) gL FL.kp bL .nil pass0 (pa_cons (pe_slice sl_str (pv 2) (po_some pe_int) po_none) pa_nil))))) pa_nil)))) (pss_one (ps_raiseErr rfl R.text R.tyT hr (takes_of rfl rfl rfl rfl) (pa_cons pe_non pa_nil))) pss_nil)
      (pss_one (ps_ret (pe_callTy call_tuple_of (by rfl) T.tuple boot_tuple (pa_cons (pe_lc (own := [("part", 2)]) (g := gName 2) (tt := tYes) rfl scRead.nd (pi_list (pv 1)) (blkOk_by (N := ["text", "parts", "part"]) (sc := defScope sRead) (by decide +kernel)) (fun _ _ _ _ _ => pg_name (i := 2) scRead.nd rfl (Or.inl rfl)) (fun _ _ _ _ _ => pts_nil)
          (fun _ _ _ _ _ => pe_slice sl_str (pv 2) (po_some pe_int) po_none)) pa_nil))))))), ?_⟩
    refine ⟨x, rfl, x, rfl, k, _, rfl, ?_⟩
    by_cases e : isStr x = true
    case neg =>
      have e' := Bool.eq_false_iff.mpr e
      rw [e']
      exact iteT ⟨.non, rfl, fun d hd => noS e' H d (fun _ _ z => z) hd⟩
    rw [e]
    refine iteF ?_
    obtain ⟨z, rfl⟩ : ∃ z, x = .str z := by
      cases x with
      | str z => exact ⟨z, rfl⟩
      | _ => cases e
    obtain ⟨good, bad⟩ := isS z rfl
    have hz : z.length ≤ 1000 := by
      cases k with
      | str _ h => exact h
    refine ⟨.str z, rfl, rfl, _, rfl, ite2 (fun e1 => ?_) (fun e1 => ?_)⟩
    · have e2 : z = "-" := V.str.inj (of_decide_eq_true e1)
      refine ⟨(by show 0 ≤ sizeLine; decide), fun p np => good [] (by unfold readOf; rw [if_pos e2]) _ p (same_upd np) upd_same⟩
    · have e2 : z ≠ "-" := fun y => e1 (decide_eq_true (by rw [y]))
      have z1 : 2000 ≤ sizeLine := by decide
      refine ⟨.str z, rfl, ⟨z, rfl⟩, z, "/", rfl, rfl, by decide, by omega, fun p np => ?_⟩
      have s1 := same_upd (o := .lst ((Txt.split z "/").map V.str)) np
      obtain ⟨ps, eps⟩ : ∃ ps, ps = Txt.split z "/" := ⟨_, rfl⟩
      have short : ∀ q ∈ ps, q.length ≤ 1000 := fun q hq => by
        rw [eps] at hq
        have := split_le q hq
        omega
      have len : ps.length ≤ z.length + 2 := by
        rw [eps]
        have := PyProof.Rows.split_le z "/"
        omega
      rw [← eps] at s1 ⊢
      obtain ⟨H1, eH⟩ : ∃ H1, H1 = upd H p (.lst (ps.map V.str)) := ⟨_, rfl⟩
      have at1 : H1 p = some (.lst (ps.map V.str)) := by rw [eH]; exact upd_same
      rw [← eH] at s1 ⊢
      refine ⟨.ref p, rfl, p, rfl, ⟨_, .inl (.inl at1)⟩, fun D nD => ?_⟩
      refine lc_it (walk_list (K := K) (a := p) (xs := ps.map V.str)) (fun i H5 => Same H1 H5 ∧ H5 D = some (.lst ((ps.take i).map fun q => .bl (partOk q)))) ⟨same_upd nD, upd_same⟩ (fun _ H5 _ y => .inl (.inl (y.1 _ _ at1))) ?_ ?_
      · rintro i y H5 H6 hi ⟨s5, hD⟩ ⟨rfl, hy⟩
        rw [List.length_map] at hi
        rw [List.getElem?_map, List.getElem?_eq_getElem hi] at hy
        cases (Option.some.inj hy)
        have sh := short _ (List.getElem_mem hi)
        have last : ∀ H7, Same H6 H7 → ∃ acc, H7 D = some (.lst acc) ∧ acc.length < sizeLine ∧ (Same H1 (upd H7 D (.lst (acc ++ [.bl (partOk ps[i])]))) ∧ (upd H7 D (.lst (acc ++ [.bl (partOk ps[i])]))) D = some (.lst ((ps.take (i + 1)).map fun q => .bl (partOk q)))) := fun H7 s7 => by
          refine ⟨_, s7 _ _ hD, ?_, fun c o w => ?_, ?_⟩
          · rw [List.length_map, List.length_take]
            omega
          · rw [upd_ne (ne_of_none w nD)]
            exact s7 _ _ (s5 _ _ w)
          · rw [upd_same, List.take_add_one, List.getElem?_eq_getElem hi, List.map_append]
            rfl
        refine ⟨rfl, _, rfl, ⟨_, rfl⟩, _, _, rfl, rfl, _, rfl, ?_⟩
        by_cases st : Txt.startswith ps[i] "=" = true
        · rw [st]
          refine iteT ⟨_, rfl, 1, rfl, _, rfl, by omega, .str (behind ps[i]), rfl, .str _ ?_, fun H7 s7 => ?_⟩
          · have := cutS_length ps[i] (some 1) none
            show (cutS ps[i] (some 1) none).length ≤ 1000
            omega
          · have ep : partOk ps[i] = isLine (.str (behind ps[i])) := by
              show (Txt.startswith ps[i] "=" && low (behind ps[i])) = low (behind ps[i])
              rw [st, Bool.true_and]
            have l := last H7 s7
            rw [ep] at l
            exact l
        · have st' := Bool.eq_false_iff.mpr st
          rw [st']
          refine iteF ?_
          have ep : partOk ps[i] = false := by
            show (Txt.startswith ps[i] "=" && low (behind ps[i])) = false
            rw [st', Bool.false_and]
          have l := last H6 (fun _ _ y => y)
          rw [ep] at l
          exact l
      · rintro H5 ⟨s5, hD⟩
        rw [List.length_map, List.take_length] at hD
        refine ⟨D, ps.map partOk, rfl, .inl (.inl (by rw [hD, List.map_map]; rfl)), _, rfl, ?_⟩
        have ea : (ps.map partOk).all id = ps.all partOk := by
          rw [List.all_map]
          rfl
        rw [ea]
        by_cases al : ps.all partOk = true
        · rw [al]
          refine iteF ⟨.ref p, rfl, p, rfl, ⟨_, .inl (.inl (s5 _ _ at1))⟩, fun D2 nD2 => ?_⟩
          refine lc_it (walk_list (K := K) (a := p) (xs := ps.map V.str)) (fun i H7 => Same H5 H7 ∧ H7 D2 = some (.lst ((ps.take i).map fun q => .str (behind q)))) ⟨same_upd nD2, upd_same⟩ (fun _ H7 _ y => .inl (.inl (y.1 _ _ (s5 _ _ at1)))) ?_ ?_
          · rintro i y H7 H8 hi ⟨s7, hD2⟩ ⟨rfl, hy⟩
            rw [List.length_map] at hi
            rw [List.getElem?_map, List.getElem?_eq_getElem hi] at hy
            cases (Option.some.inj hy)
            have sh := short _ (List.getElem_mem hi)
            refine ⟨rfl, _, rfl, 1, rfl, _, rfl, by omega, _, hD2, ?_, fun c o w => ?_, ?_⟩
            · rw [List.length_map, List.length_take]
              omega
            · rw [upd_ne (ne_of_none w nD2)]
              exact s7 _ _ w
            · rw [upd_same, List.take_add_one, List.getElem?_eq_getElem hi, List.map_append]
              rfl
          · rintro H7 ⟨s7, hD2⟩
            rw [List.length_map, List.take_length] at hD2
            refine ⟨D2, _, rfl, .inl ⟨.inl (.inl hD2), fun l nl => ?_⟩⟩
            refine good (ps.map behind) (by unfold readOf; rw [if_neg e2, ← eps, if_pos al]) _ l (s1.trans (s5.trans (s7.trans (same_upd nl)))) ?_
            rw [upd_same, List.map_map]
            rfl
        · have al' := Bool.eq_false_iff.mpr al
          rw [al']
          exact iteT ⟨.non, rfl, fun d hd => bad (by unfold readOf; rw [if_neg e2, ← eps, if_neg al]) H5 d (s1.trans s5) hd⟩
end
end K01

namespace K01
open PySem PySem.Spec PyProof.Rows PySem.ErrX L2
section
variable {P : Program} {w : World} {K : PySem.W.Frag} {mg : Str → Option Value} {base : Heap}
/-- the built-in names that the law's helpers ask stand free -/
structure Blt (mg : Str → Option Value) : Prop where
  sum : mg "sum" = none
  len : mg "len" = none
  abs : mg "abs" = none
  int : mg "int" = none
theorem nz1 : (2147483629 : Int) ≠ 0 := by decide
theorem nz2 : (2147483647 : Int) ≠ 0 := by decide
theorem bit_small (b : Bool) : -(2 ^ 64) < (if b = true then (1 : Int) else 0) ∧ (if b = true then (1 : Int) else 0) < 2 ^ 64 := by cases b <;> decide
theorem mod_small (x : Int) : -(2 ^ 64) < x.fmod 2147483647 ∧ x.fmod 2147483647 < 2 ^ 64 := by
  have h1 := Int.fmod_nonneg_of_pos x (show (0 : Int) < 2147483647 by decide)
  have h2 := Int.fmod_lt_of_pos x (show (0 : Int) < 2147483647 by decide)
  omega
/-- a pool: two ints in a new list -/
def spPool (K : PySem.W.Frag) : Sp := fun vs H Q _ => ∃ (a : Addr) (ns : List Int) (k : Int), vs = [.ref a, .int k] ∧ SqL K H a (ns.map V.int) ∧ ns.length ≤ 1000 ∧ 0 ≤ k ∧ k ≤ 1000 ∧ ∀ H' p g m, Same H H' → H p = none → H' p = some (.lst [.int g, .int m]) → Q (.ref p) H'
theorem scO : FnScope ["_law_script", "_law_k", "_law_cell", "_law_great", "_law_small", "_law_mixed"] ["_law_script", "_law_k"] (defScope sPool) := ⟨rfl, rfl, rfl, by decide +kernel, rfl, by decide +kernel, by decide +kernel⟩
theorem ok_pool {f : Addr} {fd : FuncData} (F : Fun K "_law_pool" "_law_pool" sPool f fd) (T : Blt mg) : FnOk P w K mg base CX0 1 f fd ["_law_script", "_law_k"] (spPool K) := by
  refine F.ok scO (fun vs H Q E h => ?_) (fun cdv A outer s H vs Q E hr h => ?_)
  · obtain ⟨a, ns, k, rfl, _⟩ := h
    rfl
  · obtain ⟨a, ns, k, rfl, hS, hlen, k0, k1, q⟩ := h
    refine ⟨_, pss_cons (ps_set (i := 2) scO.nd rfl (.inl rfl) (pe_op op_add (pe_op op_mul pe_int (pe_callB (cr_sum rfl) (by rfl) T.sum (by decide +kernel) (pa_cons (pe_slice sl_list (pv 0) po_none (po_some pe_int)) pa_nil))) (pv 1)))
      (pss_cons (ps_if (pt_cmpR op_lt (pv 1) (pe_callB call_len_seq (by rfl) T.len PySem.boot_len (pa_cons (pv 0) pa_nil)) (nomark _)) (pss_one (ps_set (i := 2) scO.nd rfl (.inl rfl) (pe_ix ix_list (pv 0) (pv 1) (fun _ _ => rfl)))) pss_nil)
      (pss_cons (ps_set (i := 3) scO.nd rfl (.inl rfl) (pe_callB call_abs (by rfl) T.abs (by decide +kernel) (pa_cons (pe_callTy call_int1 (by rfl) T.int (by decide +kernel) (pa_cons (pv 2) pa_nil)) pa_nil)))
      (pss_cons (ps_set (i := 4) scO.nd rfl (.inl rfl) (pe_op op_modN (pe_callTy call_int1 (by rfl) T.int (by decide +kernel) (pa_cons (pv 3) pa_nil)) pe_int))
      (pss_cons (ps_set (i := 5) scO.nd rfl (.inl rfl) (pe_op op_modN (pe_callTy call_int1 (by rfl) T.int (by decide +kernel) (pa_cons (pe_op op_mul (pe_op op_add (pe_op op_add (pe_op op_add (pv 4) (pe_op op_mul (pe_op op_mul pe_int (pv 1)) (pv 1))) (pe_op op_mul pe_int (pv 1))) pe_int) pe_int) pa_nil)) pe_int))
      (pss_one (ps_ret (pe_lst (pa_cons (pe_op op_mul (pv 3) (pe_callTy call_int1 (by rfl) T.int (by decide +kernel) (pa_cons (pe_cmpR op_ge (pv 3) (pe_op op_pow pe_int pe_int) (nomark _)) pa_nil))) (pa_cons (pe_op op_modN (pe_callTy call_int1 (by rfl) T.int (by decide +kernel) (pa_cons (pe_op op_mul (pv 5) (pv 5)) pa_nil)) pe_int) pa_nil))))))))), ?_⟩
    refine ⟨.ref a, rfl, 63, rfl, a, ns.map V.int, rfl, hS, fun c nc => ?_⟩
    have nn : Same H (upd H c (.lst (cutV (ns.map V.int) none (some 63)))) := same_upd nc
    obtain ⟨ms, em⟩ : ∃ ms : List Int, cutV (ns.map V.int) none (some 63) = ms.map V.int := ⟨_, by unfold cutV; rw [← List.map_drop, ← List.map_take]⟩
    have hs : SqL K (upd H c (.lst (cutV (ns.map V.int) none (some 63)))) c (ms.map V.int) := .inl (.inl (by rw [upd_same, em]))
    have item : (decide (k < ((ns.map V.int).length : Int))) = true → atI (ns.map V.int) k = some (.int (ns.getD k.toNat 0)) := fun e => by
      have e1 := of_decide_eq_true e
      rw [List.length_map] at e1
      have e2 : k.toNat < ns.length := by omega
      have e3 : k = (k.toNat : Int) := by omega
      rw [e3]
      refine atI_nat ?_
      rw [List.getElem?_map, List.getElem?_eq_getElem e2, Int.toNat_natCast, List.getD_eq_getElem?_getD, List.getElem?_eq_getElem e2]
      rfl
    refine ⟨c, ms, rfl, hs, 11, ms.sum, rfl, rfl, .inl ⟨by decide, by decide⟩, .int k, rfl, _, _, rfl, rfl, ?_⟩
    refine ⟨.int k, rfl, .ref a, rfl, a, ns.map V.int, rfl, .inl (nn.seq hS), _, _, rfl, rfl, _, rfl, ite2 (fun e => ⟨.ref a, rfl, .int k, rfl, a, _, k, _, rfl, rfl, nn.seq hS, item e, ?_⟩) (fun e => ?_)⟩
    all_goals
      refine ⟨_, rfl, .inl ⟨_, rfl, _, rfl, ?_⟩⟩
      refine ⟨_, rfl, .inl ⟨_, rfl, _, _, rfl, rfl, nz1, ?_⟩⟩
      refine ⟨_, rfl, _, rfl, _, _, rfl, rfl, .inl ⟨by decide, by decide⟩, _, rfl, _, _, rfl, rfl, .inr ⟨by omega, by omega⟩, _, _, rfl, rfl, _, rfl, _, _, rfl, rfl, .inl ⟨by decide, by decide⟩, _, _, rfl, rfl, _, _, rfl, rfl, _, _, rfl, rfl, .inr ⟨by decide, by decide⟩, .inl ⟨_, rfl, _, _, rfl, rfl, nz2, ?_⟩⟩
      refine ⟨_, rfl, _, rfl, _, _, rfl, rfl, ⟨by decide, by decide, by decide⟩, _, _, rfl, rfl, .inr ⟨_, rfl, _, _, rfl, rfl, .inr (bit_small _), _, rfl, _, rfl, _, _, rfl, rfl, .inl (mod_small _), .inl ⟨_, rfl, _, _, rfl, rfl, nz1, ?_⟩⟩⟩
      refine ⟨(by show 2 ≤ sizeLine; decide), fun p np => ?_⟩
      have n0 : H p = none := by
        cases z : H p with
        | none => rfl
        | some o =>
          rw [nn _ _ z] at np
          cases np
      exact q _ p _ _ (nn.trans (same_upd np)) n0 upd_same
/-- a draw below many: the pool goes on -/
def spDraw : Sp := fun vs H Q _ => ∃ (p : Addr) (many g m : Int), vs = [.ref p, .int many] ∧ H p = some (.lst [.int g, .int m]) ∧ 0 < many ∧ many < 1073741824 ∧ ∀ r g' m', 0 ≤ r → r < many → Q (.int r) (upd H p (.lst [.int g', .int m']))
theorem scD : FnScope ["_law_pool_here", "_law_many", "_law_found"] ["_law_pool_here", "_law_many"] (defScope sDraw) := ⟨rfl, rfl, rfl, by decide +kernel, rfl, by decide +kernel, by decide +kernel⟩
theorem ok_draw {f : Addr} {fd : FuncData} (F : Fun K "_law_draw" "_law_draw" sDraw f fd) (T : Blt mg) : FnOk P w K mg base CX0 1 f fd ["_law_pool_here", "_law_many"] spDraw := by
  refine F.ok scD (fun vs H Q E h => ?_) (fun cdv A outer s H vs Q E hr h => ?_)
  · obtain ⟨p, many, g, m, rfl, _⟩ := h
    rfl
  · obtain ⟨p, many, g, m, rfl, hp, m0, m1, q⟩ := h
    refine ⟨_, pss_cons (ps_if (pt_cmpR op_gt (pe_ix ix_list (pv 0) pe_int (fun _ _ => rfl)) pe_int (nomark _))
        (pss_cons (ps_set (i := 2) scD.nd rfl (.inl rfl) (pe_op op_modN (pe_callTy call_int1 (by rfl) T.int (by decide +kernel) (pa_cons (pe_ix ix_list (pv 0) pe_int (fun _ _ => rfl)) pa_nil)) (pv 1)))
        (pss_cons (ps_asg (pe_op op_fdivN (pe_ix ix_list (pv 0) pe_int (fun _ _ => rfl)) (pv 1)) (pg_sub (pv 0) pe_int set_list))
        (pss_one (ps_ret (pv 2))))) pss_nil)
      (pss_cons (ps_asg (pe_op op_modN (pe_callTy call_int1 (by rfl) T.int (by decide +kernel) (pa_cons (pe_op op_add (pe_op op_mul (pe_ix ix_list (pv 0) pe_int (fun _ _ => rfl)) pe_int) pe_int) pa_nil)) pe_int) (pg_sub (pv 0) pe_int set_list))
      (pss_one (ps_ret (pe_op op_modN (pe_callTy call_int1 (by rfl) T.int (by decide +kernel) (pa_cons (pe_op op_fdiv (pe_op op_modN (pe_callTy call_int1 (by rfl) T.int (by decide +kernel) (pa_cons (pe_op op_mul (pe_ix ix_list (pv 0) pe_int (fun _ _ => rfl)) (pe_ix ix_list (pv 0) pe_int (fun _ _ => rfl))) pa_nil)) pe_int) pe_int) pa_nil)) (pv 1))))), ?_⟩
    have sq : SqL K H p [.int g, .int m] := .inl (.inl hp)
    have nz : many ≠ 0 := by omega
    have lo : ∀ x : Int, 0 ≤ x.fmod many ∧ x.fmod many < many := fun x => ⟨Int.fmod_nonneg_of_pos x m0, Int.fmod_lt_of_pos x m0⟩
    refine ⟨.ref p, rfl, p, _, 0, .int g, rfl, rfl, sq, atI_nat (j := 0) rfl, _, _, rfl, rfl, _, rfl, ite2 (fun e => ?_) (fun e => ?_)⟩
    · refine ⟨.ref p, rfl, p, _, 0, .int g, rfl, rfl, sq, atI_nat (j := 0) rfl, .inl ⟨_, rfl, .int many, rfl, _, _, rfl, rfl, nz, ?_⟩⟩
      refine ⟨.ref p, rfl, p, _, 0, .int g, rfl, rfl, sq, atI_nat (j := 0) rfl, .int many, rfl, _, _, rfl, rfl, ⟨nz, by omega⟩, .ref p, rfl, p, _, _, 0, rfl, rfl, hp, rfl, ?_⟩
      exact ⟨_, rfl, q _ _ _ (lo g).1 (lo g).2⟩
    · refine ⟨.ref p, rfl, p, _, 1, .int m, rfl, rfl, sq, atI_nat (j := 1) rfl, _, _, rfl, rfl, .inr ⟨by decide, by decide⟩, _, _, rfl, rfl, .inl ⟨_, rfl, _, _, rfl, rfl, nz2, .ref p, rfl, p, _, _, 1, rfl, rfl, hp, rfl, ?_⟩⟩
      refine ⟨.ref p, rfl, p, _, 1, _, rfl, rfl, .inl (.inl upd_same), atI_nat (j := 1) rfl, .ref p, rfl, p, _, 1, _, rfl, rfl, .inl (.inl upd_same), atI_nat (j := 1) rfl, _, _, rfl, rfl, .inl (mod_small _), .inl ⟨_, rfl, _, _, rfl, rfl, nz1, _, _, rfl, rfl, ⟨by decide, by decide⟩, .inl ⟨_, rfl, .int many, rfl, _, _, rfl, rfl, nz, ?_⟩⟩⟩
      exact q _ _ _ (lo _).1 (lo _).2
end
/-! ### texts drawn -/
/-- all as it was but at p -/
def But (p : Addr) (H H' : Hp) : Prop := ∀ b o, b ≠ p → H b = some o → H' b = some o
theorem But.refl (p : Addr) (H : Hp) : But p H H := fun _ _ _ e => e
theorem But.trans {p : Addr} {H1 H2 H3 : Hp} (a : But p H1 H2) (b : But p H2 H3) : But p H1 H3 := fun c o n e => b c o n (a c o n e)
theorem But.upd {p : Addr} {H : Hp} {o : HO} : But p H (upd H p o) := fun b x n e => by
  rw [upd_ne n]
  exact e
theorem But.of {p : Addr} {H H' : Hp} (s : Same H H') : But p H H' := fun b o _ e => s b o e
/-- a pool at p -/
def Pool (H : Hp) (p : Addr) : Prop := ∃ g m : Int, H p = some (.lst [.int g, .int m])
def alpha : Str := "abzA1 _=/"
def plain (z : Str) : Prop := ∀ c ∈ z.cps.toList, c ∈ alpha.cps.toList
instance (z : Str) : Decidable (plain z) := by unfold plain; infer_instance
theorem plain_app {a b : Str} (ha : plain a) (hb : plain b) : plain (a ++ b) := fun c hc => by
  have e : (a ++ b).cps.toList = a.cps.toList ++ b.cps.toList := TL.tl_append a b
  rw [e] at hc
  exact (List.mem_append.mp hc).elim (ha c) (hb c)
theorem plain_cut {z : Str} {lo hi : Option Int} (h : plain z) : plain (cutS z lo hi) := fun c hc => by
  have e : (cutS z lo hi).cps.toList = (z.cps.toList.drop (HT.sIx z.length 0 lo)).take (HT.sIx z.length z.length hi - HT.sIx z.length 0 lo) := rfl
  rw [e] at hc
  exact h c (List.mem_of_mem_drop (List.mem_of_mem_take hc))
theorem joinL_sing : ∀ cs : List Nat, TL.joinL [] (cs.map fun c => [c]) = cs
  | [] => rfl
  | [_] => rfl
  | c :: d :: cs => by
    have ih := joinL_sing (d :: cs)
    show [c] ++ ([] ++ TL.joinL [] ((d :: cs).map fun c => [c])) = c :: d :: cs
    rw [ih]
    rfl
theorem join_sing (cs : List Nat) : (Txt.join "" (cs.map sing)).cps.toList = cs := by
  rw [TL.join_eq]
  show TL.tl (Str.join "" (cs.map sing)) = cs
  rw [TL.tl_join, List.map_map]
  exact joinL_sing cs
def spSome : Sp := fun vs H Q _ => ∃ p, vs = [.ref p] ∧ Pool H p ∧ ∀ H' z, But p H H' → Pool H' p → z.length ≤ 9 → plain z → Q (.str z) H'
section
variable {P : Program} {w : World} {K : PySem.W.Frag} {mg : Str → Option Value} {base : Heap}
theorem scSome : FnScope ["_law_pool_here", "_law_signs", "_law_turn"] ["_law_pool_here"] (defScope sSome) := ⟨rfl, rfl, rfl, by decide +kernel, rfl, by decide +kernel, by decide +kernel⟩
theorem ok_some {f fD : Addr} {fd fdD : FuncData} (F : Fun K "_law_some_text" "_law_some_text" sSome f fd) (B : Blt mg) (zr : mg "range" = none) (FD : Fun K "_law_draw" "_law_draw" sDraw fD fdD) (bD : L2.Binds K fdD ["_law_pool_here", "_law_many"] []) (gD : mg "_law_draw" = some (.ref fD)) : FnOk P w K mg base CX0 2 f fd ["_law_pool_here"] spSome := by
  have GD : FnOk P w K mg base CX0 1 fD fdD ["_law_pool_here", "_law_many"] spDraw := ok_draw FD B
  refine F.ok scSome (fun vs H Q E h => ?_) (fun cdv A outer s H vs Q E hr h => ?_)
  · obtain ⟨p, rfl, _⟩ := h
    rfl
  · obtain ⟨p, rfl, ⟨g, m, hp⟩, q⟩ := h
    refine ⟨_, pss_cons (ps_set (i := 1) scSome.nd rfl (.inr rfl) (pe_op op_add_str pe_str (pe_slice sl_str pe_str po_none (po_some (pe_call GD hr (by rfl) gD FD.kp bD .nil pass0 (pa_cons (pv 0) (pa_cons pe_int pa_nil)))))))
      (pss_one (ps_ret (pe_join pe_str (pe_lc (own := [("_law_turn", 2)]) (g := gName 2) (tt := tYes) rfl scSome.nd (pi_range1 (by rfl) zr (pa_cons (pe_call GD hr (by rfl) gD FD.kp bD .nil pass0 (pa_cons (pv 0) (pa_cons pe_int pa_nil))) pa_nil)) (blkOk_by (N := ["_law_pool_here", "_law_signs", "_law_turn"]) (sc := defScope sSome) (by decide +kernel)) (fun _ _ _ _ _ => pg_name (i := 2) scSome.nd rfl (Or.inl rfl)) (fun _ _ _ _ _ => pts_nil)
        (fun _ _ _ _ _ => pe_ix ix_str (pv 1) (pe_call GD hr (by rfl) gD FD.kp bD .nil pass0 (pa_cons (pv 0) (pa_cons (pe_callB call_len_str (by rfl) B.len PySem.boot_len (pa_cons (pv 1) pa_nil)) pa_nil))) (fun _ _ => rfl)))))), ?_⟩
    refine ⟨.ref p, rfl, p, 7, g, m, rfl, hp, by decide, by decide, fun r g1 m1 r0 r1 => ⟨r, rfl, _, rfl, (by show 6 ≤ sizeLine; decide), _, _, rfl, rfl, ?_, ?_⟩⟩
    · have := cutS_length ("A1 _=/" : Str) none (some r)
      have e1 : ("A1 _=/" : Str).length = 6 := rfl
      have e2 : ("abz" : Str).length = 3 := rfl
      have z : 200 ≤ sizeLine := by decide
      omega
    obtain ⟨w, ew⟩ : ∃ w, w = ("abz" : Str) ++ cutS "A1 _=/" none (some r) := ⟨_, rfl⟩
    have wlen : 3 ≤ w.length ∧ w.length ≤ 9 := by
      rw [ew, Str.length_append]
      have := cutS_length ("A1 _=/" : Str) none (some r)
      have e1 : ("A1 _=/" : Str).length = 6 := rfl
      have e2 : ("abz" : Str).length = 3 := rfl
      omega
    have wpl : plain w := by
      rw [ew]
      exact plain_app (by decide +kernel) (plain_cut (by decide +kernel))
    have upd1 : (upd H p (.lst [.int g1, .int m1])) p = some (.lst [.int g1, .int m1]) := upd_same
    rw [← ew]
    refine ⟨⟨_, rfl⟩, .ref p, rfl, p, 10, g1, m1, rfl, upd1, by decide, by decide, fun n g2 m2 n0 n1 => ?_⟩
    obtain ⟨H2, eH⟩ : ∃ H2, H2 = upd (upd H p (.lst [.int g1, .int m1])) p (.lst [.int g2, .int m2]) := ⟨_, rfl⟩
    have b2 : But p H H2 := by rw [eH]; exact But.upd.trans But.upd
    have p2 : H2 p = some (.lst [.int g2, .int m2]) := by rw [eH]; exact upd_same
    rw [← eH]
    refine ⟨n, rfl, by omega, by omega, fun D nD => ?_⟩
    have nDp : D ≠ p := fun z => by
      rw [z, p2] at nD
      cases nD
    refine lc_range (lo := 0) (n := n.toNat) (fun i H5 => But p H2 H5 ∧ Pool H5 p ∧ ∃ cs : List Nat, cs.length = i ∧ (∀ c ∈ cs, c ∈ alpha.cps.toList) ∧ H5 D = some (.lst ((cs.map sing).map V.str)))
      ⟨But.of (same_upd nD), ⟨g2, m2, by rw [upd_ne nDp.symm]; exact p2⟩, [], rfl, by simp, upd_same⟩ ?_ ?_
    · rintro i H5 hi ⟨b5, ⟨g5, m5, p5⟩, cs, lc, hc, hD⟩
      refine ⟨rfl, .str w, rfl, .ref p, rfl, .str w, rfl, w, rfl, small (by omega), p, w.length, g5, m5, rfl, p5, by omega, by omega, fun r2 g6 m6 r20 r21 => ?_⟩
      have lt : r2.toNat < w.cps.size := by
        have e : w.length = w.cps.size := rfl
        omega
      obtain ⟨c0, at_⟩ : ∃ c0, w.cps.toList[r2.toNat]? = some c0 := ⟨_, by rw [Array.getElem?_toList]; exact Array.getElem?_eq_getElem lt⟩
      have er : ((r2.toNat : Nat) : Int) = r2 := by omega
      have at2 := atI_nat at_
      rw [er] at at2
      refine ⟨w, r2, c0, rfl, rfl, small (by omega), at2, (cs.map sing).map V.str, ?_, ?_, ?_, ?_, cs ++ [c0], ?_, ?_, ?_⟩
      · rw [upd_ne nDp]
        exact hD
      · have z : 200 ≤ sizeLine := by decide
        rw [List.length_map, List.length_map]
        omega
      · intro c o ne e
        rw [upd_ne (ne_of_none e nD), upd_ne ne]
        exact b5 c o ne e
      · exact ⟨g6, m6, by rw [upd_ne nDp.symm]; exact upd_same⟩
      · rw [List.length_append, lc]
        rfl
      · intro c hc2
        rcases List.mem_append.mp hc2 with z | z
        · exact hc c z
        · rw [List.mem_singleton.mp z]
          exact wpl _ (List.mem_of_getElem? at_)
      · rw [upd_same, List.map_append, List.map_append]
        rfl
    · rintro H5 ⟨b5, p5, cs, lc, hc, hD⟩
      refine ⟨"", D, cs.map sing, rfl, rfl, .inl (.inl (.inl hD)), ?_, ?_⟩
      · have t := total_le (cs.map sing) 1 fun y hy => by
          obtain ⟨c, _, rfl⟩ := List.mem_map.mp hy
          exact Nat.le_refl 1
        rw [List.length_map] at t ⊢
        have e1 : ("" : Str).length = 0 := rfl
        rw [e1]
        omega
      · refine q H5 _ (b2.trans b5) p5 ?_ ?_
        · have e : (Txt.join "" (cs.map sing)).length = (Txt.join "" (cs.map sing)).cps.toList.length := Array.length_toList.symm
          rw [e, join_sing]
          omega
        · intro c hc2
          rw [join_sing] at hc2
          exact hc c hc2
end
end K01

namespace K01
open PySem PySem.Spec PyProof.Rows PySem.ErrX L2
theorem plain_ok {z : Str} (h : plain z) : PyData.strOk z = true := by
  have k : ∀ c ∈ alpha.cps.toList, c < 0x110000 := by decide +kernel
  unfold PyData.strOk
  rw [← Array.all_toList]
  exact List.all_eq_true.mpr fun c hc => decide_eq_true (k c (h c hc))
def okText (z : Str) : Prop := ∀ c ∈ z.cps.toList, c < 0x110000
theorem sing_strOk {c : Nat} (h : c < 0x110000) : PyData.strOk (sing c) = true := by
  unfold PyData.strOk sing
  simp [h]
section
variable {P : Program} {w : World} {K : PySem.W.Frag} {mg : Str → Option Value} {base : Heap}
/-! ### _law_is_made -/
def odd1 (z : Str) : List Str := (z.cps.toList.filter fun c => !decide (c ∈ abc.cps.toList)).map sing
theorem odd_nil (z : Str) : decide (odd1 z = []) = low z := by
  unfold odd1 low
  by_cases h : z.cps.toList.all (fun c => decide (c ∈ abc.cps.toList)) = true
  · rw [h]
    apply decide_eq_true
    rw [List.map_eq_nil_iff, List.filter_eq_nil_iff]
    intro c hc
    have := List.all_eq_true.mp h c hc
    rw [this]
    decide
  · have h' := Bool.eq_false_iff.mpr h
    rw [h']
    apply decide_eq_false
    rw [List.map_eq_nil_iff, List.filter_eq_nil_iff]
    intro q
    refine h (List.all_eq_true.mpr fun c hc => ?_)
    have := q c hc
    cases z : decide (c ∈ abc.cps.toList) with
    | true => rfl
    | false =>
      rw [z] at this
      exact absurd rfl this
def spMade : Sp := fun vs H Q _ => ∃ z, vs = [.str z] ∧ z.length ≤ 1000 ∧ okText z ∧ ∀ H', Same H H' → Q (.bl (low z)) H'
theorem scMade : FnScope ["_law_text", "_law_sign"] ["_law_text"] (defScope sMade) := ⟨rfl, rfl, rfl, by decide +kernel, rfl, by decide +kernel, by decide +kernel⟩
theorem ok_made {f : Addr} {fd : FuncData} (F : Fun K "_law_is_made" "_law_is_made" sMade f fd) : FnOk P w K mg base CX0 1 f fd ["_law_text"] spMade := by
  refine F.ok scMade (fun vs H Q E h => ?_) (fun cdv A outer s H vs Q E hr h => ?_)
  · obtain ⟨z, rfl, _⟩ := h
    rfl
  · obtain ⟨z, rfl, hz, ok, q⟩ := h
    have hu := hr.units
    refine ⟨_, pss_one (ps_ret (pe_cmpR (op_eqD hu) (pe_lc (own := [("_law_sign", 1)]) (g := gName 1) rfl scMade.nd (pi_str (pv 0)) (blkOk_by (N := ["_law_text", "_law_sign"]) (sc := defScope sMade) (by decide +kernel)) (fun _ _ _ _ _ => pg_name (i := 1) scMade.nd rfl (Or.inl rfl)) (fun _ _ _ _ _ => pts_one (pt_cmpR op_notIn_sign (pv 1) pe_str (by rfl)))
      (fun _ _ _ _ _ => pv 1)) (pe_lst pa_nil) (nomark _))), ?_⟩
    refine ⟨.str z, rfl, z, rfl, fun D nD => ?_⟩
    refine lc_it walk_str (fun i H5 => Same H H5 ∧ H5 D = some (.lst ((((z.cps.toList.take i).filter fun c => !decide (c ∈ abc.cps.toList)).map sing).map V.str))) ⟨same_upd nD, upd_same⟩ (fun _ _ _ _ => trivial) ?_ ?_
    · rintro i y H5 H6 hi ⟨s5, hD⟩ ⟨rfl, c, hc, rfl⟩
      have e : z.cps.toList[i]? = some c := by rw [Array.getElem?_toList]; exact hc
      refine ⟨rfl, .str ⟨#[c]⟩, rfl, c, abc, rfl, rfl, _, rfl, ?_⟩
      cases st : decide (c ∈ abc.cps.toList) with
      | true =>
        refine iteF ⟨s5, ?_⟩
        have f1 : ([c].filter fun c => !decide (c ∈ abc.cps.toList)) = [] := by rw [List.filter_cons, st]; rfl
        rw [hD, List.take_add_one, e, List.filter_append, Option.toList_some, f1, List.append_nil]
      | false =>
        refine iteT ⟨_, rfl, _, hD, ?_, fun b o w => ?_, ?_⟩
        · have z1 : 1000 < sizeLine := by decide
          have z2 : z.length = z.cps.size := rfl
          rw [List.length_map, List.length_map]
          refine Nat.lt_of_le_of_lt (List.length_filter_le _ _) ?_
          rw [List.length_take, Array.length_toList]
          omega
        · rw [upd_ne (ne_of_none w nD)]
          exact s5 _ _ w
        · have f1 : ([c].filter fun c => !decide (c ∈ abc.cps.toList)) = [c] := by rw [List.filter_cons, st]; rfl
          rw [upd_same, List.take_add_one, e, List.filter_append, Option.toList_some, f1, List.map_append, List.map_append]
          rfl
    · rintro H5 ⟨s5, hD⟩
      rw [List.take_of_length_le (by rw [Array.length_toList]; exact Nat.le_refl _)] at hD
      refine ⟨Nat.zero_le _, fun p np => ?_⟩
      have s6 := same_upd (o := .lst []) np
      have oks : ∀ x ∈ odd1 z, PyData.strOk x = true := fun x hx => by
        obtain ⟨c, hc, rfl⟩ := List.mem_map.mp hx
        exact sing_strOk (ok c ((List.mem_filter.mp hc).1))
      refine ⟨.list ((odd1 z).map .str), .list (([] : List Str).map .str), .lst (.inl (.inl (s6 _ _ hD))) (strs_dp _), .lst (.inl (.inl upd_same)) (strs_dp []), shaped_strs oks, rfl, ?_⟩
      rw [eqv_strs, odd_nil]
      exact q _ (s5.trans s6)
end
end K01

namespace K01
open PySem PySem.Spec PyProof.Rows PySem.ErrX L2
theorem putK_in {kvs : List (L2.Key × V)} {k : L2.Key} {v : V} (m : k ∈ kvs.map (·.1)) : (putK kvs k v).map (·.1) = kvs.map (·.1) := by
  unfold putK
  obtain ⟨kv, hk, e⟩ := List.mem_map.mp m
  rw [if_pos (List.any_eq_true.mpr ⟨kv, hk, decide_eq_true e⟩), List.map_map]
  apply List.map_congr_left
  intro kv _
  show (if kv.1 = k then (kv.1, v) else kv).1 = kv.1
  by_cases e : kv.1 = k
  · rw [if_pos e]
  · rw [if_neg e]
theorem putK_out {kvs : List (L2.Key × V)} {k : L2.Key} {v : V} (m : k ∉ kvs.map (·.1)) : (putK kvs k v).map (·.1) = kvs.map (·.1) ++ [k] := by
  unfold putK
  have h : ¬ (kvs.any fun kv => decide (kv.1 = k)) = true := fun q => by
    obtain ⟨kv, hk, e⟩ := List.any_eq_true.mp q
    exact m (List.mem_map.mpr ⟨kv, hk, of_decide_eq_true e⟩)
  rw [if_neg h, List.map_append]
  rfl
theorem merge_keys : ∀ (cs : List Nat) (acc : List (L2.Key × V)) (ks : List Str), acc.map (·.1) = ks.map Sum.inr → ks.Nodup →
    ∃ ks' : List Str, (mergeK acc (cs.map fun c => ((Sum.inr (sing c) : L2.Key), V.bl true))).map (·.1) = ks'.map Sum.inr ∧ ks'.Nodup ∧ (∀ k, k ∈ ks' ↔ k ∈ ks ∨ k ∈ cs.map sing) ∧ ks'.length ≤ ks.length + cs.length
  | [], acc, ks, e, nd => ⟨ks, e, nd, fun k => by simp, by simp⟩
  | c :: cs, acc, ks, e, nd => by
    have go : ∃ ks1 : List Str, (putK acc (Sum.inr (sing c)) (V.bl true)).map (·.1) = ks1.map Sum.inr ∧ ks1.Nodup ∧ (∀ k, k ∈ ks1 ↔ k ∈ ks ∨ k = sing c) ∧ ks1.length ≤ ks.length + 1 := by
      by_cases m : sing c ∈ ks
      · refine ⟨ks, ?_, nd, fun k => ⟨.inl, fun z => z.elim id fun y => y ▸ m⟩, by omega⟩
        rw [putK_in (by rw [e]; exact List.mem_map.mpr ⟨_, m, rfl⟩), e]
      · refine ⟨ks ++ [sing c], ?_, ?_, fun k => by simp, by simp⟩
        · rw [putK_out (by rw [e]; exact fun q => by obtain ⟨y, hy, z⟩ := List.mem_map.mp q; exact m (Sum.inr.inj z ▸ hy)), e, List.map_append]
          rfl
        · exact List.nodup_append.mpr ⟨nd, by simp, fun a ha b hb z => by rw [List.mem_singleton.mp hb] at z; exact m (z ▸ ha)⟩
    obtain ⟨ks1, e1, nd1, m1, l1⟩ := go
    obtain ⟨ks', e', nd', m', l'⟩ := merge_keys cs _ ks1 e1 nd1
    refine ⟨ks', e', nd', fun k => ?_, ?_⟩
    · rw [m' k, m1 k, List.map_cons, List.mem_cons]
      constructor
      · rintro ((a | b) | d)
        · exact .inl a
        · exact .inr (.inl b)
        · exact .inr (.inr d)
      · rintro (a | b | d)
        · exact .inl (.inl a)
        · exact .inl (.inr b)
        · exact .inr d
    · rw [List.length_cons]
      omega
theorem boot_dict : bootBuiltins "dict" = some (.type "dict") := by decide +kernel
/-! ### _law_due -/
def dues (x : V) : List V := [.bl (isLine x), .bl (upTo 8 x), .bl (asSigns x), .bl (upTo 3 x)]
theorem dues_off {x : V} (h : isLine x = false) : dues x = [.bl false, .bl false, .bl false, .bl false] := by
  cases x with
  | str z =>
    have h' : low z = false := h
    simp [dues, isLine, upTo, asSigns, h']
  | _ => rfl
def spDue (K : PySem.W.Frag) : Sp := fun vs H Q _ => ∃ x, vs = [x] ∧ Kind K H x ∧ (∀ z, x = .str z → z.length ≤ 60 ∧ okText z) ∧ ∀ p H', Same H H' → H' p = some (.lst (dues x)) → Q (.ref p) H'
section
variable {P : Program} {w : World} {K : PySem.W.Frag} {mg : Str → Option Value} {base : Heap}
theorem scDue : FnScope ["_law_thing", "_law_rising", "_law_sign"] ["_law_thing"] (defScope sDue) := ⟨rfl, rfl, rfl, by decide +kernel, rfl, by decide +kernel, by decide +kernel⟩
theorem ok_due {f fM : Addr} {fd fdM : FuncData} (F : Fun K "_law_due" "_law_due" sDue f fd) (T : Txt mg) (zd : mg "dict" = none) (FM : Fun K "_law_is_made" "_law_is_made" sMade fM fdM) (bM : L2.Binds K fdM ["_law_text"] []) (gM : mg "_law_is_made" = some (.ref fM)) : FnOk P w K mg base CX0 2 f fd ["_law_thing"] (spDue K) := by
  have GM : FnOk P w K mg base CX0 1 fM fdM ["_law_text"] spMade := ok_made FM
  refine F.ok scDue (fun vs H Q E h => ?_) (fun cdv A outer s H vs Q E hr h => ?_)
  · obtain ⟨x, rfl, _⟩ := h
    rfl
  · obtain ⟨x, rfl, k, ok, q⟩ := h
    have hu := hr.units
    refine ⟨_, pss_cons (ps_if (PW.pt (pw_or (pt_not (pt_val (pe_callB call_ofStr (by rfl) T.isi PyProof.Rows.boot_isinstance (pa_cons (pv 0) (pa_cons (pe_ty T.str boot_str) pa_nil))))) (pw_or1 (pt_not (pt_val (pe_call GM hr (by rfl) gM FM.kp bM .nil pass0 (pa_cons (pv 0) pa_nil))))))) (pss_one (ps_ret (pe_lst (pa_cons pe_bl (pa_cons pe_bl (pa_cons pe_bl (pa_cons pe_bl pa_nil))))))) pss_nil)
      (pss_cons (ps_set (i := 1) scDue.nd rfl (.inl rfl) (pe_cmpR (op_eqD hu) (pe_callTy (cr_listTx rfl) (by rfl) T.list boot_list (pa_cons (pv 0) pa_nil)) (pe_callB (call_sortedD rfl) (by rfl) T.sorted boot_sorted (pa_cons (pe_callTy (call_dictP rfl) (by rfl) zd boot_dict (pa_cons (pe_lc (own := [("_law_sign", 2)]) (g := gName 2) (tt := tYes) rfl scDue.nd (pi_str (pv 0)) (blkOk_by (N := ["_law_thing", "_law_rising", "_law_sign"]) (sc := defScope sDue) (by decide +kernel)) (fun _ _ _ _ _ => pg_name (i := 2) scDue.nd rfl (Or.inl rfl)) (fun _ _ _ _ _ => pts_nil)
          (fun _ _ _ _ _ => pe_tup (pa_cons (pv 2) (pa_cons pe_bl pa_nil)))) pa_nil)) pa_nil)) (nomark _)))
      (pss_one (ps_ret (pe_lst (pa_cons pe_bl (pa_cons (pe_chain op_le op_le pe_int (pe_callB call_len_str (by rfl) T.len PySem.boot_len (pa_cons (pv 0) pa_nil)) pe_int) (pa_cons (pe_and (pe_chain op_le op_le pe_int (pe_callB call_len_str (by rfl) T.len PySem.boot_len (pa_cons (pv 0) pa_nil)) pe_int) (pe_one (pv 1))) (pa_cons (pe_chain op_le op_le pe_int (pe_callB call_len_str (by rfl) T.len PySem.boot_len (pa_cons (pv 0) pa_nil)) pe_int) pa_nil)))))))), ?_⟩
    have leave : isLine x = false → ∀ H5, Same H H5 → (4 ≤ sizeLine ∧ ∀ p, H5 p = none → Q (.ref p) (upd H5 p (.lst [.bl false, .bl false, .bl false, .bl false]))) := fun e H5 s5 => by
      refine ⟨by decide, fun p np => q p _ (s5.trans (same_upd np)) ?_⟩
      rw [dues_off e]
      exact upd_same
    refine ⟨x, rfl, x, rfl, k, _, rfl, ?_⟩
    by_cases st : isStr x = true
    case neg =>
      have st' := Bool.eq_false_iff.mpr st
      rw [st']
      have off : isLine x = false := by
        cases x with
        | str z => cases st'
        | _ => rfl
      exact iteT (iteT (leave off H fun _ _ e => e))
    rw [st]
    refine iteF ?_
    obtain ⟨z, rfl⟩ : ∃ z, x = .str z := by
      cases x with
      | str z => exact ⟨z, rfl⟩
      | _ => cases st
    obtain ⟨hz, okz⟩ := ok z rfl
    refine ⟨.str z, rfl, z, rfl, by omega, okz, fun H1 s1 => ⟨_, rfl, ?_⟩⟩
    by_cases lo : low z = true
    case neg =>
      have lo' := Bool.eq_false_iff.mpr lo
      rw [lo']
      exact iteT (leave lo' H1 s1)
    rw [lo]
    refine iteF ?_
    refine ⟨.str z, rfl, z, rfl, small (by omega), fun l nl => ?_⟩
    have sl := same_upd (o := .lst ((signsOf z).map V.str)) nl
    refine ⟨.str z, rfl, z, rfl, fun D nD => ?_⟩
    obtain ⟨H2, eH⟩ : ∃ H2, H2 = upd H1 l (.lst ((signsOf z).map V.str)) := ⟨_, rfl⟩
    have at2 : H2 l = some (.lst ((signsOf z).map V.str)) := by rw [eH]; exact upd_same
    rw [← eH] at sl nD ⊢
    refine lc_it walk_str (fun i H5 => Same H2 H5 ∧ ∃ ts : List Addr, ts.length = i ∧ H5 D = some (.lst (ts.map V.ref)) ∧ Paired (fun t c => H5 t = some (.tup [.str (sing c), .bl true])) ts (z.cps.toList.take i)) ⟨same_upd nD, [], rfl, upd_same, .nil⟩ (fun _ _ _ _ => trivial) ?_ ?_
    · rintro i y H5 H6 hi ⟨s5, ts, lt, hD, hp⟩ ⟨rfl, c, hc, rfl⟩
      have ec : z.cps.toList[i]? = some c := by rw [Array.getElem?_toList]; exact hc
      refine ⟨rfl, .str ⟨#[c]⟩, rfl, (by show 2 ≤ sizeLine; decide), fun t nt => ?_⟩
      have st1 := same_upd (o := .tup [.str (sing c), .bl true]) nt
      have neD : D ≠ t := ne_of_none hD nt
      refine ⟨ts.map V.ref, st1 _ _ hD, ?_, fun b o w => ?_, ts ++ [t], ?_, ?_, ?_⟩
      · have z1 : 1000 < sizeLine := by decide
        have z2 : z.length = z.cps.size := rfl
        rw [List.length_map, lt]
        omega
      · rw [upd_ne (ne_of_none w nD)]
        exact st1 _ _ (s5 _ _ w)
      · rw [List.length_append, lt]
        rfl
      · rw [upd_same, List.map_append]
        rfl
      · rw [List.take_add_one, ec, Option.toList_some]
        have keep : ∀ (t' : Addr) (o : HO), H6 t' = some o → t' ≠ D → upd (upd H6 t (.tup [.str (sing c), .bl true])) D (.lst (ts.map V.ref ++ [.ref t])) t' = some o := fun t' o w n => by
          rw [upd_ne n]
          exact st1 _ _ w
        have app : ∀ (as : List Addr) (bs : List Nat), Paired (fun t c => H6 t = some (.tup [.str (sing c), .bl true])) as bs → Paired (fun t' c' => upd (upd H6 t (.tup [.str (sing c), .bl true])) D (.lst (ts.map V.ref ++ [.ref t])) t' = some (.tup [.str (sing c'), .bl true])) (as ++ [t]) (bs ++ [c]) := fun as bs p => by
          induction p with
          | nil => exact .cons (by rw [upd_ne neD.symm]; exact upd_same) .nil
          | cons r _ ih => exact .cons (keep _ _ r fun z => by rw [z, hD] at r; cases r) ih
        exact app _ _ hp
    · rintro H5 ⟨s5, ts, lt, hD, hp⟩
      rw [List.take_of_length_le (by rw [Array.length_toList]; exact Nat.le_refl _)] at hp
      have kpA : ∀ (as : List Addr) (bs : List Nat), Paired (fun t c => H5 t = some (.tup [.str (sing c), .bl true])) as bs → Paired (fun p (kv : L2.Key × V) => SqT K H5 p [kV kv.1, kv.2]) as (bs.map fun c => ((Sum.inr (sing c) : L2.Key), V.bl true)) := fun as bs r => by
        induction r with
        | nil => exact .nil
        | cons r _ ih => exact .cons (.inl (.inl r)) ih
      have kp := kpA _ _ hp
      obtain ⟨ks, ek, nd, mem, lk⟩ := merge_keys z.cps.toList [] [] rfl List.nodup_nil
      have lz : z.cps.toList.length = z.length := Array.length_toList
      have lk2 : ks.length ≤ 0 + z.cps.toList.length := lk
      refine ⟨D, ts, _, rfl, .inl (.inl hD), kp, fun d nd2 => ⟨d, _, ks, rfl, .inl upd_same, ek, by omega, fun ys e perm so ne => ?_⟩⟩
      have s6 := same_upd (o := .dK (mergeK [] (z.cps.toList.map fun c => ((Sum.inr (sing c) : L2.Key), V.bl true)))) nd2
      have s7 := same_upd (o := .lst (ys.map V.str)) ne
      have m2 : ∀ k, k ∈ ys ↔ k ∈ signsOf z := fun k => by
        rw [perm.mem_iff, mem k]
        exact ⟨fun q => q.elim (fun y => by simp at y) id, .inr⟩
      have ndY : ys.Nodup := perm.nodup_iff.mpr nd
      have oks := signs_ok lo
      refine ⟨.list ((signsOf z).map .str), .list (ys.map .str), .lst (.inl (.inl (s7 _ _ (s6 _ _ (s5 _ _ at2))))) (strs_dp _), .lst (.inl (.inl upd_same)) (strs_dp _), shaped_strs oks, shaped_strs (fun x hx => oks x ((m2 x).1 hx)), ?_⟩
      rw [eqv_strs, signs_eq so ndY m2]
      have sAll : Same H (upd (upd H5 d (.dK (mergeK [] (z.cps.toList.map fun c => ((Sum.inr (sing c) : L2.Key), V.bl true))))) e (.lst (ys.map V.str))) := s1.trans (sl.trans (s5.trans (s6.trans s7)))
      refine lens (n := 8) (by omega) ?_
      refine lens (n := 6) (by omega) ?_
      have low1 : ∀ b : Bool, (low z && b) = b := fun b => by rw [lo, Bool.true_and]
      refine ⟨_, rfl, ite2 (fun e6 => ⟨.bl (rising z), rfl, ?_⟩) (fun e6 => ?_)⟩
      · refine lens (n := 3) (by omega) ⟨(by show 4 ≤ sizeLine; decide), fun p np => q p _ (sAll.trans (same_upd np)) ?_⟩
        have d : dues (.str z) = [.bl true, .bl (decide (1 ≤ z.length) && decide (z.length ≤ 8)), .bl (rising z), .bl (decide (1 ≤ z.length) && decide (z.length ≤ 3))] := by
          show [V.bl (low z), V.bl (low z && _), V.bl (low z && _ && rising z), V.bl (low z && _)] = _
          rw [low1, low1, low1, e6, lo, Bool.true_and]
        rw [upd_same, d]
      · have e6' := Bool.eq_false_iff.mpr e6
        refine lens (n := 3) (by omega) ⟨(by show 4 ≤ sizeLine; decide), fun p np => q p _ (sAll.trans (same_upd np)) ?_⟩
        have d : dues (.str z) = [.bl true, .bl (decide (1 ≤ z.length) && decide (z.length ≤ 8)), .bl false, .bl (decide (1 ≤ z.length) && decide (z.length ≤ 3))] := by
          show [V.bl (low z), V.bl (low z && _), V.bl (low z && _ && rising z), V.bl (low z && _)] = _
          rw [low1, low1, low1, e6', lo, Bool.false_and]
        rw [upd_same, d]
end
end K01

namespace K01
open PySem PySem.Spec PyProof.Rows PySem.ErrX L2
theorem boot_rep : bootBuiltins "repr" = some (.builtin "repr") := by decide +kernel
/-- how the two errors are told apart by the clauses -/
structure Apart (K : PySem.W.Frag) (Cp Ct : Addr) : Prop where
  tt : PySem.W.exmOne K (.ref Ct) (.ref Ct) = some true
  pt : PySem.W.exmOne K (.ref Cp) (.ref Ct) = some false
  pp : PySem.W.exmOne K (.ref Cp) (.ref Cp) = some true
/-- door 1: a value that is no page; door 0: one that tells no page -/
def spTold (K : PySem.W.Frag) : Sp := fun vs H Q _ => ∃ (door : Int) (x : V), vs = [.int door, x] ∧
  ((door = 1 ∧ PageB K H x false ∧ ∃ U, Shw K H x U ∧ (∀ H', Same H H' → Shw K H' x U) ∧ ∀ p H', Same H H' → H' p = some (.lst [.str "page", .str U]) → Q (.ref p) H') ∨
   (door = 0 ∧ Kind K H x ∧ (∀ z, x = .str z → readOf z = none) ∧ ∀ p H', Same H H' → H' p = some (.lst [.str "text", .non]) → Q (.ref p) H'))
section
variable {P : Program} {w : World} {K : PySem.W.Frag} {mg : Str → Option Value} {base : Heap} {Cp Ip Ct It : Addr}
theorem scTold : FnScope ["_law_door", "_law_thing", "e"] ["_law_door", "_law_thing"] (defScope sTold) := ⟨rfl, rfl, rfl, by decide +kernel, rfl, by decide +kernel, by decide +kernel⟩
theorem ok_told {f fR fS : Addr} {fd fdR fdS : FuncData} (F : Fun K "_law_told" "_law_told" sTold f fd) (R : Errs K mg Cp Ip Ct It) (D : Apart K Cp Ct) (zr : mg "repr" = none)
    (FR : Fun K "read_page" "read_page" sRead fR fdR) (GR : FnOk P w K mg base (L2.CX P w) 3 fR fdR ["text"] (spRead K Ct)) (bR : L2.Binds K fdR ["text"] []) (gR : mg "read_page" = some (.ref fR))
    (FS : Fun K "show_page" "show_page" sShow fS fdS) (GS : FnOk P w K mg base (L2.CX P w) 3 fS fdS ["page"] (spShow K Cp)) (bS : L2.Binds K fdS ["page"] []) (gS : mg "show_page" = some (.ref fS)) : FnG P w K mg base CX0 4 f fd ["_law_door", "_law_thing"] (spTold K) := by
  refine F.okG0 scTold (fun vs H Q E h => ?_) (fun cdv A outer s H vs Q E hr hg h => ?_)
  · obtain ⟨door, x, rfl, _⟩ := h
    rfl
  · obtain ⟨door, x, rfl, h⟩ := h
    have hu2 := hr.un
    have hu : (A.deeper (envOfC "_law_told" (defScope sTold) s.heap.objs.size f cdv)).units + 200 < cLine := by omega
    refine ⟨_, pss_one (ps_try_ases (i := 2) (n := "e") (l := [(.ref Ct, fun a cls d => tRet (tLst (tCons (tC (.str "text")) (tCons (tOfErr Ct "at" a cls d (tVar 2)) tNil)))), (.ref Cp, fun a cls d => tRet (tLst (tCons (tC (.str "page")) (tCons (tCB (rShw K) (tCons (tOfErr Cp "value" a cls d (tVar 2)) tNil)) tNil))))])
        (tb := fun W => tRet (tIf (tTest (tOp rEq (tVar 0) (tC (.int 0)))) (tCallS (spRead K Ct) (WE W) (tCons (tVar 1) tNil)) (tCallS (spShow K Cp) (WE W) (tCons (tVar 1) tNil)))) (Wout := fun _ _ _ _ => False) rfl rfl scTold.nd rfl rfl takes0
        (fun W pn xe tk _ => pss_one (ps_ret (pe_ifExp (pt_cmpR op_eq (pv 0) pe_int (nomark _)) (pe_callS GR hr rfl gR FR.kp bR (fun σ => passAt tk σ) (by exact (pa_cons (pv 1) pa_nil))) (pe_callS GS hr rfl gS FS.kp bS (fun σ => passAt tk σ) (by exact (pa_cons (pv 1) pa_nil))))))
        (.cons ⟨rfl, by decide, .inl R.text.gC⟩ (fun a oe cls d pn hz hf => pss_one (ps_ret (pe_lst (pa_cons pe_str (pa_cons (pe_ofErr R.text hz hf (pv 2)) pa_nil)))))
          (.cons ⟨rfl, by decide, .inl R.page.gC⟩ (fun a oe cls d pn hz hf => pss_one (ps_ret (pe_lst (pa_cons pe_str (pa_cons (pe_callB (call_repr_at (K := K) rfl hg hu) (by rfl) zr boot_rep (pa_cons (pe_ofErr R.page hz hf (pv 2)) pa_nil)) pa_nil))))) .nil))), ?_⟩
    rcases h with ⟨rfl, pb, U, sh, shs, q⟩ | ⟨rfl, k, off, q⟩
    · refine ⟨_, rfl, rfl, _, rfl, iteF ?_⟩
      refine ⟨x, rfl, x, false, rfl, pb, (fun z => nomatch z), fun _ H1 d s1 nd => ?_⟩
      have s2 := same_upd (o := .xd [(("value" : Str), x)]) nd
      refine ⟨false, D.pt, fun z => Bool.noConfusion z, fun _ => ⟨true, D.pp, fun _ a na => ?_, fun z => Bool.noConfusion z⟩⟩
      exact ⟨.ref a, rfl, rfl, rfl, d, x, rfl, upd_same, x, U, rfl, shs _ (s1.trans s2), (by show 2 ≤ sizeLine; decide), fun p np => q p _ (s1.trans (s2.trans (same_upd np))) upd_same⟩
    · refine ⟨_, rfl, rfl, _, rfl, iteT ?_⟩
      have out : ∀ H1 d, Same H H1 → H1 d = none → WE (wAses K 2 (fun _ _ _ _ => False) { nx := fun _ H' => Q .non H', rt := Q }
          [(.ref Ct, fun a cls d => tRet (tLst (tCons (tC (.str "text")) (tCons (tOfErr Ct "at" a cls d (tVar 2)) tNil)))), (.ref Cp, fun a cls d => tRet (tLst (tCons (tC (.str "page")) (tCons (tCB (rShw K) (tCons (tOfErr Cp "value" a cls d (tVar 2)) tNil)) tNil))))])
          [some (.int 0), some x, none] (.ref Ct) (some d) (upd H1 d (.xd [(("at" : Str), .non)])) := fun H1 d s1 nd => by
        have s2 := same_upd (o := .xd [(("at" : Str), .non)]) nd
        refine ⟨true, D.tt, fun _ a na => ?_, fun z => Bool.noConfusion z⟩
        exact ⟨.ref a, rfl, rfl, rfl, d, .non, rfl, upd_same, (by show 2 ≤ sizeLine; decide), fun p np => q p _ (s1.trans (s2.trans (same_upd np))) upd_same⟩
      exact ⟨x, rfl, x, rfl, k, fun z e => ⟨fun ls r => (by rw [off z e] at r; cases r), fun _ => out⟩, fun _ => out⟩
end
end K01

namespace K01
open PySem PySem.Spec PyProof.Rows PySem.ErrX L2
/-! ### the pages that the law draws: at most three lines, each a beginning of 'abz' -/
def pre (k : Nat) : Str := cutS "abz" none (some (k : Int))
def combos : List (List Nat) := [[]] ++ (List.range 4).map (fun a => [a]) ++ ((List.range 4).map fun a => (List.range 4).map fun b => [a, b]).flatten ++ ((List.range 4).map fun a => ((List.range 4).map fun b => (List.range 4).map fun c => [a, b, c]).flatten).flatten
theorem in_combos : ∀ ks : List Nat, ks.length ≤ 3 → (∀ k ∈ ks, k < 4) → ks ∈ combos
  | [], _, _ => by decide +kernel
  | [a], _, h => by
    have f : ∀ a, a < 4 → [a] ∈ combos := by decide +kernel
    exact f a (h a (by simp))
  | [a, b], _, h => by
    have f : ∀ a, a < 4 → ∀ b, b < 4 → [a, b] ∈ combos := by decide +kernel
    exact f a (h a (by simp)) b (h b (by simp))
  | [a, b, c], _, h => by
    have f : ∀ a, a < 4 → ∀ b, b < 4 → ∀ c, c < 4 → [a, b, c] ∈ combos := by decide +kernel
    exact f a (h a (by simp)) b (h b (by simp)) c (h c (by simp))
  | a :: b :: c :: d :: r, l, _ => by simp at l
def zsOf (ks : List Nat) : List Str := ks.map pre
/-- what is asked of data that repr shows -/
def fine (d : PyData) : Bool := d.showable && !d.hasDict && decide (d.depth ≤ 64) && decide (d.shown.length ≤ 1000)
theorem fine_shw {K : PySem.W.Frag} {H : Hp} {a : Addr} {d : PyData} (h : fine d = true) (hd : Dp K H (.ref a) d) : Shw K H (.ref a) d.shown := by
  unfold fine at h
  rw [Bool.and_eq_true, Bool.and_eq_true, Bool.and_eq_true] at h
  obtain ⟨⟨⟨h1, h2⟩, h3⟩, h4⟩ := h
  refine .seq a d hd h1 ?_ (of_decide_eq_true h3) (small (of_decide_eq_true h4))
  cases q : d.hasDict with
  | false => rfl
  | true =>
    rw [q] at h2
    cases h2
theorem c_back : ∀ ks ∈ combos, readOf (shown (zsOf ks)) = some (zsOf ks) := by decide +kernel
theorem c_slash : ∀ ks ∈ combos, readOf (shown (zsOf ks) ++ "/") = none := by decide +kernel
theorem c_low : ∀ ks ∈ combos, (zsOf ks).all (fun z => low z && decide (z.length ≤ 3)) = true := by decide +kernel
theorem c_len : ∀ ks ∈ combos, (shown (zsOf ks)).length ≤ 50 := by decide +kernel
theorem c_list : ∀ ks ∈ combos, fine (.list ((zsOf ks).map .str)) = true := by decide +kernel
theorem c_tupA : ∀ ks ∈ combos, fine (.tuple ((zsOf ks).map .str ++ [.str "A"])) = true := by decide +kernel
theorem c_tupN : ∀ ks ∈ combos, fine (.tuple ((zsOf ks).map .str ++ [.none])) = true := by decide +kernel
theorem c_tup1 : ∀ ks ∈ combos, fine (.tuple ((zsOf ks).map .str ++ [.int 1])) = true := by decide +kernel
theorem odds_none : ∀ z ∈ (["a", "ab/=a", "=A", "=a /=b", "", "--", "-/=a", "=a=b", " -"] : List Str), readOf z = none := by decide +kernel
theorem read_dash : readOf "-" = some [] := by decide +kernel
end K01

namespace K01
open PySem PySem.Spec PyProof.Rows PySem.ErrX L2
def spLaw (K : PySem.W.Frag) : Sp := fun vs H Q _ => ∃ (a : Addr) (ns : List Int), vs = [.ref a] ∧ SqL K H a (ns.map V.int) ∧ ns.length ≤ 63 ∧ ∀ H', Q (.bl true) H'
abbrev lawN : List Str := ["_law_script", "_law_k", "_law_pool_here", "_law_text", "_law_things", "_law_thing", "_law_due_here", "_law_page", "_law_shown", "_law_odds", "_law_odd", "_law_line", "_law_turn"]
structure Own (mg : Str → Option Value) : Prop where
  range : mg "range" = none
  max : mg "max" = none
  min : mg "min" = none
  repr : mg "repr" = none
  dict : mg "dict" = none
theorem boot_max : bootBuiltins "max" = some (.builtin "max") := by decide +kernel
theorem boot_min : bootBuiltins "min" = some (.builtin "min") := by decide +kernel
/-! ### pieces of the law -/
theorem eqv_tups : ∀ as bs : List Str, PyData.eqv (.tuple (as.map .str)) (.tuple (bs.map .str)) = decide (as = bs) := fun as bs => by
  rw [← eqv_strs as bs]
  simp [PyData.eqv]
theorem shaped_tups {xs : List Str} (h : ∀ x ∈ xs, PyData.strOk x = true) : SeqAt.shaped (.tuple (xs.map .str)) = true := by
  unfold SeqAt.shaped
  have e : (PyData.tuple (xs.map .str)).canLay0 = true := lay_strs xs h
  rw [e]
  simp [PyData.depth, depth_strs xs]
theorem low_ok {z : Str} (h : low z = true) : PyData.strOk z = true := by
  have k : ∀ c ∈ abc.cps.toList, c < 0x110000 := by decide +kernel
  unfold PyData.strOk
  rw [← Array.all_toList]
  exact List.all_eq_true.mpr fun c hc => decide_eq_true (k c (of_decide_eq_true (List.all_eq_true.mp h c hc)))
theorem but_same {H H1 H2 : Hp} {p : Addr} (s : Same H H1) (n : H p = none) (b : But p H1 H2) : Same H H2 := fun c o e => b c o (fun z => by rw [z, n] at e; cases e) (s c o e)
/-- the page's text, written by the law itself -/
theorem t_shown {K : PySem.W.Frag} {t : Addr} {zs : List Str} {H : Hp} {Q : VK} {y0 y1 y2 y3 y4 y5 y6 y8 y9 y10 y11 y12 : Option V} (ht : H t = some (.tup (zs.map V.str))) (few : zs.length ≤ 1000) (short : ∀ z ∈ zs, z.length ≤ 1000 ∧ PyData.strOk z = true) (q : ∀ H', Same H H' → Q (.str (shown zs)) H') :
    tIf (tTest (tOp (rNeD K) (tVar 7) (tTup tNil))) (tM1 (fun x xs H Q => ∃ a p, ∃ ys : List Str, x = .str a ∧ xs = [.ref p] ∧ (SqL K H p (ys.map V.str) ∨ SqT K H p (ys.map V.str)) ∧ (ys.map (·.length)).sum + ys.length * a.length ≤ 16777216 ∧ Q (.str (Txt.join a ys)) H) (tC (.str "/")) (tLc (iTup K (tVar 7)) (gName 11) tYes (tOp (fun x y H Q => ∃ i j, x = .str i ∧ y = .str j ∧ i.length + j.length ≤ sizeLine ∧ Q (.str (i ++ j)) H) (tC (.str "=")) (tVar 11)) [11])) (tC (.str "-"))
      [y0, y1, y2, y3, y4, y5, y6, some (.ref t), y8, y9, y10, y11, y12] H Q := by
  refine ⟨.ref t, rfl, (by show 0 ≤ sizeLine; decide), fun e ne => ?_⟩
  have se := same_upd (o := .tup []) ne
  refine ⟨.tuple (zs.map .str), .tuple (([] : List Str).map .str), .tup (.inl (.inl (se _ _ ht))) (strs_dp _), .tup (.inl (.inl upd_same)) (strs_dp []), shaped_tups (fun x hx => (short x hx).2), rfl, _, rfl, ?_⟩
  rw [eqv_tups]
  by_cases n0 : zs = []
  · rw [decide_eq_true n0]
    refine iteF ?_
    have z := q _ se
    unfold shown at z
    rw [if_pos n0] at z
    exact z
  · rw [decide_eq_false n0]
    refine iteT ⟨⟨_, rfl⟩, .ref t, rfl, t, rfl, ⟨_, .inl (.inl (se _ _ ht))⟩, fun D nD => ?_⟩
    refine lc_it (walk_tup (K := K) (a := t) (xs := zs.map V.str)) (fun i H5 => Same H H5 ∧ H5 D = some (.lst ((zs.take i).map fun z => .str (("=" : Str) ++ z)))) ⟨se.trans (same_upd nD), upd_same⟩ (fun _ H5 _ z => .inl (.inl (z.1 _ _ ht))) ?_ ?_
    · rintro i y H5 H6 hi ⟨s5, hD⟩ ⟨rfl, hy⟩
      rw [List.length_map] at hi
      rw [List.getElem?_map, List.getElem?_eq_getElem hi] at hy
      cases (Option.some.inj hy)
      have sh := (short _ (List.getElem_mem hi)).1
      refine ⟨rfl, _, rfl, _, _, rfl, rfl, ?_, _, hD, ?_, fun c o w => ?_, ?_⟩
      · have z1 : 2000 ≤ sizeLine := by decide
        have z2 : ("=" : Str).length = 1 := rfl
        omega
      · have z1 : 1000 < sizeLine := by decide
        rw [List.length_map, List.length_take]
        omega
      · have nc : c ≠ D := fun z => by
          have w2 := se _ _ w
          rw [z, nD] at w2
          cases w2
        rw [upd_ne nc]
        exact s5 _ _ w
      · rw [upd_same, List.take_add_one, List.getElem?_eq_getElem hi, List.map_append]
        rfl
    · rintro H5 ⟨s5, hD⟩
      rw [List.length_map, List.take_length] at hD
      refine ⟨"/", D, zs.map (fun z => ("=" : Str) ++ z), rfl, rfl, .inl (.inl (.inl (by rw [hD, List.map_map]; rfl))), ?_, ?_⟩
      · have t := total_le (zs.map fun z => ("=" : Str) ++ z) 1001 fun y hy => by
          obtain ⟨z, hz, rfl⟩ := List.mem_map.mp hy
          rw [len_mark]
          have := (short z hz).1
          omega
        rw [List.length_map] at t ⊢
        have e1 : ("/" : Str).length = 1 := rfl
        rw [e1]
        have e2 : zs.length * 1001 ≤ 1000 * 1001 := Nat.mul_le_mul_right _ few
        omega
      · have z := q _ s5
        unfold shown at z
        rw [if_neg n0] at z
        exact z
theorem bools_shaped (a b c d : Bool) : SeqAt.shaped (.list [.bool a, .bool b, .bool c, .bool d]) = true := rfl
theorem bools_same (a b c d : Bool) : PyData.eqv (.list [.bool a, .bool b, .bool c, .bool d]) (.list [.bool a, .bool b, .bool c, .bool d]) = true := SeqAt.eqv_refl _ rfl
/-- what a thing of the first loop must be -/
def Thing (K : PySem.W.Frag) (H : Hp) (x : V) : Prop := Kind K H x ∧ ∀ z, x = .str z → z.length ≤ 60 ∧ okText z
theorem Thing.str {K : PySem.W.Frag} {H : Hp} {z : Str} (h1 : z.length ≤ 60) (h2 : okText z) : Thing K H (.str z) := ⟨.str z (by omega), fun y e => by cases e; exact ⟨h1, h2⟩⟩
theorem Thing.of {K : PySem.W.Frag} {H : Hp} {x : V} (k : Kind K H x) (h : isStr x = false) : Thing K H x := ⟨k, fun y e => by subst e; cases h⟩
/-- what an odd of the last loop must be -/
def Odd (K : PySem.W.Frag) (H : Hp) (x : V) : Prop := Kind K H x ∧ ∀ z, x = .str z → readOf z = none
/-- what a thing of the loop over no pages must be -/
def NoPage (K : PySem.W.Frag) (H : Hp) (x : V) : Prop := PageB K H x false ∧ ∃ U, PyData.strOk U = true ∧ ∀ H', Same H H' → Shw K H' x U
theorem noPage_off {K : PySem.W.Frag} {H : Hp} {x : V} (k : Kind K H x) (h : ∀ a xs, x = .ref a → H a ≠ some (.tup xs)) : PageB K H x false := ⟨k, fun a xs e1 e2 => absurd e2 (h a xs e1), fun _ => rfl⟩
theorem noPage_tup {K : PySem.W.Frag} {H : Hp} {a : Addr} {xs : List V} (h : H a = some (.tup xs)) (few : xs.length ≤ 1000) (kinds : ∀ y ∈ xs, Kind K H y) (b : lines xs = false) : PageB K H (.ref a) false :=
  ⟨.tup a xs h, fun c ys e1 e2 => by cases e1; rw [h] at e2; cases e2; exact ⟨few, kinds, b.symm⟩, fun _ => rfl⟩
theorem pageB_same {K : PySem.W.Frag} {H H' : Hp} {x : V} {b : Bool} (s : Same H H') (p : PageB K H x b) : PageB K H' x b := by
  refine ⟨p.1.same s, fun a xs e1 e2 => ?_, fun off => p.2.2 fun a xs e1 e2 => off a xs e1 (s _ _ e2)⟩
  have back : H a = some (.tup xs) := by
    subst e1
    have k := p.1
    cases k with
    | tup _ ys e => rw [s _ _ e] at e2; cases e2; exact e
    | lst _ ys e => rw [s _ _ e] at e2; cases e2
    | dct _ ys e => rw [s _ _ e] at e2; cases e2
  exact ⟨(p.2.1 a xs e1 back).1, fun y hy => ((p.2.1 a xs e1 back).2.1 y hy).same s, (p.2.1 a xs e1 back).2.2⟩
theorem dues_bools (x : V) : ∃ a b c d : Bool, dues x = [.bl a, .bl b, .bl c, .bl d] := ⟨_, _, _, _, rfl⟩
theorem bools_dp {K : PySem.W.Frag} {H : Hp} {p : Addr} {a b c d : Bool} (h : SqL K H p [.bl a, .bl b, .bl c, .bl d]) : Dp K H (.ref p) (.list [.bool a, .bool b, .bool c, .bool d]) := .lst h (.cons (.bl _) (.cons (.bl _) (.cons (.bl _) (.cons (.bl _) .nil))))
theorem c_things : ∀ z ∈ (["abcdef", "abcdefg", "ba", "aa", "", "abcdefgh", "abcdefghi", "abc", "abcd"] : List Str), z.length ≤ 60 ∧ ∀ c ∈ z.cps.toList, c < 0x110000 := by decide +kernel
theorem plain_text {z : Str} (h : plain z) : okText z := fun c hc => by
  have k : ∀ c ∈ alpha.cps.toList, c < 0x110000 := by decide +kernel
  exact k c (h c hc)
/-- the law's first test: what the four functions tell of a thing is what is due -/
theorem t_thing {K : PySem.W.Frag} {x : V} {H : Hp} {D : Ends} {y0 y1 y2 y3 y4 y6 y7 y8 y9 y10 y11 y12 : Option V} (t : Thing K H x) (h : ∀ p H', Same H H' → D.nx [y0, y1, y2, y3, y4, some x, some (.ref p), y7, y8, y9, y10, y11, y12] H') :
    tSeq (tAsg (tCall (spDue K) [] E0 (tCons (tVar 5) tNil)) (gName 6)) (tIfS (tTest (tOp (rNeD K) (tLst (tCons (tCall (spLine K) [] E0 (tCons (tVar 5) tNil)) (tCons (tCall (spUpTo K 8) [] E0 (tCons (tVar 5) tNil)) (tCons (tCall (spSigns K) [] E0 (tCons (tVar 5) tNil)) (tCons (tCall (spUpTo K 3) [] E0 (tCons (tVar 5) tNil)) tNil))))) (tVar 6))) (tRet (tC (.bl false))) tNext)
      D [y0, y1, y2, y3, y4, some x, y6, y7, y8, y9, y10, y11, y12] H := by
  refine ⟨x, rfl, x, rfl, t.1, t.2, fun p H1 s1 hp => ?_⟩
  refine ⟨x, rfl, x, rfl, t.1.same s1, fun H2 s2 => ?_⟩
  refine ⟨x, rfl, x, rfl, t.1.same (s1.trans s2), fun H3 s3 => ?_⟩
  refine ⟨x, rfl, x, rfl, t.1.same (s1.trans (s2.trans s3)), fun H4 s4 => ?_⟩
  refine ⟨x, rfl, x, rfl, t.1.same (s1.trans (s2.trans (s3.trans s4))), fun H5 s5 => ?_⟩
  refine ⟨(by show 4 ≤ sizeLine; decide), fun l nl => ?_⟩
  have sl := same_upd (o := .lst [.bl (isLine x), .bl (upTo 8 x), .bl (asSigns x), .bl (upTo 3 x)]) nl
  refine ⟨.ref p, rfl, _, _, bools_dp (.inl (.inl upd_same)), bools_dp (.inl (.inl (sl _ _ (s5 _ _ (s4 _ _ (s3 _ _ (s2 _ _ hp))))))), bools_shaped _ _ _ _, bools_shaped _ _ _ _, _, rfl, ?_⟩
  rw [bools_same]
  exact h p _ (s1.trans (s2.trans (s3.trans (s4.trans (s5.trans sl)))))
theorem two_shaped {a b : PyData} (h : SeqAt.shaped (.list [a, b]) = true) : PyData.eqv (.list [a, b]) (.list [a, b]) = true := SeqAt.eqv_refl _ (by
  unfold SeqAt.shaped at h
  rw [Bool.and_eq_true] at h
  exact h.1)
theorem page_shaped {U : Str} (h : PyData.strOk U = true) : SeqAt.shaped (.list [.str "page", .str U]) = true := by
  unfold SeqAt.shaped
  have e : (PyData.list [.str "page", .str U]).canLay0 = true := by
    have z : PyData.strOk "page" = true := by decide +kernel
    simp [PyData.canLay0, PyData.canLayAll0, h, z]
  rw [e]
  simp [PyData.depth, PyData.depthAll]
theorem cat_one {K : PySem.W.Frag} {a b : Addr} {xs : List V} {y : V} {H : Hp} {Q : VK} (ha : H a = some (.tup xs)) (hb : H b = some (.tup [y])) (few : xs.length ≤ 999) (q : ∀ c H', Same H H' → H' c = some (.tup (xs ++ [y])) → Q (.ref c) H') : rCatA K (.ref a) (.ref b) H Q := by
  refine ⟨a, b, xs, [y], rfl, rfl, .inl (.inl ha), .inl (.inl hb), small (n := xs.length + 1) (by omega), fun e => ?_, fun _ e => (nomatch e), fun _ _ p np => q p _ (same_upd np) upd_same⟩
  · subst e
    exact q b H (fun _ _ e => e) hb
def fineU (d : PyData) : Bool := fine d && PyData.strOk d.shown
theorem f_list : ∀ ks ∈ combos, fineU (.list ((zsOf ks).map .str)) = true := by decide +kernel
theorem f_tupA : ∀ ks ∈ combos, fineU (.tuple ((zsOf ks).map .str ++ [.str "A"])) = true := by decide +kernel
theorem f_tupN : ∀ ks ∈ combos, fineU (.tuple ((zsOf ks).map .str ++ [.none])) = true := by decide +kernel
theorem f_tup1 : ∀ ks ∈ combos, fineU (.tuple ((zsOf ks).map .str ++ [.int 1])) = true := by decide +kernel
theorem noPage_seq {K : PySem.W.Frag} {H : Hp} {a : Addr} {d : PyData} (b : PageB K H (.ref a) false) (f : fineU d = true) (hd : ∀ H', Same H H' → Dp K H' (.ref a) d) : NoPage K H (.ref a) := by
  unfold fineU at f
  rw [Bool.and_eq_true] at f
  exact ⟨b, d.shown, f.2, fun H' s => fine_shw f.1 (hd H' s)⟩
theorem strs_snoc {K : PySem.W.Frag} {H : Hp} {y : V} {e : PyData} (hy : Dp K H y e) : ∀ zs : List Str, DpAll K H (zs.map V.str ++ [y]) (zs.map .str ++ [e])
  | [] => .cons hy .nil
  | _ :: zs => .cons (.str _) (strs_snoc hy zs)
theorem noPage_cat {K : PySem.W.Frag} {H : Hp} {a : Addr} {zs : List Str} {y : V} {e : PyData} (h : H a = some (.tup (zs.map V.str ++ [y]))) (few : zs.length ≤ 3) (short : ∀ z ∈ zs, z.length ≤ 1000) (ky : Kind K H y) (ny : isLine y = false) (f : fineU (.tuple (zs.map .str ++ [e])) = true) (he : ∀ H', Same H H' → Dp K H' y e) : NoPage K H (.ref a) := by
  refine noPage_seq (noPage_tup h ?_ ?_ ?_) f fun H' s => .tup (.inl (.inl (s _ _ h))) (strs_snoc (he H' s) zs)
  · rw [List.length_append, List.length_map]
    show zs.length + 1 ≤ 1000
    omega
  · intro x hx
    rcases List.mem_append.mp hx with z | z
    · obtain ⟨w, hw, rfl⟩ := List.mem_map.mp z
      exact .str w (short w hw)
    · rw [List.mem_singleton.mp z]
      exact ky
  · unfold lines
    rw [List.all_append, List.all_cons, ny, Bool.false_and, Bool.and_false]
/-- no page is told to be one, and is shown back in the error -/
theorem t_nopage {K : PySem.W.Frag} {x : V} {H : Hp} {D : Ends} {y0 y1 y2 y3 y4 y6 y7 y8 y9 y10 y11 y12 : Option V} (t : NoPage K H x) (h : ∀ H', Same H H' → D.nx [y0, y1, y2, y3, y4, some x, y6, y7, y8, y9, y10, y11, y12] H') :
    tIfS (tOr (tB (tCall (spIsPage K) [] E0 (tCons (tVar 5) tNil))) (tTest (tOp (rNeD K) (tCall (spTold K) [] E0 (tCons (tC (.int 1)) (tCons (tVar 5) tNil))) (tLst (tCons (tC (.str "page")) (tCons (tCB (rShw K) (tCons (tVar 5) tNil)) tNil)))))) (tRet (tC (.bl false))) tNext
      D [y0, y1, y2, y3, y4, some x, y6, y7, y8, y9, y10, y11, y12] H := by
  obtain ⟨pb, U, okU, shs⟩ := t
  refine ⟨x, rfl, x, false, rfl, pb, fun H1 s1 => ⟨_, rfl, iteF ?_⟩⟩
  refine ⟨x, rfl, 1, x, rfl, .inl ⟨rfl, pageB_same s1 pb, U, shs _ s1, fun H2 s2 => shs _ (s1.trans s2), fun p H2 s2 hp => ?_⟩⟩
  refine ⟨x, rfl, x, U, rfl, shs _ (s1.trans s2), (by show 2 ≤ sizeLine; decide), fun l nl => ?_⟩
  have sl := same_upd (o := .lst [.str "page", .str U]) nl
  refine ⟨.list [.str "page", .str U], .list [.str "page", .str U], .lst (.inl (.inl (sl _ _ hp))) (.cons (.str _) (.cons (.str _) .nil)), .lst (.inl (.inl upd_same)) (.cons (.str _) (.cons (.str _) .nil)), page_shaped okU, page_shaped okU, _, rfl, ?_⟩
  rw [two_shaped (page_shaped okU)]
  exact h _ (s1.trans (s2.trans sl))
/-- an odd thing tells no page -/
theorem t_odd {K : PySem.W.Frag} {x : V} {H : Hp} {D : Ends} {y0 y1 y2 y3 y4 y5 y6 y7 y8 y9 y11 y12 : Option V} (t : Odd K H x) (h : ∀ H', Same H H' → D.nx [y0, y1, y2, y3, y4, y5, y6, y7, y8, y9, some x, y11, y12] H') :
    tIfS (tTest (tOp (rNeD K) (tCall (spTold K) [] E0 (tCons (tC (.int 0)) (tCons (tVar 10) tNil))) (tLst (tCons (tC (.str "text")) (tCons (tC .non) tNil))))) (tRet (tC (.bl false))) tNext
      D [y0, y1, y2, y3, y4, y5, y6, y7, y8, y9, some x, y11, y12] H := by
  refine ⟨x, rfl, 0, x, rfl, .inr ⟨rfl, t.1, t.2, fun p H2 s2 hp => ?_⟩⟩
  refine ⟨(by show 2 ≤ sizeLine; decide), fun l nl => ?_⟩
  have sl := same_upd (o := .lst [.str "text", .non]) nl
  refine ⟨.list [.str "text", .none], .list [.str "text", .none], .lst (.inl (.inl (sl _ _ hp))) (.cons (.str _) (.cons .non .nil)), .lst (.inl (.inl upd_same)) (.cons (.str _) (.cons .non .nil)), by decide +kernel, by decide +kernel, _, rfl, ?_⟩
  have e : PyData.eqv (.list [.str "text", .none]) (.list [.str "text", .none]) = true := by decide +kernel
  rw [e]
  exact h _ (s2.trans sl)
section
variable {P : Program} {w : World} {K : PySem.W.Frag} {mg : Str → Option Value} {base : Heap} {Cp Ip Ct It : Addr}
theorem scL : FnScope lawN ["_law_script"] (defScope sLaw) := ⟨rfl, rfl, rfl, by decide +kernel, rfl, by decide +kernel, by decide +kernel⟩
theorem ok_law {f fL fN fG fS fW fH fR fO fD fT fM fU fX : Addr} {fd fdL fdN fdG fdS fdW fdH fdR fdO fdD fdT fdM fdU fdX : FuncData} (F : Fun K "law" "law" sLaw f fd) (T : Txt mg) (R : Errs K mg Cp Ip Ct It) (A1 : Apart K Cp Ct) (B : Blt mg) (O : Own mg)
    (FL : Fun K "is_line" "is_line" sLine fL fdL) (bL : L2.Binds K fdL ["value"] []) (gL : mg "is_line" = some (.ref fL))
    (FN : Fun K "is_name" "is_name" sName fN fdN) (bN : L2.Binds K fdN ["value"] []) (gN : mg "is_name" = some (.ref fN))
    (FG : Fun K "is_page" "is_page" sPage fG fdG) (bG : L2.Binds K fdG ["value"] []) (gG : mg "is_page" = some (.ref fG))
    (FS : Fun K "is_signs" "is_signs" sSigns fS fdS) (bS : L2.Binds K fdS ["value"] []) (gS : mg "is_signs" = some (.ref fS))
    (FW : Fun K "is_word" "is_word" sWord fW fdW) (bW : L2.Binds K fdW ["value"] []) (gW : mg "is_word" = some (.ref fW))
    (FH : Fun K "show_page" "show_page" sShow fH fdH) (bH : L2.Binds K fdH ["page"] []) (gH : mg "show_page" = some (.ref fH))
    (FR : Fun K "read_page" "read_page" sRead fR fdR) (bR : L2.Binds K fdR ["text"] []) (gR : mg "read_page" = some (.ref fR))
    (FO : Fun K "_law_pool" "_law_pool" sPool fO fdO) (bO : L2.Binds K fdO ["_law_script", "_law_k"] []) (gO : mg "_law_pool" = some (.ref fO))
    (FD : Fun K "_law_draw" "_law_draw" sDraw fD fdD) (bD : L2.Binds K fdD ["_law_pool_here", "_law_many"] []) (gD : mg "_law_draw" = some (.ref fD))
    (FT : Fun K "_law_some_text" "_law_some_text" sSome fT fdT) (bT : L2.Binds K fdT ["_law_pool_here"] []) (gT : mg "_law_some_text" = some (.ref fT))
    (FM : Fun K "_law_is_made" "_law_is_made" sMade fM fdM) (bM : L2.Binds K fdM ["_law_text"] []) (gM : mg "_law_is_made" = some (.ref fM))
    (FU : Fun K "_law_due" "_law_due" sDue fU fdU) (bU : L2.Binds K fdU ["_law_thing"] []) (gU : mg "_law_due" = some (.ref fU))
    (FX : Fun K "_law_told" "_law_told" sTold fX fdX) (bX : L2.Binds K fdX ["_law_door", "_law_thing"] []) (gX : mg "_law_told" = some (.ref fX)) : FnG P w K mg base CX0 6 f fd ["_law_script"] (spLaw K) := by
  have GL : FnOk P w K mg base CX0 1 fL fdL ["value"] (spLine K) := ok_line FL T
  have GN : FnOk P w K mg base CX0 2 fN fdN ["value"] (spUpTo K 8) := ok_name FN T FL bL gL
  have GG : FnOk P w K mg base CX0 2 fG fdG ["value"] (spIsPage K) := ok_isPage (ok_page FG T FL bL gL)
  have GS : FnOk P w K mg base CX0 2 fS fdS ["value"] (spSigns K) := ok_signs FS T FL bL gL
  have GW : FnOk P w K mg base CX0 2 fW fdW ["value"] (spUpTo K 3) := ok_word FW T FL bL gL
  have GH : FnOk P w K mg base (L2.CX P w) 3 fH fdH ["page"] (spShow K Cp) := ok_show FH T R FL bL gL FG bG gG
  have GR : FnOk P w K mg base (L2.CX P w) 3 fR fdR ["text"] (spRead K Ct) := ok_read FR T R FL bL gL
  have GO : FnOk P w K mg base CX0 1 fO fdO ["_law_script", "_law_k"] (spPool K) := ok_pool FO B
  have GD : FnOk P w K mg base CX0 1 fD fdD ["_law_pool_here", "_law_many"] spDraw := ok_draw FD B
  have GT : FnOk P w K mg base CX0 2 fT fdT ["_law_pool_here"] spSome := ok_some FT B O.range FD bD gD
  have GU : FnOk P w K mg base CX0 2 fU fdU ["_law_thing"] (spDue K) := ok_due FU T O.dict FM bM gM
  have GX : FnG P w K mg base CX0 4 fX fdX ["_law_door", "_law_thing"] (spTold K) := ok_told FX R A1 O.repr FR GR bR gR FH GH bH gH
  refine F.okG0 scL (fun vs H Q E h => ?_) (fun cdv A outer s H vs Q E hr hg h => ?_)
  · obtain ⟨a, ns, rfl, _⟩ := h
    rfl
  · obtain ⟨a, ns, rfl, hS, hlen, q⟩ := h
    have h1 : Room 1 _ := hr.mono (by decide)
    have h2 : Room 2 _ := hr.mono (by decide)
    have h3 : Room 3 _ := hr.mono (by decide)
    have h4 : Room 4 _ := hr.mono (by decide)
    have hu := hr.units
    have hu2 : (A.deeper (envOfC "law" (defScope sLaw) s.heap.objs.size f cdv)).units + 200 < cLine := by
      have := hr.un
      omega
    refine ⟨_, pss_cons (ps_for PassesOwn.never rfl (pi_range1 (by rfl) O.range (pa_cons (pe_callB (call_max2 rfl) (by rfl) O.max boot_max (pa_cons pe_int (pa_cons (pe_callB (call_min2 rfl) (by rfl) O.min boot_min (pa_cons (pe_callB call_len_seq (by rfl) T.len PySem.boot_len (pa_cons (pv 0) pa_nil)) (pa_cons pe_int pa_nil))) pa_nil))) pa_nil)) (pg_name (i := 1) scL.nd rfl (.inl rfl))
        (pss_cons (ps_set (i := 2) scL.nd rfl (.inr rfl) (pe_call GO h1 (by rfl) gO FO.kp bO .nil pass0 (pa_cons (pv 0) (pa_cons (pv 1) pa_nil))))
        (pss_cons (ps_set (i := 3) scL.nd rfl (.inl rfl) (pe_call GT h2 (by rfl) gT FT.kp bT .nil pass0 (pa_cons (pv 2) pa_nil)))
        (pss_cons (ps_set (i := 4) scL.nd rfl (.inl rfl) (pe_lst (pa_cons (pv 3) (pa_cons pe_str (pa_cons pe_str (pa_cons pe_str (pa_cons pe_str (pa_cons pe_str (pa_cons pe_str (pa_cons pe_str (pa_cons pe_str (pa_cons pe_str pa_nil))))))))))))
        (pss_cons (ps_for PassesOwn.never rfl (pi_list (pe_op op_cat (pv 4) (pe_lst (pa_cons pe_non (pa_cons pe_int (pa_cons pe_bl (pa_cons (pe_tup (pa_cons pe_str pa_nil)) (pa_cons (pe_lst (pa_cons pe_str pa_nil)) (pa_cons pe_dnewK pa_nil))))))))) (pg_name (i := 5) scL.nd rfl (.inl rfl))
          (pss_cons (ps_set (i := 6) scL.nd rfl (.inl rfl) (pe_call GU h2 (by rfl) gU FU.kp bU .nil pass0 (pa_cons (pv 5) pa_nil)))
          (pss_one (ps_if (pt_cmpR (op_neD hu) (pe_lst (pa_cons (pe_call GL h1 (by rfl) gL FL.kp bL .nil pass0 (pa_cons (pv 5) pa_nil)) (pa_cons (pe_call GN h2 (by rfl) gN FN.kp bN .nil pass0 (pa_cons (pv 5) pa_nil)) (pa_cons (pe_call GS h2 (by rfl) gS FS.kp bS .nil pass0 (pa_cons (pv 5) pa_nil)) (pa_cons (pe_call GW h2 (by rfl) gW FW.kp bW .nil pass0 (pa_cons (pv 5) pa_nil)) pa_nil))))) (pv 6) (nomark _)) (pss_one (ps_ret pe_bl)) pss_nil))))
        (pss_cons (ps_set (i := 7) scL.nd rfl (.inl rfl) (pe_callTy call_tuple_of (by rfl) T.tuple boot_tuple (pa_cons (pe_lc (own := [("_law_turn", 12)]) (g := gName 12) (tt := tYes) rfl scL.nd (pi_range1 (by rfl) O.range (pa_cons (pe_call GD h1 (by rfl) gD FD.kp bD .nil pass0 (pa_cons (pv 2) (pa_cons pe_int pa_nil))) pa_nil)) (blkOk_by (N := lawN) (sc := defScope sLaw) (by decide +kernel)) (fun _ _ _ _ _ => pg_name (i := 12) scL.nd rfl (Or.inl rfl)) (fun _ _ _ _ _ => pts_nil)
          (fun _ _ _ _ _ => pe_slice sl_str pe_str po_none (po_some (pe_call GD h1 (by rfl) gD FD.kp bD .nil pass0 (pa_cons (pv 2) (pa_cons pe_int pa_nil)))))) pa_nil)))
        (pss_cons (ps_set (i := 8) scL.nd rfl (.inl rfl) (pe_ifExp (pt_cmpR (op_neD hu) (pv 7) (pe_tup pa_nil) (nomark _)) (pe_join pe_str (pe_lc (own := [("_law_line", 11)]) (g := gName 11) (tt := tYes) rfl scL.nd (pi_tup (pv 7)) (blkOk_by (N := lawN) (sc := defScope sLaw) (by decide +kernel)) (fun _ _ _ _ _ => pg_name (i := 11) scL.nd rfl (Or.inl rfl)) (fun _ _ _ _ _ => pts_nil) (fun _ _ _ _ _ => pe_op op_add_str pe_str (pv 11)))) pe_str))
        (pss_cons (ps_if (PW.pt (pw_or (pt_not (pt_val (pe_call GG h2 (by rfl) gG FG.kp bG .nil pass0 (pa_cons (pv 7) pa_nil)))) (pw_or (pt_cmpR op_ne (pe_call GH h3 (by rfl) gH FH.kp bH .nil passX0 (pa_cons (pv 7) pa_nil)) (pv 8) (nomark _)) (pw_or1 (pt_cmpR (op_neD hu) (pe_call GR h3 (by rfl) gR FR.kp bR .nil passX0 (pa_cons (pv 8) pa_nil)) (pv 7) (nomark _)))))) (pss_one (ps_ret pe_bl)) pss_nil)
        (pss_cons (ps_for PassesOwn.never rfl (pi_list (pe_lst (pa_cons (pe_callTy call_list_of (by rfl) T.list boot_list (pa_cons (pv 7) pa_nil)) (pa_cons (pe_op op_catA (pv 7) (pe_tup (pa_cons pe_str pa_nil))) (pa_cons (pe_op op_catA (pv 7) (pe_tup (pa_cons pe_non pa_nil))) (pa_cons (pe_op op_catA (pv 7) (pe_tup (pa_cons pe_int pa_nil))) (pa_cons pe_non (pa_cons pe_str (pa_cons pe_int pa_nil))))))))) (pg_name (i := 5) scL.nd rfl (.inl rfl))
          (pss_one (ps_if (PW.pt (pw_or (pt_val (pe_call GG h2 (by rfl) gG FG.kp bG .nil pass0 (pa_cons (pv 5) pa_nil))) (pw_or1 (pt_cmpR (op_neD hu) (pe_callG GX hg h4 (by rfl) gX FX.kp bX .nil pass0 (pa_cons pe_int (pa_cons (pv 5) pa_nil))) (pe_lst (pa_cons pe_str (pa_cons (pe_callB (call_repr_at (K := K) rfl hg hu2) (by rfl) O.repr boot_rep (pa_cons (pv 5) pa_nil)) pa_nil))) (nomark _))))) (pss_one (ps_ret pe_bl)) pss_nil)))
        (pss_cons (ps_set (i := 9) scL.nd rfl (.inl rfl) (pe_lst (pa_cons (pe_op op_add_str (pv 8) pe_str) (pa_cons pe_str (pa_cons pe_str (pa_cons pe_str (pa_cons pe_str (pa_cons pe_str (pa_cons pe_str (pa_cons pe_str (pa_cons pe_str (pa_cons pe_str (pa_cons pe_non (pa_cons pe_int (pa_cons (pv 7) pa_nil)))))))))))))))
        (pss_one (ps_for PassesOwn.never rfl (pi_list (pe_op op_cat (pv 9) (pe_lst (pa_cons (pe_tup (pa_cons pe_str pa_nil)) pa_nil)))) (pg_name (i := 10) scL.nd rfl (.inl rfl))
          (pss_one (ps_if (pt_cmpR (op_neD hu) (pe_callG GX hg h4 (by rfl) gX FX.kp bX .nil pass0 (pa_cons pe_int (pa_cons (pv 10) pa_nil))) (pe_lst (pa_cons pe_str (pa_cons pe_non pa_nil))) (nomark _)) (pss_one (ps_ret pe_bl)) pss_nil))))))))))))))
      (pss_one (ps_ret (pe_and (pe_cmpR (op_eqD hu) (pe_call GR h3 (by rfl) gR FR.kp bR .nil passX0 (pa_cons pe_str pa_nil)) (pe_tup pa_nil) (nomark _)) (pe_one (pe_cmpR op_eq (pe_call GH h3 (by rfl) gH FH.kp bH .nil passX0 (pa_cons (pe_tup pa_nil) pa_nil)) pe_str (nomark _)))))), ?_⟩
    refine ⟨.ref a, rfl, a, _, rfl, .inl hS, _, _, rfl, _, _, rfl, _, rfl, ?_, ?_, for_range (lo := 0) (n := _) (fun _ σ H' => ∃ y1 y2 y3 y4 y5 y6 y7 y8 y9 y10 y11 y12, σ = [some (.ref a), y1, y2, y3, y4, y5, y6, y7, y8, y9, y10, y11, y12] ∧ Same H H')
      ⟨_, _, _, _, _, _, _, _, _, _, _, _, rfl, fun _ _ e => e⟩ ?_ ?_⟩
    · rw [List.length_map]
      have z := hlen
      split <;> split <;> omega
    · rw [List.length_map]
      have z := hlen
      split <;> split <;> omega
    · rintro i σ H1 hi ⟨y1, y2, y3, y4, y5, y6, y7, y8, y9, y10, y11, y12, rfl, s1⟩
      have i8 : i ≤ 1000 := by
        rw [List.length_map] at hi
        have z := hlen
        revert hi
        split <;> split <;> omega
      refine ⟨.ref a, rfl, .int (0 + (i : Int)), rfl, a, ns, _, rfl, s1.seq hS, by omega, by omega, by omega, fun H2 p g m s2 n2 hp => ?_⟩
      refine ⟨.ref p, rfl, p, rfl, ⟨g, m, hp⟩, fun H3 z b3 pool3 lz pz => ?_⟩
      refine ⟨.str z, rfl, (by show 10 ≤ sizeLine; decide), fun t nt => ?_⟩
      refine ⟨.ref t, rfl, (by show 1 ≤ sizeLine; decide), fun u nu => ⟨(by show 1 ≤ sizeLine; decide), fun l nl => ?_⟩⟩
      refine fun d nd => ⟨(by show 6 ≤ sizeLine; decide), fun e ne => ?_⟩
      obtain ⟨H4, e4⟩ : ∃ H4, H4 = upd H3 t (.lst [.str z, .str "abcdef", .str "abcdefg", .str "ba", .str "aa", .str "", .str "abcdefgh", .str "abcdefghi", .str "abc", .str "abcd"]) := ⟨_, rfl⟩
      have s3 : Same H1 H3 := but_same s2 n2 b3
      have n2' := n2
      have st := same_upd (o := .lst [.str z, .str "abcdef", .str "abcdefg", .str "ba", .str "aa", .str "", .str "abcdefgh", .str "abcdefghi", .str "abc", .str "abcd"]) nt
      have ht : H4 t = some (.lst [.str z, .str "abcdef", .str "abcdefg", .str "ba", .str "aa", .str "", .str "abcdefgh", .str "abcdefghi", .str "abc", .str "abcd"]) := by rw [e4]; exact upd_same
      rw [← e4] at nu nl nd ne ⊢
      rw [← e4] at st
      have su := same_upd (o := .tup [.str "a"]) nu
      have sl := same_upd (o := .lst [.str "a"]) nl
      have sd := same_upd (o := .dK []) nd
      have se := same_upd (o := .lst [.non, .int 5, .bl true, .ref u, .ref l, .ref d]) ne
      refine ⟨t, e, _, _, rfl, rfl, se _ _ (sd _ _ (sl _ _ (su _ _ ht))), upd_same, (by show 16 ≤ sizeLine; decide), fun c nc => ?_⟩
      have sc := same_upd (o := .lst ([.str z, .str "abcdef", .str "abcdefg", .str "ba", .str "aa", .str "", .str "abcdefgh", .str "abcdefghi", .str "abc", .str "abcd"] ++ [.non, .int 5, .bl true, .ref u, .ref l, .ref d])) nc
      obtain ⟨H5, e5⟩ : ∃ H5, H5 = upd (upd (upd (upd (upd H4 u (.tup [.str "a"])) l (.lst [.str "a"])) d (.dK [])) e (.lst [.non, .int 5, .bl true, .ref u, .ref l, .ref d])) c (.lst ([.str z, .str "abcdef", .str "abcdefg", .str "ba", .str "aa", .str "", .str "abcdefgh", .str "abcdefghi", .str "abc", .str "abcd"] ++ [.non, .int 5, .bl true, .ref u, .ref l, .ref d])) := ⟨_, rfl⟩
      have s45 : Same H4 H5 := by rw [e5]; exact su.trans (sl.trans (sd.trans (se.trans sc)))
      have hc : H5 c = some (.lst ([.str z, .str "abcdef", .str "abcdefg", .str "ba", .str "aa", .str "", .str "abcdefgh", .str "abcdefghi", .str "abc", .str "abcd"] ++ [.non, .int 5, .bl true, .ref u, .ref l, .ref d])) := by rw [e5]; exact upd_same
      have hu5 : H5 u = some (.tup [.str "a"]) := by rw [e5]; exact sc _ _ (se _ _ (sd _ _ (sl _ _ upd_same)))
      have hl5 : H5 l = some (.lst [.str "a"]) := by rw [e5]; exact sc _ _ (se _ _ (sd _ _ upd_same))
      have hd5 : H5 d = some (.dK []) := by rw [e5]; exact sc _ _ (se _ _ upd_same)
      rw [← e5]
      have things : ∀ x ∈ ([.str z, .str "abcdef", .str "abcdefg", .str "ba", .str "aa", .str "", .str "abcdefgh", .str "abcdefghi", .str "abc", .str "abcd"] ++ [.non, .int 5, .bl true, .ref u, .ref l, .ref d] : List V), Thing K H5 x := by
        intro x hx
        have cs : ∀ y : Str, y ∈ (["abcdef", "abcdefg", "ba", "aa", "", "abcdefgh", "abcdefghi", "abc", "abcd"] : List Str) → Thing K H5 (.str y) := fun y hy => .str (c_things y hy).1 (c_things y hy).2
        simp only [List.cons_append, List.nil_append, List.mem_cons, List.not_mem_nil, or_false] at hx
        rcases hx with rfl | rfl | rfl | rfl | rfl | rfl | rfl | rfl | rfl | rfl | rfl | rfl | rfl | rfl | rfl | rfl
        · exact .str (by omega) (plain_text pz)
        all_goals first
          | exact cs _ (by simp)
          | exact .of .non rfl
          | exact .of (.int 5) rfl
          | exact .of (.bl true) rfl
          | exact .of (.tup u _ hu5) rfl
          | exact .of (.lst l _ hl5) rfl
          | exact .of (.dct d _ hd5) rfl
      obtain ⟨xs16, e16⟩ : ∃ xs16 : List V, xs16 = [.str z, .str "abcdef", .str "abcdefg", .str "ba", .str "aa", .str "", .str "abcdefgh", .str "abcdefghi", .str "abc", .str "abcd"] ++ [.non, .int 5, .bl true, .ref u, .ref l, .ref d] := ⟨_, rfl⟩
      rw [← e16] at hc things
      refine ⟨c, rfl, ⟨_, .inl (.inl hc)⟩, for_list (K := K) (a := c) (xs := xs16) (fun _ σ H' => ∃ y1 y3 y4 y5 y6 y7 y8 y9 y10 y11 y12, σ = [some (.ref a), y1, some (.ref p), y3, y4, y5, y6, y7, y8, y9, y10, y11, y12] ∧ Same H5 H')
        ⟨_, _, _, _, _, _, _, _, _, _, _, rfl, fun _ _ e => e⟩ (fun i σ H' _ ⟨_, _, _, _, _, _, _, _, _, _, _, _, sm⟩ => .inl (.inl (sm _ _ hc))) ?_ ?_⟩
      · rintro j x σ H6 hj ⟨y1, y3, y4, y5, y6, y7, y8, y9, y10, y11, y12, rfl, s6⟩
        have tx := things x (List.mem_of_getElem? hj)
        exact t_thing ⟨tx.1.same s6, tx.2⟩ fun p' H7 s7 => ⟨_, _, _, _, _, _, _, _, _, _, _, rfl, s6.trans s7⟩
      rintro σ H6 ⟨y1, y3, y4, y5, y6, y7, y8, y9, y10, y11, y12, rfl, s6⟩
      have pool6 : Pool H6 p := by
        obtain ⟨g3, m3, h3⟩ := pool3
        exact ⟨g3, m3, s6 _ _ (s45 _ _ (st _ _ h3))⟩
      have sAll : Same H1 H6 := s3.trans (st.trans (s45.trans s6))
      obtain ⟨g6, m6, hp6⟩ := pool6
      refine ⟨.ref p, rfl, p, 4, g6, m6, rfl, hp6, by decide, by decide, fun n g7 m7 n0 n1 => ⟨n, rfl, by omega, by omega, fun D nD => ?_⟩⟩
      have p7 : (upd H6 p (.lst [.int g7, .int m7])) p = some (.lst [.int g7, .int m7]) := upd_same
      have nDp : D ≠ p := fun z => by
        rw [z, p7] at nD
        cases nD
      refine lc_range (lo := 0) (n := n.toNat) (fun i H8 => But p H6 H8 ∧ Pool H8 p ∧ ∃ ks : List Nat, ks.length = i ∧ (∀ k ∈ ks, k < 4) ∧ H8 D = some (.lst ((zsOf ks).map V.str)))
        ⟨But.upd.trans (But.of (same_upd nD)), ⟨g7, m7, by rw [upd_ne nDp.symm]; exact p7⟩, [], rfl, by simp, upd_same⟩ ?_ ?_
      · rintro i H8 hi ⟨b8, ⟨g8, m8, p8⟩, ks, lk, hk, hD⟩
        have D6 : H6 D = none := by
          rw [upd_ne nDp] at nD
          exact nD
        refine ⟨rfl, .ref p, rfl, p, 4, g8, m8, rfl, p8, by decide, by decide, fun r g9 m9 r0 r1 => ⟨r, rfl, _, rfl, (by show 3 ≤ sizeLine; decide), (zsOf ks).map V.str, (by rw [upd_ne nDp]; exact hD), ?_, ?_, ⟨g9, m9, by rw [upd_ne nDp.symm]; exact upd_same⟩, ks ++ [r.toNat], ?_, ?_, ?_⟩⟩
        · have z1 : 1000 < sizeLine := by decide
          unfold zsOf
          rw [List.length_map, List.length_map, lk]
          omega
        · intro c o w e
          rw [upd_ne (ne_of_none e D6), upd_ne w]
          exact b8 c o w e
        · rw [List.length_append, lk]
          rfl
        · intro k hk2
          rcases List.mem_append.mp hk2 with z | z
          · exact hk k z
          · rw [List.mem_singleton.mp z]
            omega
        · have er : ((r.toNat : Nat) : Int) = r := by omega
          rw [upd_same]
          unfold zsOf
          rw [List.map_append, List.map_append, List.map_cons, List.map_cons]
          unfold pre
          rw [er]
          rfl
      rintro H8 ⟨b8, _, ks, lk, hk, hD⟩
      have inC : ks ∈ combos := in_combos ks (by omega) hk
      refine ⟨D, _, rfl, .inl ⟨.inl (.inl hD), fun t2 nt2 => ?_⟩⟩
      have s8 : Same H1 H8 := fun b o e => b8 b o (fun z => by rw [z, n2'] at e; cases e) (sAll b o e)
      obtain ⟨zs, ez⟩ : ∃ zs, zs = zsOf ks := ⟨_, rfl⟩
      have zlow : ∀ z ∈ zs, low z = true ∧ z.length ≤ 3 := fun z hz => by
        have q := List.all_eq_true.mp (c_low ks inC) z (by rw [← ez]; exact hz)
        rw [Bool.and_eq_true] at q
        exact ⟨q.1, of_decide_eq_true q.2⟩
      have zlen : zs.length ≤ 3 := by
        rw [ez]
        unfold zsOf
        rw [List.length_map]
        omega
      rw [← ez] at hD ⊢
      obtain ⟨H9, e9⟩ : ∃ H9, H9 = upd H8 t2 (.tup (zs.map V.str)) := ⟨_, rfl⟩
      have s9 : Same H1 H9 := by rw [e9]; exact s8.trans (same_upd nt2)
      have h9 : H9 t2 = some (.tup (zs.map V.str)) := by rw [e9]; exact upd_same
      rw [← e9]
      refine t_shown (K := K) h9 (by omega) (fun z hz => ⟨by have := (zlow z hz).2; omega, low_ok (zlow z hz).1⟩) fun H10 s10 => ?_
      have pb : ∀ H', Same H9 H' → PageB K H' (.ref t2) true := fun H' s' => by
        refine ⟨.tup t2 _ (s' _ _ h9), fun a xs e1 e2 => ?_, fun off => absurd (s' _ _ h9) (off _ _ rfl)⟩
        cases e1
        rw [s' _ _ h9] at e2
        cases e2
        refine ⟨by rw [List.length_map]; omega, fun y hy => ?_, ?_⟩
        · obtain ⟨z, hz, rfl⟩ := List.mem_map.mp hy
          exact .str z (by have := (zlow z hz).2; omega)
        · refine Eq.symm (List.all_eq_true.mpr fun y hy => ?_)
          obtain ⟨z, hz, rfl⟩ := List.mem_map.mp hy
          exact (zlow z hz).1
      refine ⟨.ref t2, rfl, .ref t2, true, rfl, pb _ s10, fun H11 s11 => ⟨_, rfl, iteF ?_⟩⟩
      refine ⟨.ref t2, rfl, .ref t2, true, rfl, pb _ (s10.trans s11), fun _ => ⟨t2, zs, rfl, s11 _ _ (s10 _ _ h9), by omega, fun z hz => (by have := (zlow z hz).2; omega), fun H12 s12 => ?_⟩, fun z => nomatch z⟩
      have lenS : (shown zs).length ≤ 50 := by rw [ez]; exact c_len ks inC
      refine ⟨.str (shown zs), rfl, rfl, _, rfl, ?_⟩
      rw [show (!decide (V.str (shown zs) = V.str (shown zs))) = false from by rw [decide_eq_true rfl]; rfl]
      refine iteF ?_
      have back : readOf (shown zs) = some zs := by rw [ez]; exact c_back ks inC
      refine ⟨.str (shown zs), rfl, _, rfl, .str _ (by omega), fun z e => ⟨fun ls r H13 p2 s13 hp2 => ?_, fun r => ?_⟩, fun z => nomatch z⟩
      case refine_2 =>
        cases e
        rw [back] at r
        cases r
      cases e
      rw [back] at r
      cases r
      have s913 : Same H9 H13 := s10.trans (s11.trans (s12.trans s13))
      have okz : ∀ z ∈ zs, PyData.strOk z = true := fun z hz => low_ok (zlow z hz).1
      refine ⟨.ref t2, rfl, .tuple (zs.map .str), .tuple (zs.map .str), .tup (.inl (.inl hp2)) (strs_dp _), .tup (.inl (.inl (s913 _ _ h9))) (strs_dp _), shaped_tups okz, shaped_tups okz, _, rfl, ?_⟩
      rw [eqv_tups, decide_eq_true rfl]
      refine iteF ?_
      have h13 := s913 _ _ h9
      have s113 : Same H1 H13 := s9.trans s913
      refine ⟨.ref t2, rfl, t2, _, rfl, .inr (.inl (.inl h13)), fun l nl => ?_⟩
      obtain ⟨H14, e14⟩ : ∃ H14, H14 = upd H13 l (.lst (zs.map V.str)) := ⟨_, rfl⟩
      have s14 : Same H13 H14 := by rw [e14]; exact same_upd nl
      have l14 : H14 l = some (.lst (zs.map V.str)) := by rw [e14]; exact upd_same
      rw [← e14]
      have few : (zs.map V.str).length ≤ 999 := by rw [List.length_map]; omega
      refine ⟨.ref t2, rfl, (by show 1 ≤ sizeLine; decide), fun u1 nu1 => cat_one (s14.trans (same_upd nu1) _ _ h13) upd_same few fun cA H15 s15 hA => ?_⟩
      have s15' := s14.trans ((same_upd nu1).trans s15)
      refine ⟨.ref t2, rfl, (by show 1 ≤ sizeLine; decide), fun u2 nu2 => cat_one (s15'.trans (same_upd nu2) _ _ h13) upd_same few fun cN H16 s16 hN => ?_⟩
      have s16' := s15'.trans ((same_upd nu2).trans s16)
      refine ⟨.ref t2, rfl, (by show 1 ≤ sizeLine; decide), fun u3 nu3 => cat_one (s16'.trans (same_upd nu3) _ _ h13) upd_same few fun c1 H17 s17 h1 => ?_⟩
      have s1617 := (same_upd nu3).trans s17
      refine ⟨(by show 7 ≤ sizeLine; decide), fun v nv => ?_⟩
      have sv := same_upd (o := .lst [.ref l, .ref cA, .ref cN, .ref c1, .non, .str "ab", .int 5]) nv
      obtain ⟨H18, e18⟩ : ∃ H18, H18 = upd H17 v (.lst [.ref l, .ref cA, .ref cN, .ref c1, .non, .str "ab", .int 5]) := ⟨_, rfl⟩
      have hv : H18 v = some (.lst [.ref l, .ref cA, .ref cN, .ref c1, .non, .str "ab", .int 5]) := by rw [e18]; exact upd_same
      rw [← e18] at sv ⊢
      have s1318 : Same H13 H18 := s16'.trans (s1617.trans sv)
      have kS : ∀ z ∈ zs, z.length ≤ 1000 := fun z hz => by have := (zlow z hz).2; omega
      have nopages : ∀ x ∈ ([.ref l, .ref cA, .ref cN, .ref c1, .non, .str "ab", .int 5] : List V), NoPage K H18 x := by
        intro x hx
        simp only [List.mem_cons, List.not_mem_nil, or_false] at hx
        have l18 : H18 l = some (.lst (zs.map V.str)) := sv _ _ (s1617 _ _ (s16 _ _ (same_upd nu2 _ _ (s15 _ _ (same_upd nu1 _ _ l14)))))
        rcases hx with rfl | rfl | rfl | rfl | rfl | rfl | rfl
        · refine noPage_seq (noPage_off (.lst l _ l18) fun a xs e1 e2 => ?_) (by rw [ez]; exact f_list ks inC) fun H' s => .lst (.inl (.inl (s _ _ l18))) (strs_dp _)
          cases e1
          rw [l18] at e2
          cases e2
        · exact noPage_cat (sv _ _ (s1617 _ _ (s16 _ _ (same_upd nu2 _ _ hA)))) zlen kS (.str _ (by decide)) (by decide +kernel) (by rw [ez]; exact f_tupA ks inC) fun _ _ => .str _
        · exact noPage_cat (sv _ _ (s1617 _ _ hN)) zlen kS .non rfl (by rw [ez]; exact f_tupN ks inC) fun _ _ => .non
        · exact noPage_cat (sv _ _ h1) zlen kS (.int 1) rfl (by rw [ez]; exact f_tup1 ks inC) fun _ _ => .int 1
        · exact ⟨noPage_off .non fun _ _ e _ => (nomatch e), "None", by decide +kernel, fun _ _ => .non⟩
        · exact ⟨noPage_off (.str _ (by decide)) fun _ _ e _ => (nomatch e), reprText "ab", by decide +kernel, fun _ _ => .str _ (small (by decide +kernel))⟩
        · exact ⟨noPage_off (.int 5) fun _ _ e _ => (nomatch e), toString (5 : Int), by decide +kernel, fun _ _ => .int 5 (by decide)⟩
      refine ⟨v, rfl, ⟨_, .inl (.inl hv)⟩, for_list (K := K) (a := v) (xs := [.ref l, .ref cA, .ref cN, .ref c1, .non, .str "ab", .int 5]) (fun _ σ H' => ∃ y1 y2 y3 y4 y5 y6 y9 y10 y11 y12, σ = [some (.ref a), y1, y2, y3, y4, y5, y6, some (.ref t2), some (.str (shown zs)), y9, y10, y11, y12] ∧ Same H18 H')
        ⟨_, _, _, _, _, _, _, _, _, _, rfl, fun _ _ e => e⟩ (fun i σ H' _ ⟨_, _, _, _, _, _, _, _, _, _, _, sm⟩ => .inl (.inl (sm _ _ hv))) ?_ ?_⟩
      · rintro j x σ H19 hj ⟨y1, y2, y3, y4, y5, y6, y9, y10, y11, y12, rfl, s19⟩
        have nx := nopages x (List.mem_of_getElem? hj)
        exact t_nopage ⟨pageB_same s19 nx.1, by obtain ⟨U, h1, h2⟩ := nx.2; exact ⟨U, h1, fun H' s' => h2 H' (s19.trans s')⟩⟩ fun H20 s20 => ⟨_, _, _, _, _, _, _, _, _, _, rfl, s19.trans s20⟩
      rintro σ H19 ⟨y1, y2, y3, y4, y5, y6, y9, y10, y11, y12, rfl, s19⟩
      have s119 : Same H1 H19 := s113.trans (s1318.trans s19)
      have h19 := s19 _ _ (s1318 _ _ h13)
      refine ⟨.str (shown zs), rfl, _, _, rfl, rfl, ?_, .ref t2, rfl, (by show 13 ≤ sizeLine; decide), fun o no => ?_⟩
      · have z1 : 1000 ≤ sizeLine := by decide
        have z2 : ("/" : Str).length = 1 := rfl
        omega
      obtain ⟨os, eo⟩ : ∃ os : List V, os = [.str (shown zs ++ "/"), .str "a", .str "ab/=a", .str "=A", .str "=a /=b", .str "", .str "--", .str "-/=a", .str "=a=b", .str " -", .non, .int 5, .ref t2] := ⟨_, rfl⟩
      have len13 : os.length = 13 := by rw [eo]; rfl
      rw [← eo]
      have so := same_upd (o := .lst os) no
      refine ⟨.ref o, rfl, (by show 1 ≤ sizeLine; decide), fun w1 nw1 => ⟨(by show 1 ≤ sizeLine; decide), fun w2 nw2 => ?_⟩⟩
      have sw1 := same_upd (o := .tup [.str "=a"]) nw1
      have sw2 := same_upd (o := .lst [.ref w1]) nw2
      refine ⟨o, w2, _, _, rfl, rfl, sw2 _ _ (sw1 _ _ upd_same), upd_same, ?_, fun c2 nc2 => ?_⟩
      · have z1 : 1000 ≤ sizeLine := by decide
        rw [len13]
        show 13 + 1 ≤ sizeLine
        omega
      have sc2 := same_upd (o := .lst (os ++ [.ref w1])) nc2
      have hw1 := sc2 _ _ (sw2 _ _ (upd_same (o := .tup [.str "=a"])))
      have s20 := so.trans (sw1.trans (sw2.trans sc2))
      obtain ⟨H20, e20⟩ : ∃ H20, H20 = upd (upd (upd (upd H19 o (.lst os)) w1 (.tup [.str "=a"])) w2 (.lst [.ref w1])) c2 (.lst (os ++ [.ref w1])) := ⟨_, rfl⟩
      have hc2 : H20 c2 = some (.lst (os ++ [.ref w1])) := by rw [e20]; exact upd_same
      rw [← e20] at hw1 s20 ⊢
      have odds : ∀ x ∈ os ++ [V.ref w1], Odd K H20 x := by
        intro x hx
        have cs : ∀ y : Str, y ∈ (["a", "ab/=a", "=A", "=a /=b", "", "--", "-/=a", "=a=b", " -"] : List Str) → y.length ≤ 1000 → Odd K H20 (.str y) := fun y hy hl => ⟨.str y hl, fun z e => by cases e; exact odds_none y hy⟩
        rw [eo] at hx
        simp only [List.cons_append, List.nil_append, List.mem_cons, List.not_mem_nil, or_false] at hx
        rcases hx with rfl | rfl | rfl | rfl | rfl | rfl | rfl | rfl | rfl | rfl | rfl | rfl | rfl | rfl
        · refine ⟨.str _ ?_, fun z e => ?_⟩
          · rw [Str.length_append]
            have z2 : ("/" : Str).length = 1 := rfl
            omega
          · cases e
            rw [ez]
            exact c_slash ks inC
        all_goals first
          | exact cs _ (by simp) (by decide)
          | exact ⟨.non, fun z e => nomatch e⟩
          | exact ⟨.int 5, fun z e => nomatch e⟩
          | exact ⟨.tup t2 _ (s20 _ _ h19), fun z e => nomatch e⟩
          | exact ⟨.tup w1 _ hw1, fun z e => nomatch e⟩
      refine ⟨c2, rfl, ⟨_, .inl (.inl hc2)⟩, for_list (K := K) (a := c2) (xs := os ++ [.ref w1]) (fun _ σ H' => ∃ y1 y2 y3 y4 y5 y6 y7 y8 y9 y10 y11 y12, σ = [some (.ref a), y1, y2, y3, y4, y5, y6, y7, y8, y9, y10, y11, y12] ∧ Same H20 H')
        ⟨_, _, _, _, _, _, _, _, _, _, _, _, rfl, fun _ _ e => e⟩ (fun i σ H' _ ⟨_, _, _, _, _, _, _, _, _, _, _, _, _, sm⟩ => .inl (.inl (sm _ _ hc2))) ?_ ?_⟩
      · rintro j x σ H21 hj ⟨y1, y2, y3, y4, y5, y6, y7, y8, y9, y10, y11, y12, rfl, s21⟩
        have ox := odds x (List.mem_of_getElem? hj)
        exact t_odd ⟨ox.1.same s21, ox.2⟩ fun H22 s22 => ⟨_, _, _, _, _, _, _, _, _, _, _, _, rfl, s21.trans s22⟩
      rintro σ H21 ⟨y1, y2, y3, y4, y5, y6, y7, y8, y9, y10, y11, y12, rfl, s21⟩
      exact ⟨_, _, _, _, _, _, _, _, _, _, _, _, rfl, s1.trans (s119.trans (s20.trans s21))⟩
    · rintro σ H1 ⟨y1, y2, y3, y4, y5, y6, y7, y8, y9, y10, y11, y12, rfl, s1⟩
      refine ⟨_, rfl, .str _ (by decide), fun z e => ⟨fun ls r H2 p s2 hp => ?_, fun r => ?_⟩, fun z => nomatch z⟩
      · cases e
        rw [read_dash] at r
        cases r
        refine ⟨(by show 0 ≤ sizeLine; decide), fun e ne => ?_⟩
        have se := same_upd (o := .tup []) ne
        refine ⟨.tuple (([] : List Str).map .str), .tuple (([] : List Str).map .str), .tup (.inl (.inl (se _ _ hp))) (strs_dp []), .tup (.inl (.inl upd_same)) (strs_dp []), by decide +kernel, by decide +kernel, _, rfl, iteT ?_⟩
        refine ⟨(by show 0 ≤ sizeLine; decide), fun e2 ne2 => ?_⟩
        refine ⟨.ref e2, true, rfl, ⟨.tup e2 [] upd_same, fun a xs e1 e3 => ?_, fun off => absurd upd_same (off _ _ rfl)⟩, fun _ => ⟨e2, [], rfl, upd_same, by decide, fun z hz => (by simp at hz), fun H' s' => ?_⟩, fun z => nomatch z⟩
        · cases e1
          rw [upd_same] at e3
          cases e3
          exact ⟨by decide, fun y hy => (by simp at hy), rfl⟩
        · exact ⟨rfl, q _⟩
      · cases e
        rw [read_dash] at r
        cases r
end
end K01

namespace K01
open PySem PySem.Spec PyProof.Rows PySem.ErrX L2
/-- an error's facts, as the head gives them -/
theorem mk_err {K : PySem.W.Frag} {h : Heap} {mg : Str → Option Value} (X : K.In h) (G : h.Ns mainGlobals mg) {nm f qual : Str} {C fI : Addr} {oc doc pm cdv ct : Value} {od an : Option Addr} {osl : Array (Option Value)} {p1 p2 q1 q2 q3 q4 : Pos}
    (fld : Fld f) (aC : PySem.W.nsIn K mainGlobals nm = some (some (.ref C))) (ini : PySem.W.excInitIn K C exTail "Exception.__new__" = true) (over : PySem.W.excOver K C exTail = true)
    (sa : PySem.W.findIn K (.ref C) "__setattr__" = some (some (.builtin "object.__setattr__"))) (ga : PySem.W.findIn K (.ref C) "__getattribute__" = some (some (.builtin "BaseException.__getattribute__"))) (gg : PySem.W.findIn K (.ref C) "__getattr__" = some none)
    (noN : PySem.W.findIn K (.ref C) f = some none) (noT : PySem.W.takerIn K C f = some none) (iC : PySem.W.findIn K (.ref C) "__init__" = some (some (.ref fI))) (tC : PySem.W.typeIn K (.ref fI) = some (.type "function")) (kC : PySem.W.keepIn K (.ref C) = true)
    (exC : PySem.W.subIn K (.ref C) (.type "BaseException") = some true) (hdC : PySem.W.hasDictIn K C = true) (clC : PySem.W.findIn K (.ref C) "__class__" = some (some (.builtin "object.__class__"))) (obC : PySem.W.mroIn K C (.type "object") = some true)
    (spC : PySem.W.specialIn K (.builtin "object.__class__") "__get__" = some (some (.builtin "getset_descriptor.__get__"))) (taC : PySem.W.takesIn K (.builtin "object.__class__") = some true)
    (lf : K.lookup fI = some ⟨oc, od, .func (PySem.W.fnOf "__init__" qual (iArgs f p1 p2) (iBody f q1 q2 q3 q4) (iScope f) .none .none doc pm an cdv ct), osl⟩) (cf : PySem.W.codeIn K cdv qual = true) : ErrTxt K mg nm f C fI :=
  ⟨fld, PySem.W.mg_of X G aC, ini, over, sa, ga, gg, noN, noT, iC, tC, kC, exC, hdC, clC, obC, spC, taC, _, _, _, _, _, _, _, _, _, _, _, _, _, _, _, lf, cf⟩
theorem all_mk {l : PySem.W.OpenLaw} {w : World} {K : PySem.W.Frag} {h : Heap} {mg : Str → Option Value} {fa cP iP cT iT fL fN fG fS fW fH fR fO fD fT fM fU fX fZ : Addr} (X : K.In h) (G : h.Ns mainGlobals mg) (hfa : mg "law" = some (.ref fa))
    {odL anL odN anN odG anG odS anS odW anW odH anH odR anR odO anO odD anD odT anT odM anM odU anU odX anX odZ anZ : Option Addr} {slL slN slG slS slW slH slR slO slD slT slM slU slX slZ : Array (Option Value)} {ocL kvL dcL pmL cdL ctL ocN kvN dcN pmN cdN ctN ocG kvG dcG pmG cdG ctG ocS kvS dcS pmS cdS ctS ocW kvW dcW pmW cdW ctW ocH kvH dcH pmH cdH ctH ocR kvR dcR pmR cdR ctR ocO kvO dcO pmO cdO ctO ocD kvD dcD pmD cdD ctD ocT kvT dcT pmT cdT ctT ocM kvM dcM pmM cdM ctM ocU kvU dcU pmU cdU ctU ocX kvX dcX pmX cdX ctX ocZ kvZ dcZ pmZ cdZ ctZ : Value} {tk_letters tk_signs tk_word tk_name tk_noLines tk_mark : Tok}
    (tP : ErrTxt K mg "BadPage" "value" cP iP) (yP : PySem.W.typeIn K (.ref cP) = some (.type "type"))
    (tT : ErrTxt K mg "BadText" "at" cT iT) (yT : PySem.W.typeIn K (.ref cT) = some (.type "type"))
    (sTT : PySem.W.subIn K (.ref cT) (.ref cT) = some true) (sPT : PySem.W.subIn K (.ref cP) (.ref cT) = some false) (sPP : PySem.W.subIn K (.ref cP) (.ref cP) = some true)
    (aL : PySem.W.nsIn K mainGlobals "is_line" = some (some (.ref fL))) (lL : K.lookup fL = some ⟨ocL, odL, .func (PySem.W.fnOf "is_line" "is_line" (defArgs sLine) (defBody sLine) (defScope sLine) .none kvL dcL pmL anL cdL ctL), slL⟩) (gL : PySem.W.codeIn K cdL "is_line" = true) (kL : PySem.W.keepIn K (.ref fL) = true)
    (aN : PySem.W.nsIn K mainGlobals "is_name" = some (some (.ref fN))) (lN : K.lookup fN = some ⟨ocN, odN, .func (PySem.W.fnOf "is_name" "is_name" (defArgs sName) (defBody sName) (defScope sName) .none kvN dcN pmN anN cdN ctN), slN⟩) (gN : PySem.W.codeIn K cdN "is_name" = true) (kN : PySem.W.keepIn K (.ref fN) = true)
    (aG : PySem.W.nsIn K mainGlobals "is_page" = some (some (.ref fG))) (lG : K.lookup fG = some ⟨ocG, odG, .func (PySem.W.fnOf "is_page" "is_page" (defArgs sPage) (defBody sPage) (defScope sPage) .none kvG dcG pmG anG cdG ctG), slG⟩) (gG : PySem.W.codeIn K cdG "is_page" = true) (kG : PySem.W.keepIn K (.ref fG) = true)
    (aS : PySem.W.nsIn K mainGlobals "is_signs" = some (some (.ref fS))) (lS : K.lookup fS = some ⟨ocS, odS, .func (PySem.W.fnOf "is_signs" "is_signs" (defArgs sSigns) (defBody sSigns) (defScope sSigns) .none kvS dcS pmS anS cdS ctS), slS⟩) (gS : PySem.W.codeIn K cdS "is_signs" = true) (kS : PySem.W.keepIn K (.ref fS) = true)
    (aW : PySem.W.nsIn K mainGlobals "is_word" = some (some (.ref fW))) (lW : K.lookup fW = some ⟨ocW, odW, .func (PySem.W.fnOf "is_word" "is_word" (defArgs sWord) (defBody sWord) (defScope sWord) .none kvW dcW pmW anW cdW ctW), slW⟩) (gW : PySem.W.codeIn K cdW "is_word" = true) (kW : PySem.W.keepIn K (.ref fW) = true)
    (aH : PySem.W.nsIn K mainGlobals "show_page" = some (some (.ref fH))) (lH : K.lookup fH = some ⟨ocH, odH, .func (PySem.W.fnOf "show_page" "show_page" (defArgs sShow) (defBody sShow) (defScope sShow) .none kvH dcH pmH anH cdH ctH), slH⟩) (gH : PySem.W.codeIn K cdH "show_page" = true) (kH : PySem.W.keepIn K (.ref fH) = true)
    (aR : PySem.W.nsIn K mainGlobals "read_page" = some (some (.ref fR))) (lR : K.lookup fR = some ⟨ocR, odR, .func (PySem.W.fnOf "read_page" "read_page" (defArgs sRead) (defBody sRead) (defScope sRead) .none kvR dcR pmR anR cdR ctR), slR⟩) (gR : PySem.W.codeIn K cdR "read_page" = true) (kR : PySem.W.keepIn K (.ref fR) = true)
    (aO : PySem.W.nsIn K mainGlobals "_law_pool" = some (some (.ref fO))) (lO : K.lookup fO = some ⟨ocO, odO, .func (PySem.W.fnOf "_law_pool" "_law_pool" (defArgs sPool) (defBody sPool) (defScope sPool) .none kvO dcO pmO anO cdO ctO), slO⟩) (gO : PySem.W.codeIn K cdO "_law_pool" = true) (kO : PySem.W.keepIn K (.ref fO) = true)
    (aD : PySem.W.nsIn K mainGlobals "_law_draw" = some (some (.ref fD))) (lD : K.lookup fD = some ⟨ocD, odD, .func (PySem.W.fnOf "_law_draw" "_law_draw" (defArgs sDraw) (defBody sDraw) (defScope sDraw) .none kvD dcD pmD anD cdD ctD), slD⟩) (gD : PySem.W.codeIn K cdD "_law_draw" = true) (kD : PySem.W.keepIn K (.ref fD) = true)
    (aT : PySem.W.nsIn K mainGlobals "_law_some_text" = some (some (.ref fT))) (lT : K.lookup fT = some ⟨ocT, odT, .func (PySem.W.fnOf "_law_some_text" "_law_some_text" (defArgs sSome) (defBody sSome) (defScope sSome) .none kvT dcT pmT anT cdT ctT), slT⟩) (gT : PySem.W.codeIn K cdT "_law_some_text" = true) (kT : PySem.W.keepIn K (.ref fT) = true)
    (aM : PySem.W.nsIn K mainGlobals "_law_is_made" = some (some (.ref fM))) (lM : K.lookup fM = some ⟨ocM, odM, .func (PySem.W.fnOf "_law_is_made" "_law_is_made" (defArgs sMade) (defBody sMade) (defScope sMade) .none kvM dcM pmM anM cdM ctM), slM⟩) (gM : PySem.W.codeIn K cdM "_law_is_made" = true) (kM : PySem.W.keepIn K (.ref fM) = true)
    (aU : PySem.W.nsIn K mainGlobals "_law_due" = some (some (.ref fU))) (lU : K.lookup fU = some ⟨ocU, odU, .func (PySem.W.fnOf "_law_due" "_law_due" (defArgs sDue) (defBody sDue) (defScope sDue) .none kvU dcU pmU anU cdU ctU), slU⟩) (gU : PySem.W.codeIn K cdU "_law_due" = true) (kU : PySem.W.keepIn K (.ref fU) = true)
    (aX : PySem.W.nsIn K mainGlobals "_law_told" = some (some (.ref fX))) (lX : K.lookup fX = some ⟨ocX, odX, .func (PySem.W.fnOf "_law_told" "_law_told" (defArgs sTold) (defBody sTold) (defScope sTold) .none kvX dcX pmX anX cdX ctX), slX⟩) (gX : PySem.W.codeIn K cdX "_law_told" = true) (kX : PySem.W.keepIn K (.ref fX) = true)
    (aZ : PySem.W.nsIn K mainGlobals "law" = some (some (.ref fZ))) (lZ : K.lookup fZ = some ⟨ocZ, odZ, .func (PySem.W.fnOf "law" "law" (defArgs sLaw) (defBody sLaw) (defScope sLaw) .none kvZ dcZ pmZ anZ cdZ ctZ), slZ⟩) (gZ : PySem.W.codeIn K cdZ "law" = true) (kZ : PySem.W.keepIn K (.ref fZ) = true)
    (c_letters : PySem.W.nsIn K mainGlobals "LETTERS" = some (some (.str "abcdefghijklmnopqrstuvwxyz" tk_letters)))
    (c_signs : PySem.W.nsIn K mainGlobals "MOST_SIGNS" = some (some (.int 6 tk_signs)))
    (c_word : PySem.W.nsIn K mainGlobals "MOST_IN_WORD" = some (some (.int 3 tk_word)))
    (c_name : PySem.W.nsIn K mainGlobals "MOST_IN_NAME" = some (some (.int 8 tk_name)))
    (c_noLines : PySem.W.nsIn K mainGlobals "NO_LINES" = some (some (.str "-" tk_noLines)))
    (c_mark : PySem.W.nsIn K mainGlobals "LINE_MARK" = some (some (.str "=" tk_mark)))
    (zisinstance : PySem.W.nsIn K mainGlobals "isinstance" = some none)
    (zstr : PySem.W.nsIn K mainGlobals "str" = some none)
    (zall : PySem.W.nsIn K mainGlobals "all" = some none)
    (zlen : PySem.W.nsIn K mainGlobals "len" = some none)
    (ztuple : PySem.W.nsIn K mainGlobals "tuple" = some none)
    (zlist : PySem.W.nsIn K mainGlobals "list" = some none)
    (zsorted : PySem.W.nsIn K mainGlobals "sorted" = some none)
    (zset : PySem.W.nsIn K mainGlobals "set" = some none)
    (zsum : PySem.W.nsIn K mainGlobals "sum" = some none)
    (zabs : PySem.W.nsIn K mainGlobals "abs" = some none)
    (zint : PySem.W.nsIn K mainGlobals "int" = some none)
    (zrange : PySem.W.nsIn K mainGlobals "range" = some none)
    (zmax : PySem.W.nsIn K mainGlobals "max" = some none)
    (zmin : PySem.W.nsIn K mainGlobals "min" = some none)
    (zrepr : PySem.W.nsIn K mainGlobals "repr" = some none)
    (zdict : PySem.W.nsIn K mainGlobals "dict" = some none)
    : ∃ fd : FuncData, (∀ (s : Shared) (v : Value), BindsTo s fd ⟨[v], []⟩ [("_law_script", v)]) ∧ ∀ base : Heap, K.In base → base.Ns mainGlobals mg → FnG l.prog w K mg base CX0 6 fa fd ["_law_script"] (spLaw K) := by
  have e := hfa.symm.trans (PySem.W.mg_of X G aZ)
  cases e
  have T : Txt mg := ⟨⟨_, PySem.W.mg_of X G c_letters⟩, ⟨_, PySem.W.mg_of X G c_signs⟩, ⟨_, PySem.W.mg_of X G c_word⟩, ⟨_, PySem.W.mg_of X G c_name⟩, ⟨_, PySem.W.mg_of X G c_noLines⟩, ⟨_, PySem.W.mg_of X G c_mark⟩, PySem.W.mg_none_of X G zisinstance, PySem.W.mg_none_of X G zstr, PySem.W.mg_none_of X G zall, PySem.W.mg_none_of X G zlen, PySem.W.mg_none_of X G ztuple, PySem.W.mg_none_of X G zlist, PySem.W.mg_none_of X G zsorted, PySem.W.mg_none_of X G zset⟩
  have R : Errs K mg cP iP cT iT := ⟨tP, tT, yP, yT⟩
  have A1 : Apart K cP cT := ⟨PySem.W.exm_ref tT.exC tT.hdC yT sTT, PySem.W.exm_ref tT.exC tT.hdC yT sPT, PySem.W.exm_ref tP.exC tP.hdC yP sPP⟩
  have B : Blt mg := ⟨PySem.W.mg_none_of X G zsum, PySem.W.mg_none_of X G zlen, PySem.W.mg_none_of X G zabs, PySem.W.mg_none_of X G zint⟩
  have O : Own mg := ⟨PySem.W.mg_none_of X G zrange, PySem.W.mg_none_of X G zmax, PySem.W.mg_none_of X G zmin, PySem.W.mg_none_of X G zrepr, PySem.W.mg_none_of X G zdict⟩
  have FL := fun_mk (st := sLine) lL gL kL
  have FN := fun_mk (st := sName) lN gN kN
  have FG := fun_mk (st := sPage) lG gG kG
  have FS := fun_mk (st := sSigns) lS gS kS
  have FW := fun_mk (st := sWord) lW gW kW
  have FH := fun_mk (st := sShow) lH gH kH
  have FR := fun_mk (st := sRead) lR gR kR
  have FO := fun_mk (st := sPool) lO gO kO
  have FD := fun_mk (st := sDraw) lD gD kD
  have FT := fun_mk (st := sSome) lT gT kT
  have FM := fun_mk (st := sMade) lM gM kM
  have FU := fun_mk (st := sDue) lU gU kU
  have FX := fun_mk (st := sTold) lX gX kX
  have FZ := fun_mk (st := sLaw) lZ gZ kZ
  have bL := FL.binds (ps := ["value"]) fun _ _ _ _ _ _ us hl => match us, hl with | [_], _ => rfl
  have bN := FN.binds (ps := ["value"]) fun _ _ _ _ _ _ us hl => match us, hl with | [_], _ => rfl
  have bG := FG.binds (ps := ["value"]) fun _ _ _ _ _ _ us hl => match us, hl with | [_], _ => rfl
  have bS := FS.binds (ps := ["value"]) fun _ _ _ _ _ _ us hl => match us, hl with | [_], _ => rfl
  have bW := FW.binds (ps := ["value"]) fun _ _ _ _ _ _ us hl => match us, hl with | [_], _ => rfl
  have bH := FH.binds (ps := ["page"]) fun _ _ _ _ _ _ us hl => match us, hl with | [_], _ => rfl
  have bR := FR.binds (ps := ["text"]) fun _ _ _ _ _ _ us hl => match us, hl with | [_], _ => rfl
  have bO := FO.binds (ps := ["_law_script", "_law_k"]) fun _ _ _ _ _ _ us hl => match us, hl with | [_, _], _ => rfl
  have bD := FD.binds (ps := ["_law_pool_here", "_law_many"]) fun _ _ _ _ _ _ us hl => match us, hl with | [_, _], _ => rfl
  have bT := FT.binds (ps := ["_law_pool_here"]) fun _ _ _ _ _ _ us hl => match us, hl with | [_], _ => rfl
  have bM := FM.binds (ps := ["_law_text"]) fun _ _ _ _ _ _ us hl => match us, hl with | [_], _ => rfl
  have bU := FU.binds (ps := ["_law_thing"]) fun _ _ _ _ _ _ us hl => match us, hl with | [_], _ => rfl
  have bX := FX.binds (ps := ["_law_door", "_law_thing"]) fun _ _ _ _ _ _ us hl => match us, hl with | [_, _], _ => rfl
  exact ⟨PySem.W.fnOf "law" "law" (defArgs sLaw) (defBody sLaw) (defScope sLaw) .none kvZ dcZ pmZ anZ cdZ ctZ, fun s v => .of_eq rfl, fun base _ _ => ok_law FZ T R A1 B O FL bL (PySem.W.mg_of X G aL) FN bN (PySem.W.mg_of X G aN) FG bG (PySem.W.mg_of X G aG) FS bS (PySem.W.mg_of X G aS) FW bW (PySem.W.mg_of X G aW) FH bH (PySem.W.mg_of X G aH) FR bR (PySem.W.mg_of X G aR) FO bO (PySem.W.mg_of X G aO) FD bD (PySem.W.mg_of X G aD) FT bT (PySem.W.mg_of X G aT) FM bM (PySem.W.mg_of X G aM) FU bU (PySem.W.mg_of X G aU) FX bX (PySem.W.mg_of X G aX)⟩
end K01

open PySem PySem.W PyProof.Rows
set_option maxHeartbeats 0 in
theorem PySem.Challenge.cw_surelyhas_k01_lines_pages_and_words_holds : PySem.Challenge.rw_surelyhas_k01_lines_pages_and_words.Holds := by
  w_on; o_law; k_head; (case hw => w_witness2)
  k_fill
  refine L2.walk_ofG (l := PySem.Challenge.rw_surelyhas_k01_lines_pages_and_words) (n := 63) (k := 6) (x := "_law_script") (sp := fun w => K01.spLaw _) rfl (by decide) rfl ⟨rfl, by decide, by decide⟩ (fun w h Y => PySem.W.kIn_of Y) ?F (fun _ _ a ns hl _ hS => ⟨a, ns, rfl, hS, hl, fun _ => rfl⟩)
  case F =>
    intro w mg fa h KX G hmg
    refine' K01.all_mk KX G hmg ?tP ?yP ?tT ?yT ?sTT ?sPT ?sPP ?aL ?lL ?gL ?kL ?aN ?lN ?gN ?kN ?aG ?lG ?gG ?kG ?aS ?lS ?gS ?kS ?aW ?lW ?gW ?kW ?aH ?lH ?gH ?kH ?aR ?lR ?gR ?kR ?aO ?lO ?gO ?kO ?aD ?lD ?gD ?kD ?aT ?lT ?gT ?kT ?aM ?lM ?gM ?kM ?aU ?lU ?gU ?kU ?aX ?lX ?gX ?kX ?aZ ?lZ ?gZ ?kZ ?c_letters ?c_signs ?c_word ?c_name ?c_noLines ?c_mark ?zisinstance ?zstr ?zall ?zlen ?ztuple ?zlist ?zsorted ?zset ?zsum ?zabs ?zint ?zrange ?zmax ?zmin ?zrepr ?zdict
    (case tP => refine' K01.mk_err KX G (.inl rfl) ?aC ?ini ?over ?sa ?ga ?gg ?noN ?noT ?iC ?tC ?kC ?exC ?hdC ?clC ?obC ?spC ?taC ?lf ?cf; (case aC => k_is); (case ini => kx_is); (case over => kx_is); (case sa => k_is); (case ga => k_is); (case gg => k_is); (case noN => k_is); (case noT => k_is); (case iC => k_is); (case tC => k_is); (case kC => k_is); (case exC => k_is); (case hdC => k_is); (case clC => k_is); (case obC => k_is); (case spC => k_is); (case taC => k_is); (case lf => k_is); (case cf => k_is))
    (case yP => k_is)
    (case tT => refine' K01.mk_err KX G (.inr (.inr (.inl rfl))) ?aC ?ini ?over ?sa ?ga ?gg ?noN ?noT ?iC ?tC ?kC ?exC ?hdC ?clC ?obC ?spC ?taC ?lf ?cf; (case aC => k_is); (case ini => kx_is); (case over => kx_is); (case sa => k_is); (case ga => k_is); (case gg => k_is); (case noN => k_is); (case noT => k_is); (case iC => k_is); (case tC => k_is); (case kC => k_is); (case exC => k_is); (case hdC => k_is); (case clC => k_is); (case obC => k_is); (case spC => k_is); (case taC => k_is); (case lf => k_is); (case cf => k_is))
    (case yT => k_is)
    (case sTT => k_is); (case sPT => k_is); (case sPP => k_is)
    (case aL => k_is); (case lL => k_is); (case gL => k_is); (case kL => k_is)
    (case aN => k_is); (case lN => k_is); (case gN => k_is); (case kN => k_is)
    (case aG => k_is); (case lG => k_is); (case gG => k_is); (case kG => k_is)
    (case aS => k_is); (case lS => k_is); (case gS => k_is); (case kS => k_is)
    (case aW => k_is); (case lW => k_is); (case gW => k_is); (case kW => k_is)
    (case aH => k_is); (case lH => k_is); (case gH => k_is); (case kH => k_is)
    (case aR => k_is); (case lR => k_is); (case gR => k_is); (case kR => k_is)
    (case aO => k_is); (case lO => k_is); (case gO => k_is); (case kO => k_is)
    (case aD => k_is); (case lD => k_is); (case gD => k_is); (case kD => k_is)
    (case aT => k_is); (case lT => k_is); (case gT => k_is); (case kT => k_is)
    (case aM => k_is); (case lM => k_is); (case gM => k_is); (case kM => k_is)
    (case aU => k_is); (case lU => k_is); (case gU => k_is); (case kU => k_is)
    (case aX => k_is); (case lX => k_is); (case gX => k_is); (case kX => k_is)
    (case aZ => k_is); (case lZ => k_is); (case gZ => k_is); (case kZ => k_is)
    (case c_letters => k_is); (case c_signs => k_is); (case c_word => k_is); (case c_name => k_is); (case c_noLines => k_is); (case c_mark => k_is)
    (case zisinstance => k_is); (case zstr => k_is); (case zall => k_is); (case zlen => k_is); (case ztuple => k_is); (case zlist => k_is); (case zsorted => k_is); (case zset => k_is); (case zsum => k_is); (case zabs => k_is); (case zint => k_is); (case zrange => k_is); (case zmax => k_is); (case zmin => k_is); (case zrepr => k_is); (case zdict => k_is)
