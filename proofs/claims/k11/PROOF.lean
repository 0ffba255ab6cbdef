import PyProof.Rows.All
import Wide.All
import OpenK.AllK
import Wide.FinOn
import PySem.Challenge.RW_surelyhas_k11_families_and_pieces
import PyProof.EqAt
import KE.KExcIs
import KE.KExcInit
import KE.KExcLine
import HandS.ForMost
import HandS.Exc
import HandS.IsInst
import HandS.ExcInit
import HandS.ExcValue
import HandS.SetFor
import HandS.TupLe
import HandS.Walk
import HandS.TryMany
import HandS.SetTxt0
import HandS.Set
import HandS.More
import HandS.ForExc
import HandS.TupAny
import HandS.ExcIs
import HandS.Strs
import HandS.Star
import HandS.Zip
import HandS.Property
import HandS.OwnEq
import HandS.SlotsOwn
import HandS.NoneIn
import HandS.Style
set_option Elab.async false
set_option linter.all false
set_option maxRecDepth 100000
set_option maxHeartbeats 2000000
/-! k11 -/

namespace PySem
namespace ErrX
open PySem.W PySem.Calls PyProof.Rows PySem.HandSPX Builtin Builtin.ObjectAttr
section
variable {M : Model} {A : Around} {E : Value → Shared → Prop} {hp : Heap} {gs : Array GenState} {dr : Drawn} {tk : Nat} {os : OsState}
variable {nm q : Str} {C N : Addr} {bs bm bmB : List Value} {hdct : Bool} {sn : List Str} {sub : List Value} {ab : Bool} {col : Option Bool} {dd : Option Addr} {k0 k1 k2 k3 k5 : Option Value} {B newId initId : String}
/-- the check ahead of the base's __new__, keywords among what it is handed -/
theorem chk_new (F : ExcBaseFacts B newId initId bmB) (hT : ∀ X : String, bm.contains (.type X) = bmB.contains (.type X)) {zs : List Value} {kw : List (Str × Value)} {Q : Unit → Shared → Prop}
    (cC : hp.get? C = some (excClassObj nm q C N bs bm hdct sn sub ab col dd k0 k1 k2 k3 k5 newId)) (fin : Q () ⟨hp, gs, dr, tk, os⟩) : wpAny M A (checkBuiltinCall newId ⟨.ref C :: zs, kw⟩) Q E ⟨hp, gs, dr, tk, os⟩ := by
  have inB : (Value.ref C :: bm).contains (.type B) = true := by rw [List.contains_cons, hT, F.hasB, Bool.or_true]
  have nst := F.noStar
  simp only [checkBuiltinCall, F.newKind, F.newSplit, F.newRow]
  repeat (first | refine wpAny_loadPart_at cC ?_ | (refine wpAny_isSubtype_exc cC ?_; rw [inB]) | refine wpAny_staticBase_exc cC ?_ | refine wpAny_madeBy_exc cC ?_ | simp only [bne_self_eq_false, Bool.false_eq_true, if_false] | wp_step)
  exact fin
end
section
variable {prog : Program} {w : World} {A : Around} {E : Value → Shared → Prop} {R : Result → Shared → Prop} {hp : Heap} {gs : Array GenState} {dr : Drawn} {tk : Nat} {os : OsState}
variable {nm q : Str} {C N : Addr} {bs bm bmB : List Value} {hdct : Bool} {sn : List Str} {sub : List Value} {ab : Bool} {col : Option Bool} {dd : Option Addr} {k0 k1 k2 k3 k5 : Option Value} {B newId initId : String}
/-- the base's __new__ of such a class, keywords let alone -/
theorem base_new (F : ExcBaseFacts B newId initId bmB) (hT : ∀ X : String, bm.contains (.type X) = bmB.contains (.type X)) {zs : List Value} {kw : List (Str × Value)}
    (cC : hp.get? C = some (excClassObj nm q C N bs bm hdct sn sub ab col dd k0 k1 k2 k3 k5 newId)) (lz : zs.length ≤ sizeLine)
    (fin : R (.ok (.ret (.ref (hp.objs.size + 1)))) ⟨(hp.push (W.kdv_tup zs)).push (excO C hp.objs.size), gs, dr, tk, os⟩) :
    codeAny (model prog w) A (.builtin newId ⟨.ref C :: zs, kw⟩) R ⟨hp, gs, dr, tk, os⟩ := by
  have nds := F.ends
  have inB : (Value.ref C :: bm).contains (.type B) = true := by rw [List.contains_cons, hT, F.hasB, Bool.or_true]
  have noA : (Value.ref C :: bm).contains (.type "AttributeError") = false := by rw [List.contains_cons, hT, F.noAttr]; rfl
  have noN : (Value.ref C :: bm).contains (.type "NameError") = false := by rw [List.contains_cons, hT, F.noName]; rfl
  refine codeAny_builtinAt F.entry ?_
  unfold Builtin.«BaseException.__new__»
  refine wpAt_bind ?_
  show wpAt _ _ _ (stack >>= _) _ _ _
  refine wpAt_bind (wpAt_stack fun _ _ => wpAt_of_wpAny ?_)
  wp_walk
  refine wpAt_of_wpAny ?_
  rw [F.owner]
  repeat (first | with_reducible refine wpAny_madeHere_exc F.canon cC ?_ | with_reducible refine wpAny_loadPart_at cC ?_ | (with_reducible refine wpAny_isSubtype_exc cC ?_; first | rw [inB] | rw [noA] | rw [noN]) | wp_step)
  show R _ _
  rw [Heap.size_push]
  exact fin
/-- type.__call__ of it: __new__, then its own __init__, with the same values and keywords -/
theorem type_call (F : ExcBaseFacts B newId initId bmB) (hT : ∀ X : String, bm.contains (.type X) = bmB.contains (.type X)) {zs : List Value} {kw : List (Str × Value)} {fI : Addr} {Q : Fin → Shared → Prop}
    (cC : hp.get? C = some (excClassObj nm q C N bs bm hdct sn sub ab col dd k0 k1 k2 k3 k5 newId))
    (hi : W.Looks (model prog w) hp (typeLookup (.ref C) "__init__") (some (.ref fI))) (hb : ∀ z, W.Looks (model prog w) hp (bindSpecial (.ref fI) z) (.ref fI, [z])) (lz : zs.length ≤ sizeLine)
    (fin : codeAny (model prog w) A (.call (.ref fI) ⟨.ref (hp.objs.size + 1) :: zs, kw⟩)
      (fun r s' => match r with | .ok (.ret v) => v = .none ∧ Q (.done (.ret (.ref (hp.objs.size + 1)))) s' | .ok _ => False | .error e => E e s')
      ⟨(hp.push (W.kdv_tup zs)).push (excO C hp.objs.size), gs, dr, tk, os⟩) :
    wpAny (model prog w) A (Builtin.«type.__call__» ⟨.ref C :: zs, kw⟩) Q E ⟨hp, gs, dr, tk, os⟩ := by
  repeat (first | with_reducible refine wpAny_loadPart_at cC ?_ | with_reducible refine wpAny_madeBy_exc cC ?_ | wp_step)
  refine codeAny_call_builtin_code (Code.quiet_builtin _ F.quiet) (chk_new F hT cC (base_new F hT cC lz ?_))
  show wpAny _ _ _ _ _ _
  have kp : ∀ b o, hp.get? b = some o → ((hp.push (W.kdv_tup zs)).push (excO C hp.objs.size)).get? b = some o := fun b o z => Heap.get?_push_of_some _ (Heap.get?_push_of_some _ z)
  have cC1 := kp _ _ cC
  have at1 : ((hp.push (W.kdv_tup zs)).push (excO C hp.objs.size)).get? (hp.objs.size + 1) = some (excO C hp.objs.size) := by heap_get
  have inC : (Value.ref C :: bm).contains (.ref C) = true := by simp
  have hi1 := hi.keeps kp
  have hb1 := (hb (.ref (hp.objs.size + 1))).keeps kp
  unfold isInstance
  repeat (first | with_reducible refine wpAny_loadPart_at at1 ?_ | (with_reducible refine wpAny_isSubtype_exc cC1 ?_; rw [inC]) | wp_step)
  show wpAny _ _ (typeLookup (.ref C) _) _ _ _
  refine hi1.at (wpAny_holding (wpAny_bind (hb1.at (wpAny_bind (wpAny_call (codeAny_mono fin fun r s' z => ?_))))))
  rcases r with e | (v | _ | _ | _) <;> first | exact z | exact z.elim | skip
  obtain ⟨rfl, z⟩ := z
  first | exact wpAny_pure (wpAny_pure z) | (wp_walk; exact z)
/-- X(..), X(f=..), X an own exception class with an __init__ of its own -/
theorem call_cls (F : ExcBaseFacts B newId initId bmB) (hT : ∀ X : String, bm.contains (.type X) = bmB.contains (.type X)) {zs : List Value} {kw : List (Str × Value)} {fI : Addr}
    (cC : hp.get? C = some (excClassObj nm q C N bs bm hdct sn sub ab col dd k0 k1 k2 k3 k5 newId))
    (hi : W.Looks (model prog w) hp (typeLookup (.ref C) "__init__") (some (.ref fI))) (hb : ∀ z, W.Looks (model prog w) hp (bindSpecial (.ref fI) z) (.ref fI, [z])) (lz : zs.length ≤ sizeLine)
    (fin : codeAny (model prog w) (A.under (.builtin "type.__call__" ⟨.ref C :: zs, kw⟩)) (.call (.ref fI) ⟨.ref (hp.objs.size + 1) :: zs, kw⟩) (W.InitBack (hp.objs.size + 1) R)
      ⟨(hp.push (W.kdv_tup zs)).push (excO C hp.objs.size), gs, dr, tk, os⟩) :
    codeAny (model prog w) A (.call (.ref C) ⟨zs, kw⟩) R ⟨hp, gs, dr, tk, os⟩ := by
  have look := tc_lookup
  have bnd := tc_bind (.ref C)
  have ty : (⟨hp, gs, dr, tk, os⟩ : Shared).TypeIs (.ref C) "type" := ⟨_, cC, rfl⟩
  refine codeAny_of_tree ?_
  show wpAny _ _ (callAny (.ref C) _) _ _ _
  repeat (any_goals (first | assumption | with_reducible refine wpAny_loadPart_at cC ?_ | wp_step))
  refine ⟨rfl, codeAny_call_builtin_at (Code.quiet_builtin _ (by decide +kernel)) entry_typeCall (wpAny_check_type_call_sub cC (type_call F hT cC hi hb lz ?_))⟩
  refine codeAny_mono fin fun r s' z => ?_
  rcases r with e | (v | _ | _ | _) <;> exact z
end
end ErrX
end PySem
namespace PySem
namespace ErrX
open PySem.W PySem.Calls PyProof.Rows PySem.HandSPX Builtin Builtin.ObjectAttr
abbrev exTail : List Value := [.type "Exception", .type "BaseException", .type "object"]
/-- def __init__(self, f): self.f = f, as it stands in the text -/
def iArgs (f : Str) (p1 p2 : Pos) : Arguments := { posonlyargs := [], args := [{ arg := "self", annotation := none, pos := p1 }, { arg := f, annotation := none, pos := p2 }], vararg := none, kwonlyargs := [], kw_defaults := [], kwarg := none, defaults := [] }
def iBody (f : Str) (q1 q2 q3 q4 : Pos) : List Stmt := [.Assign [.Attribute (.Name "self" q1) f q2] (.Name f q3) q4]
def iScope (f : Str) : Scope := { kind := .function, names := [(PySem.Str.ofString "self", .local), (f, .local)], isGenerator := false, isCoroutine := false, more := [] }
/-- the fields' names -/
def Fld (f : Str) : Prop := f = "value" ∨ f = "name" ∨ f = "at" ∨ f = "number" ∨ f = "line"
/-- what the written part says of an error's class, at C, and of its __init__, at fI -/
structure ErrTxt (K : Frag) (mg : Str → Option Value) (nm f : Str) (C fI : Addr) : Prop where
  fld : Fld f
  gC : mg nm = some (.ref C)
  ini : excInitIn K C exTail "Exception.__new__" = true
  over : excOver K C exTail = true
  sa : findIn K (.ref C) "__setattr__" = some (some (.builtin "object.__setattr__"))
  ga : findIn K (.ref C) "__getattribute__" = some (some (.builtin "BaseException.__getattribute__"))
  gg : findIn K (.ref C) "__getattr__" = some none
  noN : findIn K (.ref C) f = some none
  noT : takerIn K C f = some none
  iC : findIn K (.ref C) "__init__" = some (some (.ref fI))
  tC : typeIn K (.ref fI) = some (.type "function")
  kC : keepIn K (.ref C) = true
  exC : subIn K (.ref C) (.type "BaseException") = some true
  hdC : hasDictIn K C = true
  clC : findIn K (.ref C) "__class__" = some (some (.builtin "object.__class__"))
  obC : mroIn K C (.type "object") = some true
  spC : specialIn K (.builtin "object.__class__") "__get__" = some (some (.builtin "getset_descriptor.__get__"))
  taC : takesIn K (.builtin "object.__class__") = some true
  fn : ∃ (oc : Value) (od : Option Addr) (qual : Str) (doc pm : Value) (an : Option Addr) (cdv ct : Value) (osl : Array (Option Value)) (p1 p2 q1 q2 q3 q4 : Pos),
    K.lookup fI = some ⟨oc, od, .func (fnOf "__init__" qual (iArgs f p1 p2) (iBody f q1 q2 q3 q4) (iScope f) .none .none doc pm an cdv ct), osl⟩ ∧ codeIn K cdv qual = true
theorem err_one (v : Value) : [v].length ≤ sizeLine := by
  rw [sizeLine_eq]
  exact (by decide : 1 ≤ 16777216)
section
variable {prog : Program} {w : World} {A : Around} {E : Value → Shared → Prop} {R : Result → Shared → Prop} {s : Shared} {K : Frag} {mg : Str → Option Value} {nm f : Str} {C fI : Addr}
/-- a first store on an exception that has no dict yet -/
theorem first_store {x t0 : Addr} {tk : Tok} {v : Value} (T : ErrTxt K mg nm f C fI) (X : K.In s.heap) (hx : s.heap.get? x = some (excO C t0))
    (fin : ∀ h' tk' dx, (∀ b o, b ≠ x → s.heap.get? b = some o → h'.get? b = some o) → s.heap.objs.size ≤ dx → dx ≠ x → h'.get? x = some { cls := .ref C, dict := some dx, data := .fields #[.ref t0, .none, .none, .none, .bool false, .none] } →
      h'.Ns1 dx (fun y => if y = f then some v else none) → R (.ok (.ret .none)) { s with heap := h', toks := tk' }) :
    codeAny (model prog w) A (.call (.builtin "object.__setattr__") ⟨[.ref x, .str f tk, v], []⟩) R s := by
  have I : W.InstAt s.heap x (excO C t0) C none := ⟨hx, rfl, rfl, trivial⟩
  obtain ⟨cd, hcd, hh⟩ := any_some T.hdC
  have far : x ≠ s.heap.objs.size := Nat.ne_of_lt (Heap.lt_size hx)
  have lk : W.Looks (model prog w) s.heap (classData C) cd := W.looks_clsIn X hcd
  refine osa_openX F.store_Exception X I T.over T.noT fun b => ?_
  show wpAny _ _ (storeInOwnDict (.ref x) (.ref C) (.str f tk) f v b) _ _ _
  obtain ⟨hp, g, d, t, os⟩ := s
  obtain ⟨cn, cb, cm, cns, cq, chd, csn, csb, cab, ccol, cdel⟩ := cd
  dsimp only at hh
  subst hh
  unfold storeInOwnDict ownDictForStores
  cases b <;>
  · repeat (first | with_reducible refine store_in_new ?_ ?_ | with_reducible refine wpAny_loadPart_at hx ?_ | with_reducible refine lk.at ?_ | wp_step)
    · exact ⟨_, #[], _, (Heap.get?_update_ne _ _ _ _ far.symm).trans (Heap.get?_push_at rfl rfl), rfl, fun e he => absurd he (by simp), fun _ => rfl⟩
    · intro h' tk' hn' hs
      have hx1 : (hp.push { cls := .type "dict", data := .dict #[] }).get? x = some (excO C t0) := Heap.get?_push_of_some _ hx
      refine fin h' tk' hp.objs.size (fun b o hb ho => ?_) (Nat.le_refl _) far.symm ?_ hn'
      · exact (hs.2 b (Nat.ne_of_lt (Heap.lt_size ho))).trans ((Heap.get?_update_ne _ _ _ _ hb).trans (Heap.get?_push_of_some _ ho))
      · exact (hs.2 x far).trans (Heap.get?_update_self _ hx1 rfl)
end
end ErrX
end PySem

namespace PySem
namespace ErrX
open PySem.W PySem.Calls PyProof.Rows PySem.HandSPX Builtin Builtin.ObjectAttr
theorem keeps_except {K : Frag} {h h' : Heap} {x : Addr} (X : K.In h) (hx : K.lookup x = none) (k : ∀ b o, b ≠ x → h.get? b = some o → h'.get? b = some o) : K.In h' :=
  fun a o e => k a o (fun z => by rw [z, hx] at e; cases e) (X a o e)
theorem load_loc {M : Model} {s : Shared} {qual : Str} {scope : Scope} {L a : Addr} {cd : Value} {m : Str → Option Value} {x : Str} {pos : Pos} {v : Value} {Q : Value → Shared → Prop} {A : Around} {E : Value → Shared → Prop} (hn : s.heap.Ns L m) (hv : m x = some v) (h : Q v s)
    (hk : scope.kind = .function) (hl : (envOfC qual scope L a cd).kindOf x = some .local) (hd : (x == ("__debug__" : Str)) = false) :
    wpAny M A (eval (.Name x pos) (envOfC qual scope L a cd)) Q E s := wpAny_Name (wpAny_loadName_local hk hl hn hv h) hd
/-- a made error at e: its own dict d holds the field; what stood before stands -/
structure ErrMade (h h' : Heap) (e C d : Addr) (f : Str) (v : Value) : Prop where
  keep : ∀ b o, h.get? b = some o → h'.get? b = some o
  new : h.objs.size ≤ e
  obj : ∃ t0, h'.get? e = some { cls := .ref C, dict := some d, data := .fields #[.ref t0, .none, .none, .none, .bool false, .none] }
  dnew : h.objs.size ≤ d
  dne : d ≠ e
  ns : h'.Ns1 d (fun y => if y = f then some v else none)
/-- how the call hands the value: by position, or by the field's name -/
def handed (f : Str) (v : Value) (byName : Bool) : List Value × List (Str × Value) := if byName then ([], [(f, v)]) else ([v], [])
section
variable {prog : Program} {w : World} {A : Around} {E : Value → Shared → Prop} {R : Result → Shared → Prop} {s : Shared} {K : Frag} {mg : Str → Option Value} {nm f : Str} {C fI : Addr}
theorem err_init (T : ErrTxt K mg nm f C fI) {x t0 : Addr} {v : Value} {byName : Bool} (X : K.In s.heap) (hlim : s.heap.NoLimit) (hx : s.heap.get? x = some (excO C t0)) (hnx : K.lookup x = none) (hroom : A.depth < recursionLimit)
    (fin : ∀ h' tk dx, (∀ b o, b ≠ x → s.heap.get? b = some o → h'.get? b = some o) → s.heap.objs.size ≤ dx → dx ≠ x → h'.get? x = some { cls := .ref C, dict := some dx, data := .fields #[.ref t0, .none, .none, .none, .bool false, .none] } →
      h'.Ns1 dx (fun y => if y = f then some v else none) → R (.ok (.ret .none)) { s with heap := h', toks := tk }) :
    codeAny (model prog w) A (.call (.ref fI) ⟨.ref x :: (handed f v byName).1, (handed f v byName).2⟩) R s := by
  obtain ⟨oc, od, qual, doc, pm, an, cdv, ct, osl, p1, p2, q1, q2, q3, q4, ho, hcd⟩ := T.fn
  have bnd : BindsTo s (fnOf "__init__" qual (iArgs f p1 p2) (iBody f q1 q2 q3 q4) (iScope f) .none .none doc pm an cdv ct) ⟨.ref x :: (handed f v byName).1, (handed f v byName).2⟩ [("self", .ref x), (f, v)] := by
    rcases T.fld with rfl | rfl | rfl | rfl | rfl <;> cases byName <;> exact BindsTo.of_eq (by first | rfl | with_unfolding_all rfl)
  have kS : (iScope f).names.lookup ("self" : Str) = some .local ∧ (iScope f).names.lookup f = some .local ∧ (f == ("__debug__" : Str)) = false ∧ f ≠ ("self" : Str) := by
    rcases T.fld with rfl | rfl | rfl | rfl | rfl <;> exact ⟨by decide +kernel, by decide +kernel, by decide +kernel, by decide +kernel⟩
  refine Att.call_fn (binds := [("self", .ref x), (f, v)]) X hlim ho hcd hroom bnd ?_ (fun s1 IC => ?_) rfl rfl rfl
  · rcases T.fld with rfl | rfl | rfl | rfl | rfl <;> first | rfl | decide | with_unfolding_all rfl
  obtain ⟨h1, tk1, rfl⟩ := IC.toInCall.same
  have k1 : ∀ b o, s.heap.get? b = some o → h1.get? b = some o := IC.toInCall.keep
  have hn := IC.toInCall.ns
  have X1 : K.In h1 := X.keeps k1
  have hx1 := k1 _ _ hx
  show wpAny _ _ (execs _ _) _ _ _
  refine wpAny_execs_cons (plainObj_wpAny_Assign_Attribute ?_ ?sw)
  case sw => rcases T.fld with rfl | rfl | rfl | rfl | rfl <;> rfl
  refine load_loc (v := v) hn ?m1 (load_loc (v := .ref x) hn ?m2 ?_ rfl ?k2 rfl) rfl ?k1 kS.2.2.1
  case m1 => rcases T.fld with rfl | rfl | rfl | rfl | rfl <;> first | rfl | with_unfolding_all rfl | kernel_rfl
  case m2 => rcases T.fld with rfl | rfl | rfl | rfl | rfl <;> first | rfl | with_unfolding_all rfl | kernel_rfl
  case k1 => rcases T.fld with rfl | rfl | rfl | rfl | rfl <;> rfl
  case k2 => rcases T.fld with rfl | rfl | rfl | rfl | rfl <;> rfl
  refine set_plain X1 (ox := excO C t0) (od := none) ⟨hx1, rfl, rfl, trivial⟩ T.sa ?_
  refine first_store T X1 hx1 fun h3 tk3 dx k3 dn dne hx3 hn3 => ?_
  show wpAny _ _ (execs _ _) _ _ _
  have lt1 : s.heap.objs.size < h1.objs.size := hn.lt
  exact wpAny_execs_nil (fin h3 tk3 dx (fun b o hb z => k3 b o hb (k1 b o z)) (Nat.le_of_lt (Nat.lt_of_lt_of_le lt1 dn)) dne hx3 hn3)
theorem err_made (T : ErrTxt K mg nm f C fI) {v : Value} {byName : Bool} (X : K.In s.heap) (hlim : s.heap.NoLimit) (hroom : A.depth + 1 < recursionLimit)
    (fin : ∀ h' tk e d, ErrMade s.heap h' e C d f v → R (.ok (.ret (.ref e))) { s with heap := h', toks := tk }) :
    codeAny (model prog w) A (.call (.ref C) ⟨(handed f v byName).1, (handed f v byName).2⟩) R s := by
  obtain ⟨mn, N, q, bs, bm, hdct, sn, sub, ab, col, dd, k0, k1, k2, k3, k5, hC, hT⟩ := excInit_of X T.ini
  obtain ⟨hp, g, dr, tk, os⟩ := s
  have lz : (handed f v byName).1.length ≤ sizeLine := by
    cases byName
    · exact err_one v
    · exact Nat.zero_le _
  have kp : ∀ b o, hp.get? b = some o → ((hp.push (W.kdv_tup (handed f v byName).1)).push (excO C hp.objs.size)).get? b = some o := fun b o e => Heap.get?_push_of_some _ (Heap.get?_push_of_some _ e)
  have hget : ((hp.push (W.kdv_tup (handed f v byName).1)).push (excO C hp.objs.size)).get? (hp.objs.size + 1) = some (excO C hp.objs.size) := by heap_get
  have hnx : K.lookup (hp.objs.size + 1) = none := by
    cases e : K.lookup (hp.objs.size + 1) with
    | none => rfl
    | some o =>
      have z : hp.get? (hp.objs.size + 1) = some o := X _ _ e
      exact absurd (Nat.lt_of_succ_lt (Heap.lt_size z)) (Nat.lt_irrefl _)
  refine call_cls F.excBase_Exception hT hC (looks_findIn X T.iC) (fun z => bind_fn X z T.tC) lz ?_
  refine err_init (s := ⟨(hp.push (W.kdv_tup (handed f v byName).1)).push (excO C hp.objs.size), g, dr, tk, os⟩) T (X.keeps kp) (hlim.keeps kp) hget hnx ?_ fun h' tk' dx k' dn dne hx hns => ?_
  · have e : (A.under (.builtin "type.__call__" ⟨.ref C :: (handed f v byName).1, (handed f v byName).2⟩)).depth = A.depth + 1 := by
      first | rfl | simp [Around.under, Code.weight, Code.isCreation, Code.isGuard, Code.isCaller, Code.frames, Code.isFrame, guardIds]
    rw [e]
    exact hroom
  · have old : ∀ b o, hp.get? b = some o → h'.get? b = some o := fun b o e => k' b o (Nat.ne_of_lt (Nat.lt_succ_of_lt (Heap.lt_size e))) (kp b o e)
    have z : hp.objs.size ≤ dx := by
      have q := dn
      rw [Heap.size_push, Heap.size_push] at q
      omega
    exact ⟨rfl, fin h' tk' (hp.objs.size + 1) dx ⟨old, Nat.le_succ _, ⟨_, hx⟩, z, dne, hns⟩⟩
end
end ErrX
end PySem

namespace L2
open PySem PySem.Spec PyProof.Rows PySem.ErrX
section
variable {X : Cx} {C fI : Addr} {nm f : Str} {a : Expr} {ta : TA} {p pos pos2 kpos : Pos}
theorem relO_one {v : V} {v' : Value} (r : RelV v v') (f g : Str) : RelO (List.lookup g [(f, v)]) (if g = f then some v' else none) := by
  by_cases h : g = f
  · subst h
    rw [if_pos rfl]
    have q : List.lookup g [(g, v)] = some v := by simp [List.lookup]
    rw [q]
    exact r
  · rw [if_neg h]
    have q1 : (g == f) = false := by simpa using h
    have q : List.lookup g [(f, v)] = none := by simp [List.lookup, q1]
    rw [q]
    trivial
/-- one value is handed -/
def tOne (ta : TA) : TE := fun σ H Q => ta σ H fun vs H1 => ∃ v, vs = [v] ∧ Q v H1
/-- a made error and its dict, tracked -/
def tErr (C : Addr) (f : Str) (ta : TA) : TE := fun σ H Q => ta σ H fun vs H1 => ∃ v, vs = [v] ∧
  ∀ e d, H1 e = none → H1 d = none → d ≠ e → Q (.ref e) (upd (upd H1 d (.xd [(f, v)])) e (exo e C (some d)))
/-- the call itself, its value in hand -/
theorem err_call {k : Nat} {byName : Bool} {v' : Value} {s1 : Shared} {E : Value → Shared → Prop} {Q : Value → Shared → Prop} {pins : List (Addr × Obj)} {σ : St} {H1 : Hp} (T : ErrTxt X.K X.mg nm f C fI) (hr : Room k X.A) (I1 : Inv X pins σ H1 s1)
    (h : ∀ h' tk e d, ErrMade s1.heap h' e C d f v' → Q (.ref e) { s1 with heap := h', toks := tk }) :
    wpAny (model X.prog X.w) X.A (call (.ref C) (handed f v' byName).1 (handed f v' byName).2) Q E s1 :=
  wpAny_call (err_made T I1.kIn I1.nolimit (by have := hr.dp; omega) fun h' tk e d M => h h' tk e d M)
/-- what a made error's field reads -/
theorem err_get {v' : Value} {s1 : Shared} {E : Value → Shared → Prop} {Q : Value → Shared → Prop} {pins : List (Addr × Obj)} {σ : St} {H1 : Hp} {h' : Heap} {e d : Addr} {tk : Nat} {b : Bool} (T : ErrTxt X.K X.mg nm f C fI) (I1 : Inv X pins σ H1 s1) (M : ErrMade s1.heap h' e C d f v')
    (hv : PySem.W.handedIn v' = true) (h : ∀ tk', Q v' { s1 with heap := h', toks := tk' }) :
    wpAny (model X.prog X.w) X.A (getAttr (.ref e) f b) Q E { s1 with heap := h', toks := tk } := by
  obtain ⟨t0, he⟩ := M.obj
  obtain ⟨od, ho, hl⟩ := lookIn_ns M.ns
  have J : PySem.W.InstAt h' e _ C (some od) := ⟨he, rfl, rfl, ho⟩
  have KI : X.K.In h' := I1.kIn.keeps M.keep
  exact PySem.HandSPX.exc_get KI J T.ga T.gg T.exC (PySem.W.findObj_own T.hdC T.noN rfl (by rw [hl]; simp)) hv (h _)
/-- the made error and its dict, tracked from here on -/
theorem err_laid {v : V} {v' : Value} {s1 : Shared} {pins : List (Addr × Obj)} {σ : St} {H1 : Hp} {h' : Heap} {e d : Addr} {tk : Nat} (I1 : Inv X pins σ H1 s1) (rv : RelV v v') (M : ErrMade s1.heap h' e C d f v') :
    H1 e = none ∧ H1 d = none ∧ Inv X pins σ (upd (upd H1 d (.xd [(f, v)])) e (exo e C (some d))) { s1 with heap := h', toks := tk } := by
  obtain ⟨t0, he⟩ := M.obj
  obtain ⟨G, g1, g2⟩ := restrict h' fun b => decide (b ≠ e)
  have gk : ∀ b, b ≠ e → G.get? b = h'.get? b := fun b hb => g1 b (decide_eq_true hb)
  have ge : G.get? e = none := g2 e (by simp)
  have old : ∀ b o, s1.heap.get? b = some o → G.get? b = some o := fun b o q => (gk b (Nat.ne_of_lt (Nat.lt_of_lt_of_le (Heap.lt_size q) M.new))).trans (M.keep b o q)
  have back : ∀ b o, G.get? b = some o → h'.get? b = some o := fun b o q => by
    by_cases z : b = e
    · rw [z, ge] at q
      cases q
    · rw [← gk b z]
      exact q
  have n1 : H1 e = none := I1.hok.fresh M.new
  have n2 : H1 d = none := I1.hok.fresh M.dnew
  have o1 : ObjOk X.prog X.w (upd H1 d (.xd [(f, v)])) G d (.xd [(f, v)]) := ⟨_, M.ns.at (fun o q => (gk d M.dne).trans q), fun g => relO_one rv f g⟩
  have J1 : Inv X pins σ (upd H1 d (.xd [(f, v)])) { s1 with heap := G, toks := tk } := I1.laid (t' := tk) old M.dnew o1
  have n3 : upd H1 d (.xd [(f, v)]) e = none := by
    rw [upd_ne (fun z => M.dne z.symm)]
    exact n1
  exact ⟨n1, n2, J1.laidN (h' := h') (t' := tk) back ge n3 (exo_ok he)⟩
theorem pe_errGet {k : Nat} (T : ErrTxt X.K X.mg nm f C fI) (hr : Room k X.A) (ha : PA X [a] ta) (hg : Gl X nm := by rfl) (hdb : (nm == ("__debug__" : Str)) = false := by decide)
    (hb : attributeBase (.Call (.Name nm p) [a] [] pos) f X.env (eval (.Call (.Name nm p) [a] [] pos) X.env) = eval (.Call (.Name nm p) [a] [] pos) X.env := by rfl)
    (he : starEach (a :: []) X.env = (false, eval a X.env) :: starEach [] X.env := by rfl) (hpl : (backTo pos (starEach [] X.env)).any (·.1) = false := by rfl) :
    PE X (.Attribute (.Call (.Name nm p) [a] [] pos) f pos2) (tOne ta) := by
  refine ⟨fun pins s σ H Q I h => attr_of hb ?_⟩
  refine wpAny_Call_Name_kw (ld_glob I hg T.gC ?_ hdb)
  refine PySem.W.callWith_K (h₀ := X.base) I.ok.mod.kin T.kC (thn (ha.run pos pins s σ H _ I h) fun us s1 hh => ?_) he hpl
  obtain ⟨vs, H1, I1, r1, v, ev, q1⟩ := hh
  subst ev
  refine ⟨I1.kIn, ?_⟩
  cases r1 with
  | cons rv rn =>
    rename_i v' us'
    cases rn
    show wpAny _ _ (call (.ref C) [v']) _ _ _
    exact err_call (byName := false) T hr I1 fun h' tk e d M => err_get T I1 M (handed_of rv) fun tk' => ⟨v, H1, I1.kept M.keep, rv, q1⟩
theorem pe_errGetK {k : Nat} (T : ErrTxt X.K X.mg nm f C fI) (hr : Room k X.A) (ha : PK X [⟨some f, a, kpos⟩] ta) (hg : Gl X nm := by rfl) (hdb : (nm == ("__debug__" : Str)) = false := by decide)
    (hb : attributeBase (.Call (.Name nm p) [] [⟨some f, a, kpos⟩] pos) f X.env (eval (.Call (.Name nm p) [] [⟨some f, a, kpos⟩] pos) X.env) = eval (.Call (.Name nm p) [] [⟨some f, a, kpos⟩] pos) X.env := by rfl)
    (hall : (backToKw pos (keywordEach [⟨some f, a, kpos⟩] X.env)).all (·.1.isSome) = true := by rfl) (hks : (backToKw pos (keywordEach [⟨some f, a, kpos⟩] X.env)).filterMap (·.1) = [f] := by rfl)
    (hpl : ((backTo pos (starEach [] X.env)).any (·.1) || (backToKw pos (keywordEach [⟨some f, a, kpos⟩] X.env)).any (·.1.isNone)) = false := by rfl) :
    PE X (.Attribute (.Call (.Name nm p) [] [⟨some f, a, kpos⟩] pos) f pos2) (tOne ta) := by
  refine ⟨fun pins s σ H Q I h => attr_of hb ?_⟩
  refine wpAny_Call_Name_kw (ld_glob I hg T.gC ?_ hdb)
  refine PySem.W.callWith_KW0 (h₀ := X.base) I.ok.mod.kin T.kC hall (thn (ha.run pos pins s σ H _ I h) fun us s1 hh => ?_) hpl
  obtain ⟨vs, H1, I1, r1, v, ev, q1⟩ := hh
  subst ev
  refine ⟨I1.kIn, ?_⟩
  rw [hks]
  cases r1 with
  | cons rv rn =>
    rename_i v' us'
    cases rn
    show wpAny _ _ (call (.ref C) [] [(f, v')]) _ _ _
    exact err_call (byName := true) T hr I1 fun h' tk e d M => err_get T I1 M (handed_of rv) fun tk' => ⟨v, H1, I1.kept M.keep, rv, q1⟩
theorem pe_errMake {k : Nat} (T : ErrTxt X.K X.mg nm f C fI) (hr : Room k X.A) (ha : PA X [a] ta) (hg : Gl X nm := by rfl) (hdb : (nm == ("__debug__" : Str)) = false := by decide)
    (he : starEach (a :: []) X.env = (false, eval a X.env) :: starEach [] X.env := by rfl) (hpl : (backTo pos (starEach [] X.env)).any (·.1) = false := by rfl) :
    PE X (.Call (.Name nm p) [a] [] pos) (tErr C f ta) := by
  refine ⟨fun pins s σ H Q I h => ?_⟩
  refine wpAny_Call_Name_kw (ld_glob I hg T.gC ?_ hdb)
  refine PySem.W.callWith_K (h₀ := X.base) I.ok.mod.kin T.kC (thn (ha.run pos pins s σ H _ I h) fun us s1 hh => ?_) he hpl
  obtain ⟨vs, H1, I1, r1, v, ev, q1⟩ := hh
  subst ev
  refine ⟨I1.kIn, ?_⟩
  cases r1 with
  | cons rv rn =>
    rename_i v' us'
    cases rn
    show wpAny _ _ (call (.ref C) [v']) _ _ _
    refine err_call (byName := false) T hr I1 fun h' tk e d M => ?_
    obtain ⟨n1, n2, J⟩ := err_laid (tk := tk) I1 rv M
    exact ⟨.ref e, _, J, rfl, q1 e d n1 n2 M.dne⟩
/-- isinstance of a made error -/
def rIsErr (K : PySem.W.Frag) : List V → Hp → VK → Prop := fun xs H Q => ∃ (e C d : Addr) (f : Str) (v c : V) (u : Value) (b : Bool), xs = [.ref e, c] ∧ ClsV c u ∧ H e = some (exo e C (some d)) ∧ H d = some (.xd [(f, v)]) ∧
  (∃ mg nm g fI, ErrTxt K mg nm g C fI) ∧ PySem.W.kitOne K (.ref C) u = some b ∧ Q (.bl b) H
theorem call_isErr : CallR X (.builtin "isinstance") (rIsErr X.K) := by
  intro pins s σ H xs us Q I r h
  obtain ⟨e, C, d, f, v, c, u, b, rfl, kc, he, hd, ⟨mg, nm, g, fI, T⟩, ek, q⟩ := h
  obtain ⟨u1, u2, rfl, r1, r2⟩ := vals2 r
  have e2 := kc.eq r2
  subst e2
  cases (show u1 = Value.ref e from r1)
  obtain ⟨t1, hx⟩ := exo_at I.hok he
  obtain ⟨mA, hns, _⟩ := (show ObjOk X.prog X.w H s.heap d (.xd [(f, v)]) from I.hok d _ hd)
  obtain ⟨od, ho, _⟩ := lookIn_ns hns
  have J : PySem.W.InstAt s.heap e _ C (some od) := ⟨hx, rfl, rfl, ho⟩
  have hcl : (PySem.W.clsIn X.K C).isSome = true := by
    obtain ⟨cd, hc, _⟩ := PySem.W.any_some T.hdC
    rw [hc]
    rfl
  exact PySem.W.kia_one (PySem.W.kitx_exc hcl T.ga T.gg T.exC T.clC T.spC T.taC T.obC) I.kIn J ek (fun z => nomatch z) fun tk => ⟨.bl b, H, I.tok tk, rfl, q⟩
end
end L2

namespace L2
open PySem PySem.Spec PyProof.Rows PySem.ErrX
section
variable {X : Cx}
/-- list.count of a flat value, over flat items -/
def rCntF (K : PySem.W.Frag) : V → List V → Hp → VK → Prop := fun x xs H Q => ∃ (p : Addr) (ys : List V) (y : V), x = .ref p ∧ xs = [y] ∧ SqL K H p ys ∧ flatV y = true ∧ ys.all flatV = true ∧ Q (.int (ys.countP (fun z => eqV z y) : Nat)) H
theorem count_eqU {y : V} : ∀ {ys : List V} {us : List Value}, Vals ys us → ys.all flatV = true → us.countP (eqU y) = ys.countP (fun z => eqV z y)
  | _, _, .nil, _ => rfl
  | z :: ys, u :: us, .cons r t, f => by
    rw [List.all_cons, Bool.and_eq_true] at f
    rw [List.countP_cons, List.countP_cons, count_eqU t f.2, eqU_of r f.1]
theorem mt_countF : MtR X "list.count" (rCntF X.K) := by
  intro pins s σ H x xs v us Q I rx rxs h
  obtain ⟨p, ys, y, rfl, rfl, hs, fy, fys, q⟩ := h
  cases rx
  obtain ⟨u, rfl, ru⟩ := rxs.one
  obtain ⟨its, rv, ⟨⟨cls, dd, data, sl⟩, n, ho, hc, hdn, hd⟩, hlen⟩ := I.list hs
  simp only at hc hd
  subst hc hd
  refine call_meets PySem.F.slot_list_count ⟨_, ho, rfl⟩ PySem.F.entry_list_count (PySem.F.args_list_count_2 _ _)
    (SeqAt.list_countAt p its.toArray n dd sl u (eqU y)) ⟨ho, fun z hz => mem_eqAt ru fy rv fys z (by simpa using hz), ?_⟩
  refine ⟨.int (ys.countP (fun z => eqV z y) : Nat), H, I.tok _, ⟨s.toks, ?_⟩, q⟩
  rw [← count_eqU rv fys]
/-- what repr tells of a value -/
inductive Shw (K : PySem.W.Frag) (H : Hp) : V → Str → Prop
  | non : Shw K H .non "None"
  | int (i : Int) (h : i.natAbs.log2 < 1920) : Shw K H (.int i) (toString i)
  | str (x : Str) (h : (reprText x).length ≤ sizeLine) : Shw K H (.str x) (reprText x)
  | seq (a : Addr) (d : PyData) (h : Dp K H (.ref a) d) (hs : d.showable = true) (hd : d.hasDict = false) (hp : d.depth ≤ 64) (hz : d.shown.length ≤ sizeLine) : Shw K H (.ref a) d.shown
  | emp (a : Addr) (h : H a = some (.dK [])) : Shw K H (.ref a) "{}"
def rShw (K : PySem.W.Frag) : List V → Hp → VK → Prop := fun xs H Q => ∃ v T, xs = [v] ∧ Shw K H v T ∧ Q (.str T) H
theorem call_repr_shw {k : Nat} (hg : X.A.guards = some []) (hr : Room k X.A) : CallR X (.builtin "repr") (rShw X.K) := by
  intro pins s σ H xs us Q I r h
  obtain ⟨v, T, rfl, sh, q⟩ := h
  obtain ⟨u, rfl, ru⟩ := vals1 r
  have un := hr.un
  cases sh with
  | non => cases (show u = Value.none from ru); exact PySem.P.repr_of_none ⟨.str _, H, I.tok _, ⟨_, rfl⟩, q⟩
  | int i hi => obtain ⟨t, rfl⟩ := (show ∃ t, u = Value.int i t from ru); exact PySem.P.repr_of_int hi ⟨.str _, H, I.tok _, ⟨_, rfl⟩, q⟩
  | str x hx => obtain ⟨t, rfl⟩ := (show ∃ t, u = Value.str x t from ru); exact PySem.P.repr_of_str (h := ⟨.str _, H, I.tok _, ⟨_, rfl⟩, q⟩) hx
  | seq a d hd hs hno hp hz =>
    cases (show u = Value.ref a from ru)
    obtain ⟨as, rd⟩ := Dp.reads I d _ _ hd rfl
    exact PySem.repr_of_reads' rd hs (fun z => by rw [hno] at z; cases z) hg (by omega) (fun _ _ z => z) (fun h' u tk kp => ⟨.str _, H, I.kept kp, ⟨_, rfl⟩, q⟩) hz
  | emp a ha =>
    cases (show u = Value.ref a from ru)
    obtain ⟨_, ns, vs, kv, o, es, ep, h1, h2, h3, _, h5, _⟩ := (show ObjOk X.prog X.w H s.heap a (.dK []) from I.hok a _ ha)
    cases kv
    have e0 : es.toList = [] := List.eq_nil_of_length_eq_zero h5.length
    have rd : Reads s.heap (.ref a) (.dict []) (a :: [] ++ []) := .dict (kvs := []) h1 h2.1 h3 (by rw [e0]; exact .nil) (by rw [e0]; exact .nil)
    have far : sysModules ∉ (a :: [] ++ [] : List Addr) := fun z => by
      have z1 : sysModules = a := by simpa using z
      rw [z1] at ns
      simp at ns
    have sh : (PyData.dict []).shown = ("{}" : Str) := by decide +kernel
    exact PySem.repr_of_reads' rd (by decide +kernel) (fun _ => far) hg (by show X.A.units + ((PyData.dict []).depth + 1) < cLine; have : (PyData.dict []).depth ≤ 64 := by decide +kernel
                                                                            omega) (fun _ _ z => z) (fun h' u tk kp => ⟨.str _, H, I.kept kp, ⟨_, by rw [sh]⟩, q⟩) (by rw [sh]; decide +kernel)
end
end L2

namespace L2
open PySem PySem.Spec PyProof.Rows PySem.ErrX
/-- a def's promise where no repr is under way (the machine's stack of such is known to be empty) -/
structure FnG (P : Program) (w : World) (K : PySem.W.Frag) (mg : Str → Option Value) (base : Heap) (CX : CXT) (k : Nat) (f : Addr) (fd : FuncData) (ps : List Str) (sp : Sp) : Prop where
  len : ∀ vs H Q E, sp vs H Q E → vs.length = ps.length
  run : ∀ (A : Around), A.guards = some [] → ∀ (outer : List Env) (s : Shared) (H : Hp) (args : Args) (us : List Value) (vs : List V) (Q : VK) (E : XK),
    Room k A → Env0 P w K mg base A outer s H → BindsTo s fd args (ps.zip us) → Vals vs us → sp vs H Q E → codeAny (model P w) A (.call (.ref f) args) (CR CX outer P w H s Q E) s
theorem FnOk.toG {P : Program} {w : World} {K : PySem.W.Frag} {mg : Str → Option Value} {base : Heap} {CX : CXT} {k : Nat} {f : Addr} {fd : FuncData} {ps : List Str} {sp : Sp} (F : FnOk P w K mg base CX k f fd ps sp) : FnG P w K mg base CX k f fd ps sp :=
  ⟨F.len, fun A _ outer s H args us vs Q E hr he hb hv hs => F.run A outer s H args us vs Q E hr he hb hv hs⟩
section
variable {P : Program} {w : World} {K : PySem.W.Frag} {mg : Str → Option Value} {base : Heap}
/-- such a def by its body -/
theorem Fun.okG {CX : CXT} {x qual : Str} {st : Stmt} {f : Addr} {fd : FuncData} {N ps : List Str} {k : Nat} {sp : Sp} (F : Fun K x qual st f fd) (S : FnScope N ps (defScope st)) (len : ∀ vs H Q E, sp vs H Q E → vs.length = ps.length)
    (body : ∀ (cdv : Value) (A : Around) (outer : List Env) (s : Shared) (H : Hp) (vs : List V) (Q : VK) (E : XK), Room k (A.deeper (envOfC qual (defScope st) s.heap.objs.size f cdv)) →
      (A.deeper (envOfC qual (defScope st) s.heap.objs.size f cdv)).guards = some [] → sp vs H Q E →
      ∃ t, PSs (cxOf CX P w K mg base N qual (defScope st) f cdv A outer s H E) (defBody st) t ∧ t { nx := fun _ H' => Q .non H', rt := Q } (start N vs) H) : FnG P w K mg base CX (k + 1) f fd ps sp := by
  obtain ⟨oc, od, kV, doc, pm, an, cdv, ct, osl, rfl, lk, hcd⟩ := F.ex
  refine ⟨len, fun A gA outer s H args us vs Q E room env bnd rel prom => ?_⟩
  have lv := len _ _ _ _ prom
  have kin : K.In s.heap := env.mod.kin.keeps fun b o z => (env.bs b o z).1
  have lim : s.heap.NoLimit := env.mod.nolimit.keeps fun b o z => (env.bs b o z).1
  refine codeAny_call_function room.depth (kin _ _ lk) rfl S.co S.gen rfl (PySem.W.codeRec_of kin hcd) (bnd _ _ _ _ (wpAny_newFunctionEnv_cells S.kind (fun y hy => ?_) fun e1 he s1 x1 => ?_))
  · obtain ⟨n, v⟩ := y
    rcases S.par n (List.of_mem_zip hy).1 with z | z
    · exact .inl z
    · exact .inr ⟨z, PySem.W.cellsFrom_some _ _ _ (.inl z)⟩
  subst he
  refine ⟨lim.keeps x1.toInCall.keep, codeAny_func ?_⟩
  obtain ⟨t, ht, hq⟩ := body cdv A outer s H vs Q E (room.deeper _) gA prom
  have inv : Inv (cxOf CX P w K mg base N qual (defScope st) f cdv A outer s H E) [] (start N vs) H s1 := inv_start S room.hd env lv rel x1
  refine wpAny_mono (ht.run [] s1 _ H _ inv hq) (fun fl s2 hs => ?_) fun _ _ z => z
  cases fl with
  | ret u =>
    obtain ⟨v, σ2, H2, J, rv, q⟩ := hs
    exact ⟨v, H2, J.os, J.bare, J.base, J.hok, rv, q⟩
  | next =>
    obtain ⟨σ2, H2, J, q⟩ := hs
    exact ⟨.non, H2, J.os, J.bare, J.base, J.hok, rfl, q⟩
  | brk => exact (hs.elim fun _ z => z.elim fun _ z => z.2).elim
  | cont => exact (hs.elim fun _ z => z.elim fun _ z => z.2).elim
/-- the same where nothing that is raised leaves the def -/
theorem Fun.okG0 {x qual : Str} {st : Stmt} {f : Addr} {fd : FuncData} {N ps : List Str} {k : Nat} {sp : Sp} (F : Fun K x qual st f fd) (S : FnScope N ps (defScope st)) (len : ∀ vs H Q E, sp vs H Q E → vs.length = ps.length)
    (body : ∀ (cdv : Value) (A : Around) (outer : List Env) (s : Shared) (H : Hp) (vs : List V) (Q : VK) (E : XK), Room k (A.deeper (envOfC qual (defScope st) s.heap.objs.size f cdv)) →
      (A.deeper (envOfC qual (defScope st) s.heap.objs.size f cdv)).guards = some [] → sp vs H Q E →
      ∃ t, PSs (cxOf CX0 P w K mg base N qual (defScope st) f cdv A outer s H E).nox (defBody st) t ∧ t { nx := fun _ H' => Q .non H', rt := Q } (start N vs) H) : FnG P w K mg base CX0 (k + 1) f fd ps sp :=
  F.okG S len fun cdv A outer s H vs Q E room g prom => by
    obtain ⟨t, ht, q⟩ := body cdv A outer s H vs Q E room g prom
    exact ⟨t, ht.nox, q⟩
/-- the law's call from the machine's outermost place, over one abstract heap -/
theorem top_run {CX : CXT} {mb : Str → Option Value} {k : Nat} {fa a : Addr} {fd : FuncData} {x : Str} {sp : Sp} {s₁ : Shared} {vs : List Value} {ns : List Int} (H : Hp)
    (KX : K.In s₁.heap) (nsG : s₁.heap.Ns mainGlobals mg) (nsB : s₁.heap.Ns builtinsNs mb) (same : ∀ x : Str, x ≠ "__name__" → mb x = bootBuiltins x) (lim : s₁.heap.NoLimit) (gen : s₁.gens = #[])
    (at_ : s₁.heap.get? a = some { cls := .type "list", data := .seq vs.toArray }) (room : Room k callerA) (F : ∀ base : Heap, K.In base → base.Ns mainGlobals mg → FnG P w K mg base CX k fa fd [x] sp) (bnd : ∀ (s : Shared) (u : Value), BindsTo s fd ⟨[u], []⟩ [(x, u)])
    (noX : ∀ H e s', CX [] H s₁ (fun _ _ _ => False) e s' → False) (only : Only H) (prom : sp [.ref a] H (fun v _ => v = .bl true) fun _ _ _ => False) (ok : HOk P w H s₁.heap) (lone : ∀ b, H b ≠ none → b = a) (free : H a ≠ none → K.lookup a = none) :
    codeAny (model P w) callerA (.call (.ref fa) ⟨[.ref a], []⟩) (fun r s' => r = .ok (.ret (.bool true)) ∧ OldK s₁.heap s'.heap ∧ s'.os = s₁.os ∧ AllBare s'.gens) s₁ := by
  have dictFree : ∀ {b : Addr} {o : Obj} {es : Array DictEntry} {ep : Nat}, s₁.heap.get? b = some o → o.data = .dict es ep → H b = none := fun {b o es ep} z1 z2 => by
    by_cases z : H b = none
    · exact z
    · rw [lone b z, at_] at z1
      cases z1
      exact nomatch z2
  have hidN : ∀ {b : Addr} {m : Str → Option Value}, s₁.heap.Ns b m → (hidT s₁.heap H).Ns b m := fun ⟨o, es, ep, z1, z2, z3⟩ => ⟨o, es, ep, hidT_get z1 (dictFree z1 z2), z2, z3⟩
  have hidK : K.In (hidT s₁.heap H) := fun b o z => hidT_get (KX b o z) (by
    by_cases y : H b = none
    · exact y
    · have y2 := lone b y
      subst y2
      rw [free y] at z
      cases z)
  obtain ⟨mc, l1, l2⟩ := lim
  have env : Env0 P w K mg (hidT s₁.heap H) callerA [] s₁ H :=
    { frames := rfl, mod := ⟨hidK, hidN nsG, ⟨mb, hidN nsB, same⟩, ⟨mc, hidN l1, l2⟩⟩, bs := fun b o z => of_hidT z, bsz := Nat.le_of_eq (hidT_size _ _), funs := trivial, frf := fun b z => (List.not_mem_nil z).elim, hok := ok, bare := .of_eq gen }
  refine codeAny_mono ((F _ hidK (hidN nsG)).run callerA rfl [] s₁ H ⟨[.ref a], []⟩ [.ref a] [.ref a] _ _ room env (bnd s₁ (.ref a)) (.cons rfl .nil) prom) fun r s' z => ?_
  have leave : ∀ u, r = .ok (.ret u) → CE [] P w H s₁ (fun v _ => v = .bl true) u s' → r = .ok (.ret (.bool true)) ∧ OldK s₁.heap s'.heap ∧ s'.os = s₁.os ∧ AllBare s'.gens := fun u er ⟨v, H', os, bare, un, ok', rv, q⟩ => by
    cases (show v = V.bl true from q)
    cases (show u = Value.bool true from rv)
    refine ⟨er, OldK.of_keep fun b o z => ?_, os, bare⟩
    rcases only b with y | ⟨ob, xs, y⟩
    · exact un.keep b o z y (fun i => (List.not_mem_nil i).elim) (fun i => (List.not_mem_nil i).elim)
    · obtain ⟨g1, _⟩ := ok b _ y
      obtain ⟨g2, _⟩ := ok' b _ (un.frzs b ob _ y)
      rw [z] at g1
      cases g1
      exact g2
  match r, z, leave with
  | .error e, z, _ => exact (noX H e s' z).elim
  | .ok (.ret u), z, leave => exact leave u rfl z
/-- the law's promise at the heap behind the top -/
theorem top_call {CX : CXT} {mb : Str → Option Value} {k : Nat} {fa a : Addr} {fd : FuncData} {x : Str} {sp : Sp} {s₁ : Shared} {vs : List Value} {ns : List Int}
    (KX : K.In s₁.heap) (nsG : s₁.heap.Ns mainGlobals mg) (nsB : s₁.heap.Ns builtinsNs mb) (same : ∀ x : Str, x ≠ "__name__" → mb x = bootBuiltins x) (lim : s₁.heap.NoLimit) (gen : s₁.gens = #[])
    (at_ : s₁.heap.get? a = some { cls := .type "list", data := .seq vs.toArray }) (iv : IntsAre vs ns) (small : ns.length ≤ sizeLine) (room : Room k callerA) (F : ∀ base : Heap, K.In base → base.Ns mainGlobals mg → FnG P w K mg base CX k fa fd [x] sp) (bnd : ∀ (s : Shared) (u : Value), BindsTo s fd ⟨[u], []⟩ [(x, u)])
    (noX : ∀ H e s', CX [] H s₁ (fun _ _ _ => False) e s' → False) (prom : ∀ H : Hp, Only H → SqL K H a (ns.map V.int) → sp [.ref a] H (fun v _ => v = .bl true) fun _ _ _ => False) :
    codeAny (model P w) callerA (.call (.ref fa) ⟨[.ref a], []⟩) (fun r s' => r = .ok (.ret (.bool true)) ∧ OldK s₁.heap s'.heap ∧ s'.os = s₁.os ∧ AllBare s'.gens) s₁ := by
  have rv := vals_ints iv
  cases hk : K.lookup a with
  | some o =>
    have z := KX a o hk
    rw [at_] at z
    cases z
    have sq : SqL K (fun _ => none) a (ns.map V.int) := .inr ⟨_, vs.toArray, _, hk, rfl, rfl, rfl, by rw [List.size_toArray, iv.length]; exact small, by simpa using rv⟩
    exact top_run (ns := ns) (fun _ => none) KX nsG nsB same lim gen at_ room F bnd noX (fun _ => .inl rfl) (prom _ (fun _ => .inl rfl) sq) (fun b u z => by have y : (none : Option HO) = some u := z; cases y) (fun b z => absurd rfl z) fun z => absurd rfl z
  | none =>
    obtain ⟨Hs, e1⟩ : ∃ Hs : Hp, Hs = fun b => if b = a then some (.frz { cls := .type "list", data := .seq vs.toArray } (.lst (ns.map V.int))) else none := ⟨_, rfl⟩
    have hit : Hs a = some (.frz { cls := .type "list", data := .seq vs.toArray } (.lst (ns.map V.int))) := by rw [e1]; exact if_pos rfl
    have miss : ∀ b, b ≠ a → Hs b = none := fun b z => by rw [e1]; exact if_neg z
    have only : Only Hs := fun b => by
      by_cases z : b = a
      · exact .inr ⟨_, _, by rw [z]; exact hit⟩
      · exact .inl (miss b z)
    refine top_run (ns := ns) Hs KX nsG nsB same lim gen at_ room F bnd noX only (prom _ only (.inl (.inr ⟨_, hit⟩))) (fun b u z => ?_) (fun b z => ?_) fun _ => hk
    · by_cases y : b = a
      · subst y
        rw [hit] at z
        cases z
        exact ⟨at_, by rw [List.length_map]; exact small, vs, _, rv, at_⟩
      · rw [miss b y] at z
        cases z
    · by_cases y : b = a
      · exact y
      · exact absurd (miss b y) z
end
/-- the law row's end, from such a promise of the law's def -/
theorem walk_ofG {l : PySem.W.OpenLaw} {n k : Nat} {q : Program} {loose : List Str} {XP : (Str → Option Value) → Heap → Prop} {YP : World → Heap → Prop} {d : DefRec} {K : Params → PySem.W.Frag} {sp : World → Sp} {x : Str}
    (most : l.most = some n) (fits : n ≤ sizeLine) (plain : d.params.defaults = []) (room : Room k callerA) (there : ∀ (w : World) (h : Heap), YP w h → (K w.params).In h)
    (F : ∀ (w : World) (mg : Str → Option Value) (fa : Addr) (h : Heap), (K w.params).In h → h.Ns mainGlobals mg → mg d.name = some (.ref fa) →
      ∃ fd : FuncData, (∀ (s : Shared) (u : Value), BindsTo s fd ⟨[u], []⟩ [(x, u)]) ∧ ∀ base : Heap, (K w.params).In base → base.Ns mainGlobals mg → FnG l.prog w (K w.params) mg base CX0 k fa fd [x] (sp w))
    (prom : ∀ (w : World) (H : Hp) (a : Addr) (ns : List Int), ns.length ≤ n → Only H → SqL (K w.params) H a (ns.map V.int) → sp w [.ref a] H (fun v _ => v = .bl true) fun _ _ _ => False) :
    PySem.W.WalkO q loose XP YP l.row.toRowW d [] (fun f vs => PySem.call f vs) := by
  refine Att.attach_call most plain fun w s₀ s₁ mg mb fa o pm cd doc a vs ns G Y _ _ _ hmg at_ iv len gen => ?_
  have KX := there w _ Y
  obtain ⟨fd, bnd, f1⟩ := F w mg fa _ KX G.T.g hmg
  exact top_call KX G.T.g G.T.b G.T.builtins G.T.nolimit gen at_ iv (Nat.le_trans len fits) room f1 bnd (fun _ _ _ z => z) fun H o s => prom w H a ns len o s
end L2

namespace L2
open PySem PySem.Spec PyProof.Rows PySem.ErrX
section
variable {X : Cx} {C fI : Addr} {nm f : Str} {a : Expr} {ta : TA} {p pos pos2 : Pos}
/-- an error made to be raised: its own dict, new, holds the field -/
def tThrow (C : Addr) (f : Str) (ta : TA) : St → Hp → XK → Prop := fun σ H Q => ta σ H fun vs H1 => ∃ v, vs = [v] ∧ ∀ d, H1 d = none → Q (.ref C) (some d) (upd H1 d (.xd [(f, v)]))
theorem pmk_err {k : Nat} (T : ErrTxt X.K X.mg nm f C fI) (tyC : PySem.W.typeIn X.K (.ref C) = some (.type "type")) (hr : Room k X.A) (ha : PA X [a] ta) (hg : Gl X nm := by rfl) (hdb : (nm == ("__debug__" : Str)) = false := by decide)
    (hst : starEach (a :: []) X.env = (false, eval a X.env) :: starEach [] X.env := by rfl) (hpl : (backTo pos (starEach [] X.env)).any (·.1) = false := by rfl) :
    PMk X (.Call (.Name nm p) [a] [] pos) (tThrow C f ta) := by
  intro pins s σ H Q I h
  refine wpAny_Call_Name_kw (ld_glob I hg T.gC ?_ hdb)
  refine PySem.W.callWith_K (h₀ := X.base) I.ok.mod.kin T.kC (thn (ha.run pos pins s σ H _ I h) fun us s1 goal => ?_) hst hpl
  obtain ⟨vs, H1, I1, r1, v, ev, q1⟩ := goal
  subst ev
  refine ⟨I1.kIn, ?_⟩
  cases r1 with
  | cons rv rn =>
    rename_i v' us'
    cases rn
    show wpAny _ _ (call (.ref C) [v'] []) _ _ _
    refine err_call (byName := false) T hr I1 fun h' tk e d M => ?_
    obtain ⟨t0, he⟩ := M.obj
    obtain ⟨G, g1, g2⟩ := restrict h' fun b => decide (b ≠ e)
    have off : ∀ b, b ≠ e → G.get? b = h'.get? b := fun b z => g1 b (decide_eq_true z)
    have gone : G.get? e = none := g2 e (by simp)
    have old : ∀ b o, s1.heap.get? b = some o → G.get? b = some o := fun b o z => (off b (Nat.ne_of_lt (Nat.lt_of_lt_of_le (Heap.lt_size z) M.new))).trans (M.keep b o z)
    have od : ObjOk X.prog X.w (upd H1 d (.xd [(f, v)])) G d (.xd [(f, v)]) := ⟨_, M.ns.at (fun o z => (off d M.dne).trans z), fun g => relO_one rv f g⟩
    have J : Inv X pins σ (upd H1 d (.xd [(f, v)])) { s1 with heap := G, toks := tk } := I1.laid (t' := tk) old M.dnew od
    refine ⟨e, _, _, { s1 with heap := G, toks := tk }, _, .ref C, some d, rfl, J, fun b o z => ?_, gone, he, ⟨rfl, rfl⟩, rfl, rfl, ?_, rfl, I1.bare, raises_own T.exC tyC, q1 d (I1.hok.fresh M.dnew)⟩
    · by_cases y : b = e
      · have z' : G.get? b = some o := z
        rw [y, gone] at z'
        cases z'
      · exact (off b y).symm.trans z
    · rw [upd_ne (Ne.symm M.dne)]
      exact I1.hok.fresh M.new
def tRaiseErr (C : Addr) (f : Str) (W : WX) (ta : TA) : TS := fun _ σ H => tThrow C f ta σ H fun cls d H' => W cls d σ H'
theorem ps_raiseErr {k : Nat} {W : WX} (hc : X.calm = true) (T : ErrTxt X.K X.mg nm f C fI) (tyC : PySem.W.typeIn X.K (.ref C) = some (.type "type")) (hr : Room k X.A) (tk : Takes X W) (ha : PA X [a] ta) (hg : Gl X nm := by rfl) (hdb : (nm == ("__debug__" : Str)) = false := by decide)
    (hst : starEach (a :: []) X.env = (false, eval a X.env) :: starEach [] X.env := by rfl) (hpl : (backTo pos (starEach [] X.env)).any (·.1) = false := by rfl) :
    PS X (.Raise (some (.Call (.Name nm p) [a] [] pos)) none pos2) (tRaiseErr C f W ta) := ps_raise hc tk (pmk_err T tyC hr ha hg hdb hst hpl)
/-- e.f, e the error that the suite holds -/
def tOfErr (C : Addr) (f : Str) (a : Addr) (cls : Value) (d : Option Addr) (te : TE) : TE := fun σ H Q => te σ H fun x H1 => x = .ref a ∧ cls = .ref C ∧ ∃ (dd : Addr) (v : V), d = some dd ∧ H1 dd = some (.xd [(f, v)]) ∧ Q v H1
theorem pe_ofErr {a : Addr} {oe : Obj} {cls : Value} {d : Option Addr} {pn : List (Addr × Obj)} {e : Expr} {te : TE} (T : ErrTxt X.K X.mg nm f C fI) (hz : Zc cls d oe) (hf : ∃ vs, oe.data = .fields vs) (he : PE (X.suite a ((a, oe) :: pn)) e te)
    (hb : attributeBase e f X.env (eval e X.env) = eval e X.env := by rfl) : PE (X.suite a ((a, oe) :: pn)) (.Attribute e f pos) (tOfErr C f a cls d te) := by
  refine ⟨fun pins s σ H Q I h => attr_of hb (thn (he.run pins s σ H _ I h) fun u s1 goal => ?_)⟩
  obtain ⟨x, H1, I1, rx, ex, ec, dd, v, ed, ea, q⟩ := goal
  subst ex ec ed
  cases (show u = Value.ref a from rx)
  obtain ⟨at_, _⟩ := I1.pin (a, oe) (List.mem_append_left _ List.mem_cons_self)
  obtain ⟨vs, hd⟩ := hf
  obtain ⟨mA, hns, hr⟩ := (show ObjOk X.prog X.w H1 s1.heap dd (.xd [(f, v)]) from I1.hok dd _ ea)
  obtain ⟨od, ho, hl⟩ := lookIn_ns hns
  have lk : List.lookup f [(f, v)] = some v := by simp [List.lookup]
  obtain ⟨u, hu, ru⟩ := RelO.some_of (v := v) (o := mA f) (by rw [← lk]; exact hr f)
  have J : PySem.W.InstAt s1.heap a oe C (some od) := ⟨at_, hz.1, by unfold PySem.W.notCls; rw [hd] <;> rfl, by rw [hz.2]; exact ho⟩
  exact PySem.HandSPX.exc_get I1.kIn J T.ga T.gg T.exC (PySem.W.findObj_own T.hdC T.noN rfl (by rw [hl, hu])) (handed_of ru) ⟨v, H1, I1.tok _, ru, q⟩
/-- repr where an error may be handled -/
theorem call_repr_at {K : PySem.W.Frag} (hK : X.K = K) (hg : X.A.guards = some []) (hu : X.A.units + 200 < cLine) : CallR X (.builtin "repr") (rShw K) := by
  subst hK
  intro pins s σ H xs us Q I r h
  obtain ⟨v, T, rfl, sh, q⟩ := h
  obtain ⟨u, rfl, ru⟩ := vals1 r
  cases sh with
  | non => cases (show u = Value.none from ru); exact PySem.P.repr_of_none ⟨.str _, H, I.tok _, ⟨_, rfl⟩, q⟩
  | int i hi => obtain ⟨t, rfl⟩ := (show ∃ t, u = Value.int i t from ru); exact PySem.P.repr_of_int hi ⟨.str _, H, I.tok _, ⟨_, rfl⟩, q⟩
  | str x hx => obtain ⟨t, rfl⟩ := (show ∃ t, u = Value.str x t from ru); exact PySem.P.repr_of_str (h := ⟨.str _, H, I.tok _, ⟨_, rfl⟩, q⟩) hx
  | seq a d hd hs hno hp hz =>
    cases (show u = Value.ref a from ru)
    obtain ⟨as, rd⟩ := Dp.reads I d _ _ hd rfl
    exact PySem.repr_of_reads' rd hs (fun z => by rw [hno] at z; cases z) hg (by omega) (fun _ _ z => z) (fun h' u tk kp => ⟨.str _, H, I.kept kp, ⟨_, rfl⟩, q⟩) hz
  | emp a ha =>
    cases (show u = Value.ref a from ru)
    obtain ⟨_, ns, vs, kv, o, es, ep, h1, h2, h3, _, h5, _⟩ := (show ObjOk X.prog X.w H s.heap a (.dK []) from I.hok a _ ha)
    cases kv
    have e0 : es.toList = [] := List.eq_nil_of_length_eq_zero h5.length
    have rd : Reads s.heap (.ref a) (.dict []) (a :: [] ++ []) := .dict (kvs := []) h1 h2.1 h3 (by rw [e0]; exact .nil) (by rw [e0]; exact .nil)
    have far : sysModules ∉ (a :: [] ++ [] : List Addr) := fun z => by
      have z1 : sysModules = a := by simpa using z
      rw [z1] at ns
      simp at ns
    have sh : (PyData.dict []).shown = ("{}" : Str) := by decide +kernel
    have dp : (PyData.dict []).depth ≤ 64 := by decide +kernel
    exact PySem.repr_of_reads' rd (by decide +kernel) (fun _ => far) hg (by omega) (fun _ _ z => z) (fun h' u tk kp => ⟨.str _, H, I.kept kp, ⟨_, by rw [sh]⟩, q⟩) (by rw [sh]; decide +kernel)
/-- nothing leaves a call whose promise lets nothing out -/
theorem passX0 : Passes (L2.CX X.prog X.w) X E0 := fun _ _ _ _ _ _ _ ⟨_, _, _, _, _, _, _, _, _, _, _, _, z⟩ => z.elim
/-- a call of a def whose promise wants that no repr is under way -/
theorem pe_callG {CX : CXT} {k : Nat} {fa : Addr} {fd : FuncData} {ps : List Str} {sp : Sp} {dvs : List V} {ds : List Value} {E : XK} {x : Str} {e : Expr} {es : List Expr} {t : TA} (F : FnG X.prog X.w X.K X.mg X.base CX k fa fd ps sp) (hgd : X.A.guards = some []) (hr : Room k X.A) (hg : Gl X x) (hm : X.mg x = some (.ref fa)) (hk : PySem.W.keepIn X.K (.ref fa) = true) (hb : Binds X.K fd ps ds) (hd : Vals dvs ds) (hx : Passes CX X E)
    (ha : PA X (e :: es) t) (hdb : (x == ("__debug__" : Str)) = false := by decide) (he : starEach (e :: es) X.env = (false, eval e X.env) :: starEach es X.env := by rfl) (hpl : (backTo pos (starEach es X.env)).any (·.1) = false := by rfl) :
    PE X (.Call (.Name x p) (e :: es) [] pos) (tCall sp dvs E t) := by
  refine ⟨fun pins s σ H Q I h => wpAny_Call_Name_kw (ld_glob I hg hm ?_ hdb)⟩
  refine PySem.W.callWith_K (h₀ := X.base) I.ok.mod.kin hk (thn (ha.run pos pins s σ H _ I h) fun us s1 goal => ?_) he hpl
  obtain ⟨vs, H1, I1, r, q⟩ := goal
  have r2 : Vals (vs ++ dvs) (us ++ ds) := r.append hd
  have ln : (us ++ ds).length = ps.length := by rw [← r2.length]; exact F.len _ _ _ _ q
  refine ⟨I1.kIn, wpAny_call (codeAny_mono (F.run X.A hgd X.stack s1 H1 ⟨us, []⟩ (us ++ ds) (vs ++ dvs) Q E hr I1.env0 (hb s1 us I1.kIn ln) r2 q) fun r s' z => ?_)⟩
  match r, z with
  | .error e, z => exact hx pins σ H1 s1 e s' I1 z
  | .ok (.ret u), z => exact I1.after z
end
end L2

namespace L2
open PySem PySem.Spec PyProof.Rows PySem.ErrX
/-- behind a suite its name is gone -/
def offName (i : Nat) (D : Ends) : Ends := { nx := fun σ H => D.nx (σ.set i none) H, rt := D.rt, bk := fun σ H => D.bk (σ.set i none) H, ct := fun σ H => D.ct (σ.set i none) H }
/-- what several clauses, each «as» the name in slot i, wish of an exception of the body -/
def wAses (K : PySem.W.Frag) (i : Nat) (Wout : WX) (D : Ends) : List (Value × (Addr → Value → Option Addr → TS)) → WX
  | [] => Wout
  | (c, ts) :: r => fun cls d σ H => ∃ b, PySem.W.exmOne K cls c = some b ∧ (b = true → ∀ a, H a = none → ts a cls d (offName i D) (σ.set i (some (.ref a))) H) ∧ (b = false → wAses K i Wout D r cls d σ H)
inductive HdsAs (X : Cx) (n : Str) : List ExceptHandler → List (Value × (Addr → Value → Option Addr → TS)) → Prop
  | nil : HdsAs X n [] []
  | cons {x : Str} {c : Value} {ts : Addr → Value → Option Addr → TS} {b₀ : Stmt} {suite : List Stmt} {np hp : Pos} {hds : List ExceptHandler} {l : List (Value × (Addr → Value → Option Addr → TS))} (named : Names X x c)
      (inner : ∀ (a : Addr) (oe : Obj) (cls : Value) (d : Option Addr) (pn : List (Addr × Obj)), Zc cls d oe → (∃ vs, oe.data = .fields vs) → PSs (X.suite a ((a, oe) :: pn)) (b₀ :: suite) (ts a cls d)) (more : HdsAs X n hds l) :
      HdsAs X n (.ExceptHandler (some (.Name x np)) (some n) (b₀ :: suite) hp :: hds) ((c, ts) :: l)
section
variable {X : Cx} {body : List Stmt} {h₀ : ExceptHandler} {hds : List ExceptHandler} {l : List (Value × (Addr → Value → Option Addr → TS))} {pos : Pos} {tb : WX → TS} {Wout : WX} {n : Str} {i : Nat}
theorem ps_try_ases (stk : X.stack = X.env :: X.outer) (fr : X.env.frame = some X.env.locals) (nodup : X.N.Nodup) (slot : X.N[i]? = some n) (loc : X.env.kindOf n = some .local) (out : Takes X Wout)
    (tried : ∀ (W : WX) (pn : List (Addr × Obj)) (xe : Value → Shared → Prop), Takes (X.tr pn xe) W → PassesOwn (model X.prog X.w) X.A X.env xe → PSs (X.tr pn xe) body (tb W))
    (clauses : HdsAs X n (h₀ :: hds) l) : PS X (.Try body (h₀ :: hds) [] [] pos) (fun D σ H => tb (wAses X.K i Wout D l) D σ H) := by
  refine ⟨fun pins s σ H D I h => wpAny_Try_except ?_⟩
  have okX := I.ok
  have frames : X.A.frames = some (X.env :: X.outer) := by rw [okX.frames, stk]
  refine wpAny_mono ((tried (wAses X.K i Wout D l) (X.pn ++ pins) (fun e s₁ => wpAny (model X.prog X.w) X.A (noteFrame e X.env) (fun _ s₂ => wpAny (model X.prog X.w) X.A (setFlight e none) (fun _ s₃ => wpAny (model X.prog X.w) X.A (handleBy e X.env (h₀ :: hds)) (SP X pins D) X.xe s₃) X.xe s₂) X.xe s₁)
    (fun u s' air => ?_) PassesOwn.looking).run [] s σ H D (I.toTry _) h) (fun f s1 done => ?_) (fun _ _ z => z)
  case refine_2 =>
    cases f with
    | next => obtain ⟨σ', H', J, q⟩ := done; exact wpAny_execs_nil ⟨σ', H', J.ofTry okX, q⟩
    | brk => obtain ⟨σ', H', J, q⟩ := done; exact ⟨σ', H', J.ofTry okX, q⟩
    | cont => obtain ⟨σ', H', J, q⟩ := done; exact ⟨σ', H', J.ofTry okX, q⟩
    | ret u => obtain ⟨v, σ', H', J, r, q⟩ := done; exact ⟨v, σ', H', J.ofTry okX, r, q⟩
  obtain ⟨a, B, sI, pins', σ', H', cls, d, rfl, J0, nb, up, sky, na, os, ag, wish⟩ := air
  have J : Inv X pins σ' H' sI := J0.ofTry okX
  show wpAny (model X.prog X.w) X.A (noteFrame (.ref a) X.env) _ _ _
  refine Sky.land Zc.steady frames fr (show Sky B (X.env :: X.outer) a (Zc cls d) X.env.locals s'.heap by rw [← stk]; exact sky) fun h3 fl3 up3 => ?_
  have J3 : Inv X pins σ' H' { s' with heap := h3 } := J.landed nb fl3.1 (up.trans up3) os ag
  obtain ⟨oe3, vs3, he3, hz3, hd3⟩ := fl3.there
  have apart : a ∉ frs (X.env :: X.outer) := fun hm => by
    obtain ⟨_, o', e', hnf⟩ := fl3.2.2.1.mem hm
    rw [he3] at e'
    cases e'
    exact hnf _ hd3
  have nL : a ≠ X.env.locals := fun z => apart (List.mem_filterMap.mpr ⟨X.env, List.mem_cons_self, by rw [fr, z]⟩)
  have nF : a ∉ X.fs := fun hm => by
    obtain ⟨e, he, q⟩ := List.mem_filterMap.mp hm
    exact apart (List.mem_filterMap.mpr ⟨e, List.mem_cons_of_mem _ he, q⟩)
  have S3 := J3.suite he3 hd3 na nL nF
  suffices go : ∀ (hs : List ExceptHandler) (ls : List (Value × (Addr → Value → Option Addr → TS))), HdsAs X n hs ls → wAses X.K i Wout D ls cls d σ' H' → wpAny (model X.prog X.w) X.A (handleBy (.ref a) X.env hs) (SP X pins D) X.xe { s' with heap := h3 } from go _ _ clauses wish
  intro hs ls ok
  induction ok with
  | nil =>
    intro w
    refine wpAny_handleBy_nil ?_
    obtain ⟨k1, k2, k3, oe, vs, T, oT, ts', he, hz, hd, h1, hr⟩ := id fl3
    unfold PySem.passOn
    refine wpAny_bind (wpAny_field he hd h1 ?_)
    rw [if_neg (show ¬ ((Value.ref T == Value.none) = true) from by simp)]
    have fin : wpAny (model X.prog X.w) X.A (setFlight (.ref a) X.env.frame) (fun _ s4 => wpAny (model X.prog X.w) X.A (throw (.ref a) : Sem Flow) (SP X pins D) X.xe s4) X.xe { s' with heap := h3 } := by
      rw [fr]
      exact HandSPX.setFlight_upZ fl3 fun h4 hh4 up4 => wpAny_throw (out _ _ ⟨a, B, sI, pins, σ', H', cls, d, rfl, J, nb, (up.trans up3).trans up4, .inr (.inr (by rw [stk]; exact hh4)), na, os, ag, w⟩)
    first | exact wpAny_bind (wpAny_pure (wpAny_bind fin)) | exact wpAny_bind fin
  | @cons x c ts b₀ suite np hp hds2 l2 named inner more ih =>
    intro w
    obtain ⟨b, hb, yes, no⟩ := w
    refine wpAny_handleBy_cons (codeAny_handlers_test ?_) (by intro q; cases q)
    have LT : PySem.W.Looks (model X.prog X.w) h3 (typeOf (.ref a)) cls := fun A Q E s k q => wpAny_typeOf_ref (k _ _ he3) (by rw [hz3.1]; exact q)
    have LM := PySem.W.exm_one (M := model X.prog X.w) (J3.kIn) LT hb
    have asked : ∀ {Q : Value → Shared → Prop} {E : Value → Shared → Prop}, Q c { s' with heap := h3 } → wpAny (model X.prog X.w) (X.A.mark (some (.ref a))) (eval (.Name x np) X.env) Q E { s' with heap := h3 } := fun {Q E} q => by
      rcases named with ⟨hg, hdb, hm | ⟨hm, hv, hnn⟩⟩
      · exact ld_glob (X := X.suite a ((a, oe3) :: (X.pn ++ pins))) S3 hg hm q hdb
      · exact ld_blt (X := X.suite a ((a, oe3) :: (X.pn ++ pins))) S3 hg hm hv q hnn hdb
    refine asked (LM.here ?_)
    cases b with
    | false => exact ih (no rfl)
    | true =>
      refine codeAny_handlers_suite_as (HandSPX.lands_againZ fl3 fun h4 fl4 up4 => ?_)
      have J4 : Inv X pins σ' H' { s' with heap := h4 } := J.landed nb fl4.1 ((up.trans up3).trans up4) os ag
      obtain ⟨oe4, vs4, he4, hz4, hd4⟩ := fl4.there
      refine store_ok (X := X.suite a ((a, oe4) :: (X.pn ++ pins))) (v := .ref a) (J4.suite he4 hd4 na nL nF) nodup slot (.inl loc) rfl (fun s5 S5 => ?_) (.inr loc)
      refine wpAny_mono ((inner a oe4 cls d (X.pn ++ pins) hz4 ⟨_, hd4⟩).run [] s5 _ H' _ S5 (yes rfl a na)) (fun f s6 done => ?_) (fun _ _ z => z.elim)
      have last : ∀ {σ6 : L2.St} {H6 : Hp} {Q : Shared → Prop}, Inv (X.suite a ((a, oe4) :: (X.pn ++ pins))) [] σ6 H6 s6 → (∀ s7, Inv X pins (σ6.set i none) H6 s7 → Q s7) →
          wpAny (model X.prog X.w) X.A (do bindName X.env n .none; unbindBehindTheSuite X.env n hp) (fun _ s7 => Q s7) X.xe s6 := fun S6 hq => gone_ok (S6.unsuite okX) nodup slot loc hq
      cases f with
      | next => obtain ⟨σ6, H6, S6, q6⟩ := done; exact last S6 fun s7 J7 => ⟨_, _, J7, q6⟩
      | brk => obtain ⟨σ6, H6, S6, q6⟩ := done; exact last S6 fun s7 J7 => ⟨_, _, J7, q6⟩
      | cont => obtain ⟨σ6, H6, S6, q6⟩ := done; exact last S6 fun s7 J7 => ⟨_, _, J7, q6⟩
      | ret u => obtain ⟨v6, σ6, H6, S6, r6, q6⟩ := done; exact last S6 fun s7 J7 => ⟨_, _, _, J7, r6, q6⟩
end
end L2

namespace L2
open PySem PySem.Spec PyProof.Rows
/-! ### a set of texts that can be walked -/
def keyT (e : Int × Value) : Str := match e.2 with | .str x _ => x | _ => Str.empty
def GoodT (P : Program) (w : World) (e : Int × Value) : Prop := ∃ x tk, e.2 = Value.str x tk ∧ e.1 = (strKind P w).hash x
/-- at a: a set of just the texts of S, n of them; its table rises -/
def TxR (P : Program) (w : World) (h : Heap) (a : Addr) (S : Str → Bool) (n : Nat) : Prop :=
  ∃ o es ep t, h.get? a = some o ∧ o.ExactSet ∧ o.data = .set es ep t ∧ (∀ e ∈ es.toList, GoodT P w e) ∧ (es.toList.map keyT).Nodup ∧ (∀ k, S k = true ↔ k ∈ es.toList.map keyT) ∧
    es.size < scanBound ∧ t.fits es.size = true ∧ es.size = n ∧ Ris t.place.toList ∧ (w.params.followText "set-order" = true ∨ t.led = true)
section
variable {P : Program} {w : World} {h h' : Heap} {a : Addr} {S : Str → Bool} {n : Nat}
theorem TxR.keep (R : TxR P w h a S n) (k : ∀ o, h.get? a = some o → h'.get? a = some o) : TxR P w h' a S n :=
  let ⟨o, es, ep, t, ho, r⟩ := R; ⟨o, es, ep, t, k o ho, r⟩
theorem TxR.same {S' : Str → Bool} (R : TxR P w h a S n) (e : ∀ k, S' k = S k) : TxR P w h a S' n := (funext e : S' = S) ▸ R
theorem goodT_is {e : Int × Value} (g : GoodT P w e) (k : Str) : (strKind P w).is k e.2 = true ↔ keyT e = k := by
  obtain ⟨x, tk, z, _⟩ := g
  unfold keyT
  rw [z]
  show Value.isStrOf k (.str x tk) = true ↔ x = k
  simp [Value.isStrOf]
theorem goodT_elems {l : List (Int × Value)} (g : ∀ e ∈ l, GoodT P w e) : ElemsOf (strKind P w) l := fun e he => by
  obtain ⟨x, tk, z1, z2⟩ := g e he
  exact ⟨⟨x, (goodT_is (g e he) x).2 (by unfold keyT; rw [z1]), z2⟩, by rw [z1] <;> rfl⟩
theorem goodT_mem {l : List (Int × Value)} (g : ∀ e ∈ l, GoodT P w e) (k : Str) : k ∈ l.map keyT ↔ ∃ e ∈ l, (strKind P w).is k e.2 = true := by
  rw [List.mem_map]
  exact ⟨fun ⟨e, he, q⟩ => ⟨e, he, (goodT_is (g e he) k).2 q⟩, fun ⟨e, he, q⟩ => ⟨e, he, (goodT_is (g e he) k).1 q⟩⟩
end
section
variable {P : Program} {w : World} {A : Around} {E : Value → Shared → Prop} {s : Shared} {a : Addr} {S : Str → Bool} {n : Nat}
/-- the end of an add: stored, and laid anew where the table is too full -/
theorem txR_tail {g : Bool → Sem Unit} (free : ∀ (b : Bool) (s₁ : Shared) (Q' : Unit → Shared → Prop), Q' () s₁ → wpAny (model P w) A (g b) Q' E s₁)
    {o : Obj} {es : Array (Int × Value)} {ep : Nat} {t : SetTable} (ho : s.heap.get? a = some o) (hex : o.ExactSet) (hd : o.data = .set es ep t)
    {es1 : Array (Int × Value)} {t2 : SetTable} {S' : Str → Bool} (g1 : ∀ e ∈ es1.toList, GoodT P w e) (nd1 : (es1.toList.map keyT).Nodup) (m1 : ∀ k, S' k = true ↔ k ∈ es1.toList.map keyT)
    (b1 : es1.size < scanBound) (f2 : t2.fits es1.size = true) (r2 : Ris t2.place.toList) (l2 : w.params.followText "set-order" = true ∨ t2.led = true) {dummy : Bool} {R : Option Bool → Shared → Prop}
    (fin : ∀ h', Heap.SameBut a s.heap h' → TxR P w h' a S' es1.size → R (some true) { s with heap := h' }) :
    wpAny (model P w) A (do
        storeSet a es1 t2
        if (!dummy && t2.tooFull) = true then do
            g (relayAll t2 es1 (SetTable.grown es1.size)).2.2
            storeSet a (relayAll t2 es1 (SetTable.grown es1.size)).1 (relayAll t2 es1 (SetTable.grown es1.size)).2.1
            pure (some true)
          else pure (some true)) R E s := by
  refine wpAny_bind (wpAny_storeSet_of ho hd ?_ (fits_of_scanBound b1))
  have at1 := store_at (es' := es1) (t' := t2) ho hd
  have but1 := Heap.SameBut.update s.heap a (Obj.putSet es1 t2)
  split
  case isFalse => exact wpAny_pure (fin _ but1 ⟨_, es1, _, t2, at1, hex, rfl, g1, nd1, m1, b1, f2, rfl, r2, l2⟩)
  case isTrue =>
    have perm := relayAll_perm t2 es1 (SetTable.grown es1.size)
    have fits := relayAll_fits t2 es1 (SetTable.grown es1.size)
    have rises := relayAll_ris t2 es1 (SetTable.grown es1.size)
    have leds := relayAll_led t2 es1 (SetTable.grown es1.size)
    generalize relayAll t2 es1 (SetTable.grown es1.size) = Z at perm fits rises leds ⊢
    obtain ⟨es2, t3, gave⟩ := Z
    dsimp only at perm fits rises leds ⊢
    have size : es2.size = es1.size := by rw [← Array.length_toList, perm.length_eq, Array.length_toList]
    have b2 : es2.size < scanBound := by rw [size]; exact b1
    refine wpAny_bind (free _ _ _ (wpAny_bind (wpAny_storeSet_of at1 rfl ?_ (fits_of_scanBound b2))))
    have at2 := store_at (es' := es2) (t' := t3) at1 rfl
    exact wpAny_pure (fin _ (but1.trans (Heap.SameBut.update _ a _)) ⟨_, es2, _, t3, at2, hex, rfl, fun e he => g1 e (perm.mem_iff.mp he), (perm.map keyT).nodup_iff.mpr nd1,
      fun k => (m1 k).trans (perm.map keyT).mem_iff.symm, b2, fits, size, rises, l2.imp id fun z => by rw [leds]; exact z⟩)
/-- a text added, its hash in hand -/
theorem txR_add {k : Str} {tk : Tok} {Q : Bool → Shared → Prop} (R : TxR P w s.heap a S n) (room : n + 1 < scanBound)
    (fin : ∀ h', Heap.SameBut a s.heap h' → TxR P w h' a (fun j => S j || decide (j = k)) (if S k = true then n else n + 1) → Q (!S k) { s with heap := h' }) :
    wpAny (model P w) A (setAddHashed a (.str k tk) ((strKind P w).hash k)) Q E s := by
  obtain ⟨o, es, ep, t, ho, hex, hd, good, nd, hm, hb, hf, hn, rises, led⟩ := R
  have isk : (strKind P w).is k (.str k tk) = true := Froz.is_str k tk
  have scan : (Value.str k tk).scannable = true := rfl
  have elems : ElemsOf (strKind P w) es.toList := goodT_elems good
  unfold setAddHashed setAddHashedIn
  refine wpAny_holding (wpAny_bind (wpAny_setState_of ho hd hf ?_))
  dsimp only
  rw [byScan_of scan hb elems]
  simp only [↓reduceIte]
  unfold setAddByScan
  refine wpAny_bind (wpAny_bind (wpAny_rule (wpAny_bind (wpAny_setScan_of isk ho hd hf elems ?_))))
  cases found : List.findIdx? (fun e => (strKind P w).is k e.2) es.toList with
  | some j =>
    dsimp only
    obtain ⟨hj, pj, _⟩ := List.findIdx?_eq_some_iff_getElem.mp found
    have inS : S k = true := (hm k).2 ((goodT_mem (P := P) (w := w) good k).2 ⟨es.toList[j], List.getElem_mem hj, pj⟩)
    have q := fin s.heap (Heap.SameBut.refl a s.heap) ⟨o, es, ep, t, ho, hex, hd, good, nd, fun i => by
      rw [Bool.or_eq_true, decide_eq_true_eq, ← hm i]
      exact ⟨fun z => z.elim id (fun e => e ▸ inS), .inl⟩, hb, hf, by rw [if_pos inS]; exact hn, rises, led⟩
    rw [inS] at q
    exact wpAny_pure (wpAny_pure q)
  | none =>
    dsimp only
    have fresh : k ∉ es.toList.map keyT := fun z => by
      obtain ⟨e, he, q⟩ := (goodT_mem (P := P) (w := w) good k).1 z
      rw [List.findIdx?_eq_none_iff.mp found e he] at q
      cases q
    have offS : S k = false := Bool.eq_false_iff.mpr fun q => fresh ((hm k).1 q)
    have ways : ∀ (b : Bool) {s₁ : Shared} {Q' : Unit → Shared → Prop}, Q' () s₁ → wpAny (model P w) A (match b with | true => rule "set.scan.the-table-gave-way" | false => pure ()) Q' E s₁ := fun b s₁ Q' q => by
      cases b <;> first | exact wpAny_pure q | exact wpAny_rule q
    have perm := layNew_perm t es ((strKind P w).hash k) (.str k tk)
    have fits := layNew_fits t es ((strKind P w).hash k) (.str k tk)
    have ris1 := layNew_ris t es ((strKind P w).hash k) (.str k tk) rises
    have led1 := layNew_led t es ((strKind P w).hash k) (.str k tk)
    generalize layNew t es ((strKind P w).hash k) (.str k tk) = Z at perm fits ris1 led1 ⊢
    obtain ⟨es1, t1, dummy, gave⟩ := Z
    dsimp only at perm fits ris1 led1 ⊢
    rw [Array.toList_push] at perm
    have permC : es1.toList.Perm (((strKind P w).hash k, Value.str k tk) :: es.toList) := perm.trans (List.perm_append_singleton _ _)
    have permK : (es1.toList.map keyT).Perm (k :: es.toList.map keyT) := permC.map keyT
    have good1 : ∀ e ∈ es1.toList, GoodT P w e := fun e he => (List.mem_cons.mp (permC.mem_iff.mp he)).elim (fun z => by rw [z]; exact ⟨k, tk, rfl, rfl⟩) (good e)
    have nd1 : (es1.toList.map keyT).Nodup := permK.nodup_iff.mpr (List.nodup_cons.mpr ⟨fresh, nd⟩)
    have mem1 : ∀ i, (S i || decide (i = k)) = true ↔ i ∈ es1.toList.map keyT := fun i => by
      rw [Bool.or_eq_true, decide_eq_true_eq, hm i, permK.mem_iff, List.mem_cons]
      exact Or.comm
    have size : es1.size = n + 1 := by rw [← Array.length_toList, permC.length_eq, List.length_cons, Array.length_toList, hn]
    have b1 : es1.size < scanBound := by rw [size]; exact room
    have ledd : w.params.followText "set-order" = true ∨ t1.led = true := led.imp id fun z => by rw [led1]; exact z
    have last : ∀ h', Heap.SameBut a s.heap h' → TxR P w h' a (fun j => S j || decide (j = k)) es1.size → Q true { s with heap := h' } := fun h' sb r => by
      have q := fin h' sb
      rw [offS] at q
      rw [size] at r
      exact q r
    refine wpAny_bind (ways _ ?_)
    split
    · refine wpAny_bind ?_
      rw [hashByValue_scannable 8 scan]
      refine wpAny_pure (txR_tail (fun b s₁ Q' q => by cases b <;> first | exact wpAny_pure q | exact wpAny_rule q) ho hex hd good1 nd1 mem1 b1 ?_ ?_ ?_ fun h' sb r => by dsimp only; exact wpAny_pure (last h' sb r))
      · first | (split <;> first | exact fits | exact SetTable.fits_plain_off fits) | exact fits
      · first | (split <;> exact ris1) | exact ris1
      · first | (split <;> exact ledd) | exact ledd
    · refine wpAny_bind (wpAny_pure ?_)
      simp only [↓reduceIte]
      exact txR_tail (fun b s₁ Q' q => by cases b <;> first | exact wpAny_pure q | exact wpAny_rule q) ho hex hd good1 nd1 mem1 b1 fits ris1 ledd fun h' sb r => by dsimp only; exact wpAny_pure (last h' sb r)
/-- all that a walk yields, into the set -/
theorem txR_fill {I : Addr} {fp wr : List Addr} {G : Array GenState → Array GenState → Prop} {n : Nat} {Pv : Nat → Value → Prop} {St : Nat → Shared → Prop} {R : Result → Shared → Prop}
    (W : WalksS P w A.in1 I fp wr G n Pv St) (T : Addr) (apart : T ∉ fp) (xs : List Str) (many : n = xs.length) (room : xs.length + 1 < scanBound) (item : ∀ i v, Pv i v → ∃ k t, xs[i]? = some k ∧ v = .str k t) :
    ∀ (left i : Nat) (s : Shared), n - i = left → i ≤ n → St i s → (∃ c, c ≤ i ∧ TxR P w s.heap T (fun j => decide (j ∈ xs.take i)) c) →
      (∀ s' c, Moved (T :: wr) G s s' → c ≤ n → TxR P w s'.heap T (fun j => decide (j ∈ xs)) c → R (.ok (.ret .none)) s') → codeAny (model P w) A (.builtin "set.update.loop" ⟨[.ref T, .ref I], []⟩) R s := by
  have offW : T ∉ wr := fun z => apart (W.sub _ z)
  have incl : ∀ b ∈ wr, b ∈ T :: wr := fun b z => List.mem_cons_of_mem _ z
  intro left
  induction left with
  | zero =>
    intro i s e0 le st ⟨c, hc, set⟩ fin
    obtain rfl : i = n := by omega
    refine codeAny_builtin F.entry_set_update_loop ?_
    rw [Around.under_plainId F.plain_set_update_loop _]
    show wpAny _ A.in1 (pyNext (.ref I) >>= _) _ _ s
    refine wpAny_bind (W.done s _ _ st fun s' mv => ?_)
    rw [List.take_of_length_le (by omega)] at set
    exact wpAny_pure (fin s' c (mv.mono incl) hc (set.keep fun o z => mv.heap T o offW z))
  | succ left ih =>
    intro i s e0 le st ⟨c, hc, set⟩ fin
    have lt : i < n := by omega
    refine codeAny_builtin F.entry_set_update_loop ?_
    rw [Around.under_plainId F.plain_set_update_loop _]
    show wpAny _ A.in1 (pyNext (.ref I) >>= _) _ _ s
    refine wpAny_bind (W.item i s _ _ lt st fun v s' hP st' mv => ?_)
    obtain ⟨k, t, hk, rfl⟩ := item i v hP
    have set' : TxR P w s'.heap T (fun j => decide (j ∈ xs.take i)) c := set.keep fun o z => mv.heap T o offW z
    show wpAny _ A.in1 (holding [Value.str k t] (setAdd T (.str k t)) >>= _) _ _ s'
    refine wpAny_bind (wpAny_holding ?_)
    unfold setAdd
    refine wpAny_holding (wpAny_bind ((strKind P w).pyHash (k := k) (Froz.is_str _ _) ?_))
    refine txR_add (s := { s' with toks := s'.toks + 1 }) set' (by omega) fun h' but set2 => ?_
    have set3 : TxR P w h' T (fun j => decide (j ∈ xs.take (i + 1))) (if decide (k ∈ xs.take i) = true then c else c + 1) := set2.same fun j => by
      rw [List.take_add_one, hk]
      simp [List.mem_append]
    have le3 : (if decide (k ∈ xs.take i) = true then c else c + 1) ≤ i + 1 := by
      split <;> omega
    refine wpAny_pure ⟨plainId_quiet F.plain_set_update_loop _, ih (i + 1) _ (by omega) lt (W.frame _ s' _ _ st' (Nat.le_succ _) fun b z o e => ?_) ⟨_, le3, set3⟩ fun s'' c2 mv2 hc2 set4 => ?_⟩
    · rw [but.2 b (fun y : b = T => apart (by rw [← y]; exact z))]; exact e
    · refine fin s'' c2 (Moved.trans W.gtrans ((mv.mono incl).then_heap (Nat.le_succ _) fun b o z e => ?_) mv2) hc2 set4
      rw [but.2 b (fun y : b = T => z (by rw [y]; exact List.mem_cons_self))]; exact e
/-- a text's signs, each a text -/
def signsOf (x : Str) : List Str := x.cps.toList.map fun c => ⟨#[c]⟩
theorem sub_str_set : isSubtype (.type "str") (.type "set") = pure false := by rw [isSubtype_type]; kernel_rfl
theorem sub_str_frozenset : isSubtype (.type "str") (.type "frozenset") = pure false := by rw [isSubtype_type]; kernel_rfl
set_option maxHeartbeats 4000000 in
/-- set(a text) -/
theorem call_set_text {x : Str} {t : Tok} {Q : Value → Shared → Prop} (hh : A.handled = none) (room : (signsOf x).length + 1 < scanBound)
    (fin : ∀ (h' : Heap) (tk c : Nat), TxR P w h' s.heap.objs.size (fun j => decide (j ∈ signsOf x)) c → c ≤ (signsOf x).length → (∀ b o, s.heap.get? b = some o → h'.get? b = some o) → Q (.ref s.heap.objs.size) { s with heap := h', toks := tk }) :
    wpAny (model P w) A (call (.type "set") [.str x t]) Q E s := by
  have mro := F.called_set.mro
  obtain ⟨c, tl, mro⟩ := mro
  have made := F.called_set.made
  have sub := F.called_set.sub
  refine wpAny_call (codeAny_of_tree ?_)
  show wpAny _ _ (callAny (.type "set") _) _ _ _
  refine wpAny_pure ⟨Code.quiet_builtin _ (by decide +kernel), codeAny_builtin F.entry_type_call ?_⟩
  rw [Around.under_plain (weight_type_call_type "set" [.str x t] []) rfl]
  have f1 := F.called_set.notType
  have f2 := F.called_set.canCreate
  have f3 := F.typeCall_set_1 (.str x t)
  repeat (any_goals (first | assumption | wp_step))
  obtain ⟨h1, e1⟩ : ∃ h1 : Heap, h1 = s.heap.push { cls := .type "set", dict := none, data := .set #[] 0 (.fresh 0 0 (!w.params.followText "set-order")) } := ⟨_, rfl⟩
  have size1 : h1.objs.size = s.heap.objs.size + 1 := by rw [e1]; exact Heap.size_push ..
  have keep1 : ∀ b o, s.heap.get? b = some o → h1.get? b = some o := fun b o z => by rw [e1]; exact Heap.get?_push_of_some _ z
  have at1 : h1.get? s.heap.objs.size = some { cls := .type "set", dict := none, data := .set #[] 0 (.fresh 0 0 (!w.params.followText "set-order")) } := by rw [e1]; exact Heap.get?_push_size _ rfl
  refine codeAny_mono (code_set_led1 (.str x t) (E := E) (Q₁ := fun obj s₁ => obj = .ref s.heap.objs.size ∧ s₁ = { s with heap := h1 }) ⟨rfl, by rw [e1]⟩) fun r s₁ back => ?_
  match r, back with
  | .error e, back => exact back
  | .ok (.ret obj), back =>
    obtain ⟨rfl, rfl⟩ := back
    have ty : Shared.TypeIs { s with heap := h1 } (.ref s.heap.objs.size) "set" := ⟨_, at1, rfl⟩
    have look := F.called_set.init.lookup
    have bnd := F.called_set.init.bind (.ref s.heap.objs.size)
    repeat (any_goals (first | assumption | wp_step))
    refine codeAny_mono (codeAny_call_builtin (R := wants (fun r s₂ => r = .none ∧ ∃ h' tk c, s₂ = { s with heap := h', toks := tk } ∧ TxR P w h' s.heap.objs.size (fun j => decide (j ∈ signsOf x)) c ∧ c ≤ (signsOf x).length ∧
        (∀ b o, s.heap.get? b = some o → h'.get? b = some o)) E) F.called_set.init.plain F.entry_set_init (check_set_init_1 ty ?_)) fun r₂ s₂ back₂ => ?_
    · have z1 := sub_str_set
      have z2 := sub_str_frozenset
      have z3 : (Value.type "str" == Value.type "dict") = false := by decide
      unfold Builtin.«set.__init__» noKeywords Builtin.Frozenset.updateFrom
      generalize hPI : pyIter = PI
      wp_walk
      subst hPI
      refine wpAny_pyIter_str fun o St walk st0 => ?_
      refine wpAny_bind (wpAny_runValue ?_)
      have hh3 : A.in1.in1.in1.handled = none := by simp [hh]
      have many : x.cps.size = (signsOf x).length := by simp [signsOf]
      have empty : TxR P w (h1.push o) s.heap.objs.size (fun j => decide (j ∈ (signsOf x).take 0)) 0 :=
        ⟨_, #[], 0, _, Heap.get?_push_of_some _ at1, ⟨rfl, rfl, rfl⟩, rfl, (fun e he => by simp at he), (by simp), (fun k => by simp), (by decide), (by rfl), rfl, List.Pairwise.nil, by
          show _ ∨ (!w.params.followText "set-order") = true
          cases w.params.followText "set-order"
          · exact .inr rfl
          · exact .inl rfl⟩
      refine txR_fill ((walk _ hh3).toS) s.heap.objs.size (fun z => by have z1 : s.heap.objs.size = h1.objs.size := List.mem_singleton.mp z; rw [size1] at z1; exact absurd z1 (Nat.ne_of_lt (Nat.lt_succ_self _))) (signsOf x) many room (fun i v sign => ?item) (x.cps.size - 0) 0 _ rfl (Nat.zero_le _) st0 ⟨0, Nat.le_refl 0, empty⟩ fun s' c' mv le set => ?last
      case item =>
        obtain ⟨c, u, hc, rfl⟩ := sign
        refine ⟨⟨#[c]⟩, u, ?_, rfl⟩
        show (x.cps.toList.map _)[i]? = _
        rw [List.getElem?_map, Array.getElem?_toList, hc]
        rfl
      case last =>
        obtain ⟨h', g2, d', tk', os'⟩ := s'
        obtain rfl : g2 = s.gens := mv.gens
        obtain rfl : d' = s.drawn := mv.drawn
        obtain rfl : os' = s.os := mv.os
        show wpAny _ _ _ _ _ _
        refine wpAny_pure ?_
        show wpAny _ _ (ret Value.none) _ _ _
        rw [many] at le
        refine wpAny_pure ⟨rfl, h', tk', c', rfl, set, le, fun b o e => ?_⟩
        have lt := Heap.lt_size e
        refine mv.heap b o (fun z => ?_) (Heap.get?_push_of_some _ (keep1 _ _ e))
        rcases List.mem_cons.mp z with z | z
        · exact absurd lt (by rw [z]; exact Nat.lt_irrefl _)
        · have z3 : b = h1.objs.size := List.mem_singleton.mp z
          rw [size1] at z3
          exact absurd lt (by rw [z3]; exact Nat.not_lt_of_le (Nat.le_succ _))
    · match r₂, back₂ with
      | .error e, back₂ => exact back₂
      | .ok (.ret r), back₂ =>
        obtain ⟨rfl, h', tk, c', rfl, set, le, kept⟩ := back₂
        repeat (any_goals (first | assumption | wp_step))
        exact fin _ _ _ set le kept
end
end L2

namespace L2
open PySem PySem.Spec PyProof.Rows
section
variable {P : Program} {w : World} {A : Around} {E : Value → Shared → Prop} {s : Shared} {a : Addr} {S : Str → Bool} {n : Nat}
theorem strs_of_good : ∀ l : List (Int × Value), (∀ e ∈ l, GoodT P w e) → StrsAre (l.map (·.2)) (l.map keyT)
  | [], _ => .nil
  | e :: l, g => by
    obtain ⟨x, tk, z, _⟩ := g e List.mem_cons_self
    have k : keyT e = x := by unfold keyT; rw [z]
    rw [List.map_cons, List.map_cons, z, k]
    exact .cons x tk (strs_of_good l fun u hu => g u (List.mem_cons_of_mem _ hu))
def textOf (v : Value) : Str := match v with | .str x _ => x | _ => Str.empty
theorem strs_of : ∀ l : List Value, (∀ v ∈ l, ∃ x tk, v = Value.str x tk) → StrsAre l (l.map textOf)
  | [], _ => .nil
  | v :: l, g => by
    obtain ⟨x, tk, rfl⟩ := g v List.mem_cons_self
    exact .cons x tk (strs_of l fun u hu => g u (List.mem_cons_of_mem _ hu))
/-- sorted(a set of texts) -/
theorem sorted_texts {Q : Value → Shared → Prop} (R : TxR P w s.heap a S n) (hh : A.handled = none) (few : n < 64)
    (fin : ∀ s' p (out : Array Value) (c : Nat) (ys : List Str), (∀ b o, s.heap.get? b = some o → s'.heap.get? b = some o) → s'.gens = s.gens → s'.os = s.os → s.heap.objs.size ≤ p →
      s'.heap.get? p = some (seqObj "list" out c) → StrsAre out.toList ys → sortedS ys = true → ys.Nodup → (∀ k, k ∈ ys ↔ S k = true) → ys.length = n → Q (.ref p) s') :
    wpAny (model P w) A (call (.builtin "sorted") [.ref a]) Q E s := by
  obtain ⟨o, es, ep, t, ho, hex, hd, good, nd, mem, bound, fits, many, rises, led⟩ := R
  refine Calls.call_function_entry kind_sorted plain_sorted entry_sorted (args_sorted1 _) ?_
  unfold Builtin.«sorted»
  refine wpAny_bind (m := checkCount "sorted" 1 1 _) (wpAny_pure (wpAny_bind (collect_set (A := A.in1) hh ⟨o, ho, hex.1, hd⟩ fits bound rises led fun s1 vs k1 size1 gens1 os1 perm => ?_)))
  have len : vs.length = n := by rw [perm.length_eq, List.length_map, Array.length_toList]; exact many
  have ts : StrsAre vs (vs.map textOf) := strs_of vs fun v hv => by
    obtain ⟨e, he, q⟩ := List.mem_map.mp (perm.mem_iff.mp hv)
    obtain ⟨x, tk, z, _⟩ := good e he
    exact ⟨x, tk, by rw [← q]; exact z⟩
  have permK : (vs.map textOf).Perm (es.toList.map keyT) := by
    have q := perm.map textOf
    rw [List.map_map] at q
    exact q
  refine wpAny_bind (wpAny_newList ?_ (by rw [len, sizeLine_eq]; omega))
  have at1 : (s1.heap.push (seqObj "list" vs.toArray 0)).get? s1.heap.objs.size = some (seqObj "list" vs.toArray 0) := Heap.get?_push_size _ rfl
  refine wpAny_bind (wpAny_holding (wpAny_call_entry slot_list_sort ⟨_, at1, rfl⟩ entry_list_sort (list_sort_treeK strKind_oneLt at1 ts.keysOf (fun v₁ v₂ rest e => keyKind_strs (by rw [← e]; exact ts)) (by rw [len]; exact few) fun st' hp hs => ?_) (args_list_sort _)))
  obtain ⟨ys, g1, g2, g3⟩ := sorted_out_str ts hp hs
  obtain ⟨c, hc⟩ := sortedHeap_at (vs := vs) (out := (arrOf st').map (·.2)) at1
  have permY : ys.Perm (es.toList.map keyT) := g2.trans permK
  refine ⟨.none, rfl, wpAny_pure ⟨_, rfl, fin _ s1.heap.objs.size _ c ys (fun b u z => ?_) gens1 os1 size1 hc g1 g3 (permY.nodup_iff.mpr nd) (fun k => by rw [permY.mem_iff, ← mem k]) ?_⟩⟩
  · have z1 := k1 b u z
    have lt := Heap.lt_size z1
    show (sortedHeap (s1.heap.push (seqObj "list" vs.toArray 0)) s1.heap.objs.size vs ((arrOf st').map (·.2))).get? b = some u
    rw [sortedHeap_old (Nat.ne_of_lt lt) (by rw [size_push']; exact Nat.lt_succ_of_lt lt)]
    exact Heap.get?_push_of_some _ z1
  · rw [permY.length_eq, List.length_map, Array.length_toList]
    exact many
end
/-! ### sorted(set(a text)) as an expression -/
def TxO (P : Program) (w : World) (a : Addr) (S : Str → Bool) (n : Nat) : HO := .ext fun h => TxR P w h a S n
theorem txO_new {w : World} {P : Program} {H : Hp} {h : Heap} {a : Addr} {S : Str → Bool} {n : Nat} (R : TxR P w h a S n) : ObjOk P w H h a (TxO P w a S n) :=
  ⟨R, (let ⟨o, _, _, _, ho, _⟩ := R; ⟨o, ho⟩), fun _ _ z k => z.keep fun o e => k o e⟩
section
variable {X : Cx}
/-- set(a text): a set of its signs -/
def rSetTx (P : Program) (w : World) : List V → Hp → VK → Prop := fun xs H Q => ∃ x : Str, xs = [.str x] ∧ (signsOf x).length ≤ 1000 ∧ ∀ p c, c ≤ (signsOf x).length → H p = none → Q (.ref p) (upd H p (TxO P w p (fun j => decide (j ∈ signsOf x)) c))
theorem cr_setTx (hc : X.calm = true) : CallR X (.type "set") (rSetTx X.prog X.w) := by
  intro pins s σ H xs us Q I r h
  obtain ⟨x, rfl, few, q⟩ := h
  obtain ⟨u, rfl, ru⟩ := vals1 r
  obtain ⟨t, rfl⟩ := (show ∃ t, u = Value.str x t from ru)
  refine call_set_text (I.ok.hd hc) (Nat.lt_of_le_of_lt (Nat.succ_le_succ few) (by decide)) fun h' tk c R le kept => ?_
  have fresh : H s.heap.objs.size = none := I.hok.fresh (Nat.le_refl _)
  exact ⟨.ref s.heap.objs.size, _, I.laid (t' := tk) kept (Nat.le_refl _) (txO_new R), rfl, q _ c le fresh⟩
/-- sorted(such a set): a new list, rising, of its texts -/
def rSortTx (P : Program) (w : World) : List V → Hp → VK → Prop := fun vs H Q => ∃ (a : Addr) (S : Str → Bool) (n : Nat), vs = [.ref a] ∧ H a = some (TxO P w a S n) ∧ n < 64 ∧
  ∀ (ys : List Str) (p : Addr), sortedS ys = true → ys.Nodup → (∀ k, k ∈ ys ↔ S k = true) → ys.length = n → H p = none → Q (.ref p) (upd H p (.lst (ys.map V.str)))
theorem cr_sortTx (hc : X.calm = true) : CallR X (.builtin "sorted") (rSortTx X.prog X.w) := by
  intro pins s σ H vs us Q I r h
  obtain ⟨a, S, n, rfl, ha, few, q⟩ := h
  have R : TxR X.prog X.w s.heap a S n := (show ObjOk X.prog X.w H s.heap a (.ext fun h => TxR X.prog X.w h a S n) from I.hok a _ ha).1
  rw [Vals.ref1 r]
  refine sorted_texts R (I.ok.hd hc) few fun s' p out c ys kept g o new at_ st so nd mem len => ?_
  have fits : (ys.map V.str).length ≤ sizeLine := by rw [List.length_map, len, sizeLine_eq]; omega
  have fresh : H p = none := I.hok.fresh new
  have J : Inv X pins σ (upd H p (.lst (ys.map V.str))) { s with heap := s'.heap, gens := s'.gens, drawn := s'.drawn, toks := s'.toks } :=
    I.call (ch := []) (Un.laid kept new fresh) (I.hok.laid kept new ⟨fits, out.toList, c, vals_of_strs st, at_⟩) (by rw [g]; exact I.bare) (fun _ z => nomatch z)
  have e : s' = { s with heap := s'.heap, gens := s'.gens, drawn := s'.drawn, toks := s'.toks } := by
    cases s'
    cases s
    cases o
    rfl
  rw [e]
  exact ⟨.ref p, _, J, rfl, q ys p so nd mem len fresh⟩
end
end L2


namespace L2
open PySem PySem.Spec PyProof.Rows PySem.ErrX
/-! ### a def of the top with what a call of it asks -/
structure Df (K : PySem.W.Frag) (mg : Str → Option Value) (x : Str) (st : Stmt) (ps : List Str) (f : Addr) (fd : FuncData) : Prop where
  F : Fun K x x st f fd
  g : mg x = some (.ref f)
  b : L2.Binds K fd ps []
theorem Df.call {X : Cx} {x : Str} {st : Stmt} {ps : List Str} {f : Addr} {fd : FuncData} {k : Nat} {sp : Sp} {e : Expr} {es : List Expr} {t : TA} {p pos : Pos} (D : Df X.K X.mg x st ps f fd) (G : FnOk X.prog X.w X.K X.mg X.base CX0 k f fd ps sp) (hr : Room k X.A)
    (ha : PA X (e :: es) t) (hg : Gl X x := by rfl) (hdb : (x == ("__debug__" : Str)) = false := by decide) (he : starEach (e :: es) X.env = (false, eval e X.env) :: starEach es X.env := by rfl) (hpl : (backTo pos (starEach es X.env)).any (·.1) = false := by rfl) :
    PE X (.Call (.Name x p) (e :: es) [] pos) (tCall sp [] E0 t) := pe_call G hr hg D.g D.F.kp D.b .nil pass0 ha hdb he hpl
theorem Df.callX {X : Cx} {x : Str} {st : Stmt} {ps : List Str} {f : Addr} {fd : FuncData} {k : Nat} {sp : Sp} {CX : CXT} {E : XK} {e : Expr} {es : List Expr} {t : TA} {p pos : Pos} (D : Df X.K X.mg x st ps f fd) (G : FnOk X.prog X.w X.K X.mg X.base CX k f fd ps sp) (hr : Room k X.A) (hx : Passes CX X E)
    (ha : PA X (e :: es) t) (hg : Gl X x := by rfl) (hdb : (x == ("__debug__" : Str)) = false := by decide) (he : starEach (e :: es) X.env = (false, eval e X.env) :: starEach es X.env := by rfl) (hpl : (backTo pos (starEach es X.env)).any (·.1) = false := by rfl) :
    PE X (.Call (.Name x p) (e :: es) [] pos) (tCall sp [] E t) := pe_call G hr hg D.g D.F.kp D.b .nil hx ha hdb he hpl
theorem Same.rfl' {H : Hp} : Same H H := fun _ _ e => e
theorem sameUpd {H : Hp} {p : Addr} {o : HO} (h : H p = none) : Same H (upd H p o) := fun b x e => by
  rw [upd_ne (ne_of_none e h)]
  exact e
/-! ### a comprehension that makes nothing but its list -/
theorem lc_pure {J : It} {G : Hp → Prop} {xs : List V} {H : Hp} {D : Addr} {g : TG} {tt : TT} {te : TE} {vs : List Nat} {σ : L2.St} {Qd : Hp → Prop} (w : Walk J xs.length G (YAt xs)) (stay : ∀ H', Same H H' → G H') (few : xs.length ≤ 60000) (nD : H D = none) (p : V → Bool) (f : V → V)
    (step : ∀ x ∈ xs, ∀ H', Same H H' → ∀ (KK : VK) (R : Hp → Prop), (p x = true → ∀ H4, Same H' H4 → KK (f x) H4) → (p x = false → ∀ H3, Same H' H3 → R H3) →
      g x (wipe σ vs) H' fun σ2 H2 => wipe σ2 vs = wipe σ vs ∧ tt σ2 H2 fun b H3 => if b = true then te σ2 H3 KK else R H3)
    (hd : ∀ H', Same H H' → H' D = some (.lst ((xs.filter p).map f)) → Qd H') :
    ∃ W : Nat → Nat → Hp → Prop, (∃ m, W 0 m (upd H D (.lst []))) ∧ ∀ i m H, W i m H →
      (J.stop i H ∧ Qd H) ∨ (J.go i H ∧ ∃ Nx : Hp → Prop, (∀ H', Nx H' → ∃ m', m' < m ∧ W (i + 1) m' H') ∧ ∀ x H', J.yld i H x H' → g x (wipe σ vs) H' fun σ2 H2 => wipe σ2 vs = wipe σ vs ∧ tt σ2 H2 fun b H3 =>
        if b = true then te σ2 H3 fun y H4 => ∃ acc, H4 D = some (.lst acc) ∧ acc.length < sizeLine ∧ Nx (upd H4 D (.lst (acc ++ [y]))) else Nx H3) := by
  have few2 : 60000 < sizeLine := by decide
  refine lc_it w (fun i H5 => Same H H5 ∧ H5 D = some (.lst (((xs.take i).filter p).map f))) ⟨sameUpd nD, upd_same⟩ (fun _ H5 _ z => stay _ z.1) ?_ ?_
  · rintro i x H5 H6 hi ⟨s5, hD⟩ ⟨rfl, hx⟩
    refine step x (List.mem_of_getElem? hx) H6 s5 _ _ (fun px H7 s7 => ⟨_, s7 _ _ hD, ?_, fun b o e => ?_, ?_⟩) fun px H7 s7 => ⟨s5.trans s7, ?_⟩
    · rw [List.length_map]
      refine Nat.lt_of_le_of_lt (List.length_filter_le _ _) ?_
      rw [List.length_take]
      omega
    · rw [upd_ne (ne_of_none e nD)]
      exact s7 _ _ (s5 _ _ e)
    · rw [upd_same, List.take_add_one, hx, Option.toList_some, List.filter_append, List.filter_cons, px, List.map_append]
      rfl
    · rw [s7 _ _ hD, List.take_add_one, hx, Option.toList_some, List.filter_append, List.filter_cons, px]
      simp
  · rintro H5 ⟨s5, hD⟩
    rw [List.take_length] at hD
    exact hd H5 s5 hD
/-- the same over a text's signs -/
theorem lc_pureS {z : Str} {H : Hp} {D : Addr} {g : TG} {tt : TT} {te : TE} {vs : List Nat} {σ : L2.St} {Qd : Hp → Prop} (few : z.length ≤ 60000) (nD : H D = none) (p : Nat → Bool) (f : Nat → V)
    (step : ∀ c ∈ z.cps.toList, ∀ H', Same H H' → ∀ (KK : VK) (R : Hp → Prop), (p c = true → ∀ H4, Same H' H4 → KK (f c) H4) → (p c = false → ∀ H3, Same H' H3 → R H3) →
      g (.str ⟨#[c]⟩) (wipe σ vs) H' fun σ2 H2 => wipe σ2 vs = wipe σ vs ∧ tt σ2 H2 fun b H3 => if b = true then te σ2 H3 KK else R H3)
    (hd : ∀ H', Same H H' → H' D = some (.lst ((z.cps.toList.filter p).map f)) → Qd H') :
    ∃ W : Nat → Nat → Hp → Prop, (∃ m, W 0 m (upd H D (.lst []))) ∧ ∀ i m H, W i m H →
      ((Its z).stop i H ∧ Qd H) ∨ ((Its z).go i H ∧ ∃ Nx : Hp → Prop, (∀ H', Nx H' → ∃ m', m' < m ∧ W (i + 1) m' H') ∧ ∀ x H', (Its z).yld i H x H' → g x (wipe σ vs) H' fun σ2 H2 => wipe σ2 vs = wipe σ vs ∧ tt σ2 H2 fun b H3 =>
        if b = true then te σ2 H3 fun y H4 => ∃ acc, H4 D = some (.lst acc) ∧ acc.length < sizeLine ∧ Nx (upd H4 D (.lst (acc ++ [y]))) else Nx H3) := by
  have few2 : 60000 < sizeLine := by decide
  have lz : z.length = z.cps.size := rfl
  refine lc_it walk_str (fun i H5 => Same H H5 ∧ H5 D = some (.lst (((z.cps.toList.take i).filter p).map f))) ⟨sameUpd nD, upd_same⟩ (fun _ _ _ _ => trivial) ?_ ?_
  · rintro i y H5 H6 hi ⟨s5, hD⟩ ⟨rfl, c, hc, rfl⟩
    have hx : z.cps.toList[i]? = some c := by rw [Array.getElem?_toList]; exact hc
    refine step c (List.mem_of_getElem? hx) H6 s5 _ _ (fun px H7 s7 => ⟨_, s7 _ _ hD, ?_, fun b o e => ?_, ?_⟩) fun px H7 s7 => ⟨s5.trans s7, ?_⟩
    · rw [List.length_map]
      refine Nat.lt_of_le_of_lt (List.length_filter_le _ _) ?_
      rw [List.length_take, Array.length_toList]
      omega
    · rw [upd_ne (ne_of_none e nD)]
      exact s7 _ _ (s5 _ _ e)
    · rw [upd_same, List.take_add_one, hx, Option.toList_some, List.filter_append, List.filter_cons, px, List.map_append]
      rfl
    · rw [s7 _ _ hD, List.take_add_one, hx, Option.toList_some, List.filter_append, List.filter_cons, px]
      simp
  · rintro H5 ⟨s5, hD⟩
    rw [List.take_of_length_le (by rw [Array.length_toList]; exact Nat.le_refl _)] at hD
    exact hd H5 s5 hD
end L2
namespace L2
open PySem PySem.Spec PyProof.Rows PySem.ErrX
/-! ### set(a list of texts), and how many it has -/
section
variable {P : Program} {w : World} {A : Around} {E : Value → Shared → Prop} {s : Shared}
set_option maxHeartbeats 4000000 in
theorem call_set_texts {l : Addr} {items : Array Value} {xs : List Str} {Q : Value → Shared → Prop} (hh : A.handled = none) (hl : s.heap.IsList l items) (hi : StrsAre items.toList xs) (room : xs.length + 1 < scanBound)
    (fin : ∀ (h' : Heap) (tk c : Nat), TxR P w h' s.heap.objs.size (fun j => decide (j ∈ xs)) c → (∀ b o, s.heap.get? b = some o → h'.get? b = some o) → Q (.ref s.heap.objs.size) { s with heap := h', toks := tk }) :
    wpAny (model P w) A (call (.type "set") [.ref l]) Q E s := by
  have mro := F.called_set.mro
  obtain ⟨c, tl, mro⟩ := mro
  have made := F.called_set.made
  have sub := F.called_set.sub
  refine wpAny_call (codeAny_of_tree ?_)
  show wpAny _ _ (callAny (.type "set") _) _ _ _
  refine wpAny_pure ⟨Code.quiet_builtin _ (by decide +kernel), codeAny_builtin F.entry_type_call ?_⟩
  rw [Around.under_plain (weight_type_call_type "set" [.ref l] []) rfl]
  have f1 := F.called_set.notType
  have f2 := F.called_set.canCreate
  have f3 := F.typeCall_set_1 (.ref l)
  repeat (any_goals (first | assumption | wp_step))
  obtain ⟨h1, e1⟩ : ∃ h1 : Heap, h1 = s.heap.push { cls := .type "set", dict := none, data := .set #[] 0 (.fresh 0 0 (!w.params.followText "set-order")) } := ⟨_, rfl⟩
  have size1 : h1.objs.size = s.heap.objs.size + 1 := by rw [e1]; exact Heap.size_push ..
  have keep1 : ∀ b o, s.heap.get? b = some o → h1.get? b = some o := fun b o z => by rw [e1]; exact Heap.get?_push_of_some _ z
  have at1 : h1.get? s.heap.objs.size = some { cls := .type "set", dict := none, data := .set #[] 0 (.fresh 0 0 (!w.params.followText "set-order")) } := by rw [e1]; exact Heap.get?_push_size _ rfl
  have hl1 : h1.IsList l items := by
    obtain ⟨ol, hol, q⟩ := hl
    exact ⟨ol, keep1 _ _ hol, q⟩
  have hlS : l < s.heap.objs.size := by
    obtain ⟨ol, hol, q⟩ := hl
    exact Heap.lt_size hol
  refine codeAny_mono (code_set_led1 (.ref l) (E := E) (Q₁ := fun obj s₁ => obj = .ref s.heap.objs.size ∧ s₁ = { s with heap := h1 }) ⟨rfl, by rw [e1]⟩) fun r s₁ back => ?_
  match r, back with
  | .error e, back => exact back
  | .ok (.ret obj), back =>
    obtain ⟨rfl, rfl⟩ := back
    have ty : Shared.TypeIs { s with heap := h1 } (.ref s.heap.objs.size) "set" := ⟨_, at1, rfl⟩
    have look := F.called_set.init.lookup
    have bnd := F.called_set.init.bind (.ref s.heap.objs.size)
    repeat (any_goals (first | assumption | wp_step))
    refine codeAny_mono (codeAny_call_builtin (R := wants (fun r s₂ => r = .none ∧ ∃ h' tk c, s₂ = { s with heap := h', toks := tk } ∧ TxR P w h' s.heap.objs.size (fun j => decide (j ∈ xs)) c ∧
        (∀ b o, s.heap.get? b = some o → h'.get? b = some o)) E) F.called_set.init.plain F.entry_set_init (check_set_init_1 ty ?_)) fun r₂ s₂ back₂ => ?_
    · obtain ⟨ol, hol, hcl, nl, hdl⟩ := id hl1
      obtain ⟨ocls, odict, odata, oslots⟩ := ol
      simp only at hcl hdl
      subst hcl; subst hdl
      have hsls := F.sub_list_set
      have hslf := F.sub_list_frozenset
      have z3 : (Value.type "list" == Value.type "dict") = false := by decide
      unfold Builtin.«set.__init__» noKeywords Builtin.Frozenset.updateFrom
      generalize hPI : pyIter = PI
      wp_walk
      subst hPI
      refine wpAny_pyIter_list hl1 ?_
      refine wpAny_bind (wpAny_runValue ?_)
      have hh3 : A.in1.in1.in1.handled = none := by simp [hh]
      have many : items.size = xs.length := by rw [← Array.length_toList, StrsAre.len_eq hi]
      have hneI : l ≠ h1.objs.size := by
        rw [size1]; exact Nat.ne_of_lt (Nat.lt_succ_of_lt hlS)
      have hSf : s.heap.objs.size ∉ [h1.objs.size, l] := by
        rw [size1]; simp only [List.mem_cons, List.mem_singleton, List.not_mem_nil, or_false, not_or]
        exact ⟨Nat.ne_of_lt (Nat.lt_succ_self _), Nat.ne_of_gt hlS⟩
      have empty : TxR P w (h1.push { cls := .type "list_iterator", data := .fields #[.ref l, .int 0 0] }) s.heap.objs.size (fun j => decide (j ∈ xs.take 0)) 0 :=
        ⟨_, #[], 0, _, Heap.get?_push_of_some _ at1, ⟨rfl, rfl, rfl⟩, rfl, (fun e he => by simp at he), (by simp), (fun k => by simp), (by decide), (by rfl), rfl, List.Pairwise.nil, by
          show _ ∨ (!w.params.followText "set-order") = true
          cases w.params.followText "set-order"
          · exact .inr rfl
          · exact .inl rfl⟩
      refine txR_fill ((Walks.list hh3 _ l hneI items).toS) s.heap.objs.size hSf xs many room (fun i v hv => ?item) (items.size - 0) 0 _ rfl (Nat.zero_le _)
          ⟨⟨_, Heap.get?_push_size _ rfl, rfl, rfl⟩, (hl1.push _)⟩ ⟨0, Nat.le_refl 0, empty⟩ fun s' c' mv le set => ?last
      case item =>
        have hv' : items.toList[i]? = some v := by rw [Array.getElem?_toList]; exact hv
        have lt : i < xs.length := by
          rw [← many]
          exact (Array.getElem?_eq_some_iff.mp hv).1
        obtain ⟨t, ht⟩ := StrsAre.at hi (List.getElem?_eq_getElem lt)
        rw [hv'] at ht
        exact ⟨_, t, List.getElem?_eq_getElem lt, Option.some.inj ht⟩
      case last =>
        obtain ⟨h', g2, d', tk', os'⟩ := s'
        obtain rfl : g2 = s.gens := mv.gens
        obtain rfl : d' = s.drawn := mv.drawn
        obtain rfl : os' = s.os := mv.os
        show wpAny _ _ _ _ _ _
        refine wpAny_pure ?_
        show wpAny _ _ (ret Value.none) _ _ _
        refine wpAny_pure ⟨rfl, h', tk', c', rfl, set, fun b o e => ?_⟩
        have lt := Heap.lt_size e
        refine mv.heap b o (fun z => ?_) (Heap.get?_push_of_some _ (keep1 _ _ e))
        simp only [List.mem_cons, List.not_mem_nil, or_false] at z
        rcases z with z | z
        · exact absurd lt (by rw [z]; exact Nat.lt_irrefl _)
        · rw [size1] at z
          exact absurd lt (by rw [z]; exact Nat.not_lt_of_le (Nat.le_succ _))
    · match r₂, back₂ with
      | .error e, back₂ => exact back₂
      | .ok (.ret r), back₂ =>
        obtain ⟨rfl, h', tk, c', rfl, set, kept⟩ := back₂
        repeat (any_goals (first | assumption | wp_step))
        exact fin _ _ _ set kept
end
theorem nd_le : ∀ (ys xs : List Str), ys.Nodup → (∀ k ∈ ys, k ∈ xs) → ys.length ≤ xs.length
  | [], _, _, _ => Nat.zero_le _
  | y :: ys, xs, nd, h => by
    obtain ⟨n1, n2⟩ := List.nodup_cons.mp nd
    have hy := h y List.mem_cons_self
    have ih := nd_le ys (xs.erase y) n2 fun k hk => (List.mem_erase_of_ne fun (z : k = y) => n1 (z ▸ hk)).mpr (h k (List.mem_cons_of_mem _ hk))
    rw [List.length_erase_of_mem hy] at ih
    have := List.length_pos_of_mem hy
    rw [List.length_cons]
    omega
theorem nd_perm : ∀ (ys xs : List Str), ys.Nodup → (∀ k ∈ ys, k ∈ xs) → xs.length ≤ ys.length → ys.Perm xs
  | [], xs, _, _, l => by
    have e : xs = [] := List.eq_nil_of_length_eq_zero (by simpa using l)
    rw [e]
  | y :: ys, xs, nd, h, l => by
    obtain ⟨n1, n2⟩ := List.nodup_cons.mp nd
    have hy := h y List.mem_cons_self
    have ih := nd_perm ys (xs.erase y) n2 (fun k hk => (List.mem_erase_of_ne fun (z : k = y) => n1 (z ▸ hk)).mpr (h k (List.mem_cons_of_mem _ hk))) (by
      rw [List.length_erase_of_mem hy]
      rw [List.length_cons] at l
      omega)
    exact (ih.cons y).trans (List.perm_cons_erase hy).symm
theorem eq_len_of {xs ys : List Str} (nd : ys.Nodup) (m : ∀ k, k ∈ ys ↔ k ∈ xs) : decide (ys.length = xs.length) = decide xs.Nodup := by
  have p1 : ys.length ≤ xs.length := nd_le ys xs nd fun k hk => (m k).1 hk
  by_cases h : xs.Nodup
  · rw [decide_eq_true h]
    apply decide_eq_true
    have p2 : xs.length ≤ ys.length := nd_le xs ys h fun k hk => (m k).2 hk
    omega
  · rw [decide_eq_false h]
    apply decide_eq_false
    intro e
    exact h ((nd_perm ys xs nd (fun k hk => (m k).1 hk) (by omega)).nodup_iff.mp nd)
/-- len(set(xs)), xs a list of texts -/
def tLenSetT (K : PySem.W.Frag) (ta : TE) : TE := fun σ H Q => ta σ H fun x H1 => ∃ (l : Addr) (xs : List Str), x = .ref l ∧ SqL K H1 l (xs.map V.str) ∧ xs.length ≤ 1000 ∧ ∀ c : Nat, c ≤ 2000 → decide (c = xs.length) = decide xs.Nodup → Q (.int (c : Nat)) H1
theorem pe_lenSetT {X : Cx} {a : Expr} {ta : TE} {p p2 q pos : Pos} (hg : Gl X "len") (hm : X.mg "len" = none) (hg2 : Gl X "set") (hm2 : X.mg "set" = none) (ha : PE X a ta) (hc : X.calm = true := by rfl)
    (na : starEach [a] X.env = (false, eval a X.env) :: starEach [] X.env := by rfl) : PE X (.Call (.Name "len" p) [.Call (.Name "set" p2) [a] [] q] [] pos) (tLenSetT X.K ta) := by
  refine ⟨fun pins s σ H Q I h => ?_⟩
  refine Call_ (ld_blt I hg hm boot_len ?_)
  refine PyProof.Rows.callWith_builtin1 (PyProof.Rows.args_cons ?_ rfl) rfl rfl
  refine Call_ (ld_blt I hg2 hm2 boot_set ?_)
  refine PyProof.Rows.callWith_type1 (PyProof.Rows.args_cons (thn (ha.run pins s σ H _ I h) fun v s1 ⟨x, H1, I1, r1, q1⟩ => PyProof.Rows.args_nil ?_) na) na rfl
  obtain ⟨l, xs, rfl, hq, hl, q1⟩ := q1
  cases r1
  obtain ⟨its, r, pl, hz⟩ := I1.list hq
  have bound : 2000 < scanBound := by decide
  refine call_set_texts (xs := xs) (I1.ok.hd hc) pl.isList (by simpa using Vals.strs r) (by omega) fun h' tk c hS hk => ?_
  refine PyProof.Rows.args_nil ?_
  obtain ⟨o, es, ep, t, ho, hex, hd, hgood, hnd, hmem, hb, hf, hn, _⟩ := hS
  have I2 : Inv X pins σ H1 { s1 with heap := h', toks := tk } := I1.kept fun b o e => hk b o e
  have m2 : ∀ k, k ∈ es.toList.map keyT ↔ k ∈ xs := fun k => (hmem k).symm.trans decide_eq_true_iff
  have le : c = (es.toList.map keyT).length := by rw [List.length_map, Array.length_toList, hn]
  have eq := eq_len_of hnd m2
  rw [← le] at eq
  have up : c ≤ xs.length := by
    rw [le]
    exact nd_le _ _ hnd fun k hk => (m2 k).1 hk
  refine call_len_set ho hex hd hf ?_ ⟨.int c, H1, I2.tok _, ⟨_, by rw [hn]⟩, q1 c (by omega) eq⟩
  rw [hn]
  have : ((2000 : Nat) : Int) < 2 ^ 63 := by decide
  omega
end L2

namespace L2
open PySem PySem.Spec PyProof.Rows PySem.ErrX
/-! ### the head's facts, put together -/
/-- an error's facts, as the head gives them -/
theorem mk_err {K : PySem.W.Frag} {h : Heap} {mg : Str → Option Value} (X : K.In h) (G : h.Ns mainGlobals mg) {nm f qual : Str} {C fI : Addr} {oc doc pm cdv ct : Value} {od an : Option Addr} {osl : Array (Option Value)} {p1 p2 q1 q2 q3 q4 : Pos}
    (fld : Fld f) (aC : PySem.W.nsIn K mainGlobals nm = some (some (.ref C))) (ini : PySem.W.excInitIn K C exTail "Exception.__new__" = true) (over : PySem.W.excOver K C exTail = true)
    (sa : PySem.W.findIn K (.ref C) "__setattr__" = some (some (.builtin "object.__setattr__"))) (ga : PySem.W.findIn K (.ref C) "__getattribute__" = some (some (.builtin "BaseException.__getattribute__"))) (gg : PySem.W.findIn K (.ref C) "__getattr__" = some none)
    (noN : PySem.W.findIn K (.ref C) f = some none) (noT : PySem.W.takerIn K C f = some none) (iC : PySem.W.findIn K (.ref C) "__init__" = some (some (.ref fI))) (tC : PySem.W.typeIn K (.ref fI) = some (.type "function")) (kC : PySem.W.keepIn K (.ref C) = true)
    (exC : PySem.W.subIn K (.ref C) (.type "BaseException") = some true) (hdC : PySem.W.hasDictIn K C = true) (clC : PySem.W.findIn K (.ref C) "__class__" = some (some (.builtin "object.__class__"))) (obC : PySem.W.mroIn K C (.type "object") = some true)
    (spC : PySem.W.specialIn K (.builtin "object.__class__") "__get__" = some (some (.builtin "getset_descriptor.__get__"))) (taC : PySem.W.takesIn K (.builtin "object.__class__") = some true)
    (lf : K.lookup fI = some ⟨oc, od, .func (PySem.W.fnOf "__init__" qual (iArgs f p1 p2) (iBody f q1 q2 q3 q4) (iScope f) .none .none doc pm an cdv ct), osl⟩) (cf : PySem.W.codeIn K cdv qual = true) : ErrTxt K mg nm f C fI :=
  ⟨fld, PySem.W.mg_of X G aC, ini, over, sa, ga, gg, noN, noT, iC, tC, kC, exC, hdC, clC, obC, spC, taC, _, _, _, _, _, _, _, _, _, _, _, _, _, _, _, lf, cf⟩
theorem mk_cls {K : PySem.W.Frag} {C : Addr} (pg : PySem.W.plainGet K C Str.empty = true) (hd : PySem.W.hasDictIn K C = true) (po : PySem.W.plainOver K C = true) (sa : PySem.W.findIn K (.ref C) "__setattr__" = some (some (.builtin "object.__setattr__"))) : Cls K C := ⟨pg, hd, po, sa⟩
theorem mk_mk {K : PySem.W.Frag} {C f : Addr} (m : PySem.W.makesIn K C = true) (i : PySem.W.findIn K (.ref C) "__init__" = some (some (.ref f))) (n : PySem.W.isFn K (.ref f) = true) (k : PySem.W.keepIn K (.ref C) = true) : Mk K C f := ⟨m, i, n, k⟩
/-- what isinstance asks of an own class -/
structure Iso (K : PySem.W.Frag) (C : Addr) : Prop where
  ha : PySem.W.findIn K (.ref C) "__class__" = some (some (.builtin "object.__class__"))
  hn : PySem.W.specialIn K (.builtin "object.__class__") "__get__" = some (some (.builtin "getset_descriptor.__get__"))
  ht : PySem.W.takesIn K (.builtin "object.__class__") = some true
  hm : PySem.W.mroIn K C (.type "object") = some true
theorem mk_iso {K : PySem.W.Frag} {C : Addr} (i1 : PySem.W.findIn K (.ref C) "__class__" = some (some (.builtin "object.__class__"))) (i2 : PySem.W.specialIn K (.builtin "object.__class__") "__get__" = some (some (.builtin "getset_descriptor.__get__"))) (i3 : PySem.W.takesIn K (.builtin "object.__class__") = some true) (i4 : PySem.W.mroIn K C (.type "object") = some true) : Iso K C := ⟨i1, i2, i3, i4⟩
theorem kit_own {K : PySem.W.Frag} {C : Addr} {t : Value} {b : Bool} (hd : PySem.W.hasDictIn K C = true) (ty : PySem.W.typeIn K (.ref C) = some (.type "type")) (ne : (t == .ref C) = false) (s : PySem.W.subIn K t (.ref C) = some b) : PySem.W.kitOne K t (.ref C) = some b := by
  obtain ⟨cd, hc, _⟩ := PySem.W.any_some hd
  unfold PySem.W.kitOne
  rw [if_neg (by rw [ne]; decide)]
  show (if ((PySem.W.clsIn K C).isSome && PySem.W.typeIn K (.ref C) == some (.type "type")) = true then PySem.W.subIn K t (.ref C) else none) = some b
  rw [if_pos (by rw [hc, ty]; rfl)]
  exact s
theorem kit_ownT {K : PySem.W.Frag} {C : Addr} {T : String} {b : Bool} (hd : PySem.W.hasDictIn K C = true) (ty : PySem.W.typeIn K (.ref C) = some (.type "type")) (s : PySem.W.subIn K (.type T) (.ref C) = some b) : PySem.W.kitOne K (.type T) (.ref C) = some b := kit_own hd ty (by
  cases z : (Value.type T == Value.ref C) with
  | false => rfl
  | true => exact nomatch eq_of_beq z) s
theorem kit_ownR {K : PySem.W.Frag} {C D : Addr} {b : Bool} (hd : PySem.W.hasDictIn K C = true) (ty : PySem.W.typeIn K (.ref C) = some (.type "type")) (ne : D ≠ C) (s : PySem.W.subIn K (.ref D) (.ref C) = some b) : PySem.W.kitOne K (.ref D) (.ref C) = some b := kit_own hd ty (by
  cases z : (Value.ref D == Value.ref C) with
  | false => rfl
  | true => exact absurd (by injection (eq_of_beq z)) ne) s
theorem kit_self {K : PySem.W.Frag} {C : Addr} : PySem.W.kitOne K (.ref C) (.ref C) = some true := if_pos (beq_self_eq_true _)
/-! ### == by an own __eq__, both answers -/
def rOwnI (K : PySem.W.Frag) (C : Addr) (sp : Sp) (E : XK) : R2 := fun x y H Q => ∃ a dx fs t, x = .ref a ∧ H a = some (.ins C dx fs) ∧ TyX K H y t ∧ (t = .ref C ∨ PySem.W.subIn K t (.ref C) = some false) ∧ sp [x, y] H Q E
theorem op_ownI {X : Cx} {CX : CXT} {n : Nat} {C g : Addr} {fd : FuncData} {ps : List Str} {sp : Sp} {E : XK} (hs : PySem.W.findIn X.K (.ref C) "__eq__" = some (some (.ref g))) (hf : PySem.W.isFn X.K (.ref g) = true) (F : FnOk X.prog X.w X.K X.mg X.base CX n g fd ps sp)
    (hb : Binds X.K fd ps []) (hr : Room n X.A) (hx : Passes CX X E) : OpR X (compareOp .Eq) (rOwnI X.K C sp E) := by
  intro pins s σ H x y v u Q I rx ry h
  obtain ⟨a, dx, fs, t, rfl, ha, ty, off, q⟩ := h
  cases (show v = Value.ref a from rx)
  obtain ⟨mA, J, _⟩ := ins_get I.hok ha
  obtain ⟨od, J, _⟩ := J.look
  obtain ⟨m, hF⟩ := I.fr
  obtain ⟨P, KX, hP, _⟩ := kit_of I ry ty
  have LT := KX.ty (model X.prog X.w) s.heap I.kIn hP
  have nf : PySem.W.notFirst X.K C t = true := by
    unfold PySem.W.notFirst
    rcases off with e | e
    · rw [e, beq_self_eq_true, Bool.true_or]
    · rw [e]
      simp
  show wpAny (model X.prog X.w) X.A (richCompare .Eq (.ref a) u) (EP X pins σ Q) X.xe s
  refine PySem.W.cmp_K (op := .Eq) (tb := t) hr.units0 hF I.ok.mod.kin J LT nf hs hf ?_
  have hl := F.len _ _ _ _ q
  have r2 : Vals [V.ref a, y] [Value.ref a, u] := .cons rfl (.cons ry .nil)
  refine wpAny_call (codeAny_mono (F.run X.A X.stack s H ⟨[.ref a, u], []⟩ [.ref a, u] [.ref a, y] Q E hr I.env0 (by
    have := hb s [.ref a, u] I.kIn (by simpa using hl)
    simpa using this) r2 q) fun r s' hq => ?_)
  cases r with
  | error e => exact hx pins σ H s e s' I hq
  | ok fl =>
    cases fl with
    | ret w =>
      obtain ⟨z, H', I', rz, qz⟩ := I.after hq
      exact SlX.cmpback rz ⟨z, H', I', rz, qz⟩
    | next => exact False.elim hq
    | brk => exact False.elim hq
    | cont => exact False.elim hq
end L2

namespace Wd
open PySem PySem.Spec PyProof.Rows PySem.ErrX L2
theorem same_upd {H : Hp} {p : Addr} {o : HO} (h : H p = none) : Same H (upd H p o) := fun b x e => by
  rw [upd_ne (ne_of_none e h)]
  exact e
def abc : Str := "abcdefghijklmnopqrstuvwxyz"
def low (z : Str) : Bool := z.cps.toList.all fun c => decide (c ∈ abc.cps.toList)
/-- the kinds of values that are asked -/
inductive Kind (K : PySem.W.Frag) (H : Hp) : V → Prop
  | non : Kind K H .non
  | bl (b : Bool) : Kind K H (.bl b)
  | int (i : Int) : Kind K H (.int i)
  | str (x : Str) (h : x.length ≤ 1000) : Kind K H (.str x)
  | tup (a : Addr) (xs : List V) (h : H a = some (.tup xs)) : Kind K H (.ref a)
  | lst (a : Addr) (xs : List V) (h : H a = some (.lst xs)) : Kind K H (.ref a)
  | dct (a : Addr) (kvs : List (L2.Key × V)) (h : H a = some (.dK kvs)) : Kind K H (.ref a)
theorem Kind.same {K : PySem.W.Frag} {H H' : Hp} {x : V} (s : Same H H') : Kind K H x → Kind K H' x
  | .non => .non
  | .bl b => .bl b
  | .int i => .int i
  | .str x h => .str x h
  | .tup a xs h => .tup a xs (s _ _ h)
  | .lst a xs h => .lst a xs (s _ _ h)
  | .dct a xs h => .dct a xs (s _ _ h)
def isStr : V → Bool
  | .str _ => true
  | _ => false
def isLine : V → Bool
  | .str z => low z
  | _ => false
theorem Kind.ofStr {K : PySem.W.Frag} {H : Hp} {x : V} (k : Kind K H x) {Q : VK} (h : Q (.bl (isStr x)) H) : rIsi K [x, .ty "str"] H Q := by
  cases k with
  | non => exact ⟨_, _, _, _, false, rfl, .ty _, .base .non, kit_ty (by decide +kernel), h⟩
  | bl b => exact ⟨_, _, _, _, false, rfl, .ty _, .base (.bl b), kit_ty (by decide +kernel), h⟩
  | int i => exact ⟨_, _, _, _, false, rfl, .ty _, .base (.int i), kit_ty (by decide +kernel), h⟩
  | str x _ => exact ⟨_, _, _, _, true, rfl, .ty _, .base (.str x), kit_ty (by decide +kernel), h⟩
  | tup a xs e => exact ⟨_, _, _, _, false, rfl, .ty _, .base (.tup e), kit_ty (by decide +kernel), h⟩
  | lst a xs e => exact ⟨_, _, _, _, false, rfl, .ty _, .base (.lst e), kit_ty (by decide +kernel), h⟩
  | dct a xs e => exact ⟨_, _, _, _, false, rfl, .ty _, .base (.dK e), kit_ty (by decide +kernel), h⟩
theorem Kind.ofTup {K : PySem.W.Frag} {H : Hp} {x : V} (k : Kind K H x) {Q : VK} (h : (∀ a xs, x = .ref a → H a = some (.tup xs) → Q (.bl true) H) ∧ ((∀ a xs, x = .ref a → H a ≠ some (.tup xs)) → Q (.bl false) H)) : rIsi K [x, .ty "tuple"] H Q := by
  cases k with
  | non => exact ⟨_, _, _, _, false, rfl, .ty _, .base .non, kit_ty (by decide +kernel), h.2 fun _ _ z => nomatch z⟩
  | bl b => exact ⟨_, _, _, _, false, rfl, .ty _, .base (.bl b), kit_ty (by decide +kernel), h.2 fun _ _ z => nomatch z⟩
  | int i => exact ⟨_, _, _, _, false, rfl, .ty _, .base (.int i), kit_ty (by decide +kernel), h.2 fun _ _ z => nomatch z⟩
  | str x _ => exact ⟨_, _, _, _, false, rfl, .ty _, .base (.str x), kit_ty (by decide +kernel), h.2 fun _ _ z => nomatch z⟩
  | tup a xs e => exact ⟨_, _, _, _, true, rfl, .ty _, .base (.tup e), kit_ty (by decide +kernel), h.1 a xs rfl e⟩
  | lst a xs e => exact ⟨_, _, _, _, false, rfl, .ty _, .base (.lst e), kit_ty (by decide +kernel), h.2 fun b zs z q => by cases z; rw [e] at q; cases q⟩
  | dct a xs e => exact ⟨_, _, _, _, false, rfl, .ty _, .base (.dK e), kit_ty (by decide +kernel), h.2 fun b zs z q => by cases z; rw [e] at q; cases q⟩
def rOfStr (K : PySem.W.Frag) : List V → Hp → VK → Prop := fun xs H Q => ∃ x, xs = [x, .ty "str"] ∧ Kind K H x ∧ Q (.bl (isStr x)) H
theorem call_ofStr {X : Cx} : CallR X (.builtin "isinstance") (rOfStr X.K) := fun pins s σ H xs us Q I r ⟨_, e, k, q⟩ => by
  subst e
  exact call_isi pins s σ H _ us Q I r (k.ofStr q)
def rOfTup (K : PySem.W.Frag) : List V → Hp → VK → Prop := fun xs H Q => ∃ x, xs = [x, .ty "tuple"] ∧ Kind K H x ∧ (∀ a xs, x = .ref a → H a = some (.tup xs) → Q (.bl true) H) ∧ ((∀ a xs, x = .ref a → H a ≠ some (.tup xs)) → Q (.bl false) H)
theorem call_ofTup {X : Cx} : CallR X (.builtin "isinstance") (rOfTup X.K) := fun pins s σ H xs us Q I r ⟨_, e, k, q⟩ => by
  subst e
  exact call_isi pins s σ H _ us Q I r (k.ofTup q)
theorem Kind.ofLst {K : PySem.W.Frag} {H : Hp} {x : V} (k : Kind K H x) {Q : VK} (h : (∀ a xs, x = .ref a → H a = some (.lst xs) → Q (.bl true) H) ∧ ((∀ a xs, x = .ref a → H a ≠ some (.lst xs)) → Q (.bl false) H)) : rIsi K [x, .ty "list"] H Q := by
  cases k with
  | non => exact ⟨_, _, _, _, false, rfl, .ty _, .base .non, kit_ty (by decide +kernel), h.2 fun _ _ z => nomatch z⟩
  | bl b => exact ⟨_, _, _, _, false, rfl, .ty _, .base (.bl b), kit_ty (by decide +kernel), h.2 fun _ _ z => nomatch z⟩
  | int i => exact ⟨_, _, _, _, false, rfl, .ty _, .base (.int i), kit_ty (by decide +kernel), h.2 fun _ _ z => nomatch z⟩
  | str x _ => exact ⟨_, _, _, _, false, rfl, .ty _, .base (.str x), kit_ty (by decide +kernel), h.2 fun _ _ z => nomatch z⟩
  | tup a xs e => exact ⟨_, _, _, _, false, rfl, .ty _, .base (.tup e), kit_ty (by decide +kernel), h.2 fun b zs z q => by cases z; rw [e] at q; cases q⟩
  | lst a xs e => exact ⟨_, _, _, _, true, rfl, .ty _, .base (.lst e), kit_ty (by decide +kernel), h.1 a xs rfl e⟩
  | dct a xs e => exact ⟨_, _, _, _, false, rfl, .ty _, .base (.dK e), kit_ty (by decide +kernel), h.2 fun b zs z q => by cases z; rw [e] at q; cases q⟩
def rOfLst (K : PySem.W.Frag) : List V → Hp → VK → Prop := fun xs H Q => ∃ x, xs = [x, .ty "list"] ∧ Kind K H x ∧ (∀ a xs, x = .ref a → H a = some (.lst xs) → Q (.bl true) H) ∧ ((∀ a xs, x = .ref a → H a ≠ some (.lst xs)) → Q (.bl false) H)
theorem call_ofLst {X : Cx} : CallR X (.builtin "isinstance") (rOfLst X.K) := fun pins s σ H xs us Q I r ⟨_, e, k, q⟩ => by
  subst e
  exact call_isi pins s σ H _ us Q I r (k.ofLst q)
theorem pe_str1 {X : Cx} {x z : Str} {t : Tok} {pos : Pos} (hm : X.mg x = some (.str z t)) (hg : Gl X x := by rfl) (hdb : (x == ("__debug__" : Str)) = false := by decide) : PE X (.Name x pos) (tC (.str z)) := pe_glob (v := .str z) hg hm ⟨t, rfl⟩ hdb
theorem pe_int1 {X : Cx} {x : Str} {i : Int} {t : Tok} {pos : Pos} (hm : X.mg x = some (.int i t)) (hg : Gl X x := by rfl) (hdb : (x == ("__debug__" : Str)) = false := by decide) : PE X (.Name x pos) (tC (.int i)) := pe_glob (v := .int i) hg hm ⟨t, rfl⟩ hdb
theorem pe_ty {X : Cx} {x : Str} {n : String} {pos : Pos} (hm : X.mg x = none) (hv : bootBuiltins x = some (.type n)) (hg : Gl X x := by rfl) (hn : x ≠ "__name__" := by decide) (hdb : (x == ("__debug__" : Str)) = false := by decide) : PE X (.Name x pos) (tC (.ty n)) := pe_bltn (v := .ty n) hg hm hv rfl hn hdb
theorem boot_str : bootBuiltins "str" = some (.type "str") := by decide +kernel
theorem boot_all : bootBuiltins "all" = some (.builtin "all") := by decide +kernel
theorem boot_tuple : bootBuiltins "tuple" = some (.type "tuple") := by decide +kernel
theorem pe_strC {X : Cx} {x z : Str} {pos : Pos} (hm : ∃ t, X.mg x = some (.str z t)) (hg : Gl X x := by rfl) (hdb : (x == ("__debug__" : Str)) = false := by decide) : PE X (.Name x pos) (tC (.str z)) := let ⟨_, h⟩ := hm; pe_str1 h hg hdb
theorem pe_intC {X : Cx} {x : Str} {i : Int} {pos : Pos} (hm : ∃ t, X.mg x = some (.int i t)) (hg : Gl X x := by rfl) (hdb : (x == ("__debug__" : Str)) = false := by decide) : PE X (.Name x pos) (tC (.int i)) := let ⟨_, h⟩ := hm; pe_int1 h hg hdb
theorem boot_any : bootBuiltins "any" = some (.builtin "any") := by decide +kernel
theorem boot_sum : bootBuiltins "sum" = some (.builtin "sum") := by decide +kernel
theorem boot_abs : bootBuiltins "abs" = some (.builtin "abs") := by decide +kernel
theorem boot_int : bootBuiltins "int" = some (.type "int") := by decide +kernel
theorem boot_repr : bootBuiltins "repr" = some (.builtin "repr") := by decide +kernel
theorem boot_max : bootBuiltins "max" = some (.builtin "max") := by decide +kernel
theorem boot_min : bootBuiltins "min" = some (.builtin "min") := by decide +kernel
theorem boot_dict : bootBuiltins "dict" = some (.type "dict") := by decide +kernel
section
variable {K : PySem.W.Frag}
/-- all([sign in LETTERS for sign in z]) -/
theorem all_low {z : Str} (hz : z.length ≤ 1000) {H : Hp} {Q : VK} (h : ∀ H', Same H H' → Q (.bl (low z)) H') :
    tCB (rAll K) (tCons (tLc (iStr (tVar 0)) (gName 1) tYes (tOp (fun x y H Q => ∃ (c : Nat) (z : Str), x = .str ⟨#[c]⟩ ∧ y = .str z ∧ Q (.bl (decide (c ∈ z.cps.toList))) H) (tVar 1) (tC (.str abc))) [1]) tNil) [some (.str z), none] H Q := by
  refine ⟨.str z, rfl, z, rfl, fun D nD => ?_⟩
  refine lc_it walk_str (fun i H5 => Same H H5 ∧ H5 D = some (.lst ((z.cps.toList.take i).map fun c => .bl (decide (c ∈ abc.cps.toList))))) ⟨same_upd nD, upd_same⟩ (fun _ _ _ _ => trivial) ?_ ?_
  · rintro i y H5 H6 hi ⟨s5, hD⟩ ⟨rfl, c, hc, rfl⟩
    refine ⟨rfl, .str ⟨#[c]⟩, rfl, c, abc, rfl, rfl, _, hD, ?_, fun b o e => ?_, ?_⟩
    · have z1 : 1000 < sizeLine := by decide
      have z2 : z.length = z.cps.size := rfl
      rw [List.length_map, List.length_take, Array.length_toList]
      omega
    · rw [upd_ne (ne_of_none e nD)]
      exact s5 _ _ e
    · have e : z.cps.toList[i]? = some c := by rw [Array.getElem?_toList]; exact hc
      rw [upd_same, List.take_add_one, e, List.map_append]
      rfl
  · rintro H5 ⟨s5, hD⟩
    rw [List.take_of_length_le (by rw [Array.length_toList]; exact Nat.le_refl _)] at hD
    refine ⟨D, z.cps.toList.map (fun c => decide (c ∈ abc.cps.toList)), rfl, .inl (.inl (by rw [hD, List.map_map]; rfl)), ?_⟩
    have e : (z.cps.toList.map (fun c => decide (c ∈ abc.cps.toList))).all id = low z := by
      unfold low
      rw [List.all_map]
      rfl
    rw [e]
    exact h _ s5
def spLine (K : PySem.W.Frag) : Sp := fun vs H Q _ => ∃ x, vs = [x] ∧ Kind K H x ∧ ∀ H', Same H H' → Q (.bl (isLine x)) H'
end
/-! ### names and words -/
def upTo (n : Nat) : V → Bool
  | .str z => low z && (decide (1 ≤ z.length) && decide (z.length ≤ n))
  | _ => false
def spUpTo (K : PySem.W.Frag) (n : Nat) : Sp := fun vs H Q _ => ∃ x, vs = [x] ∧ Kind K H x ∧ ∀ H', Same H H' → Q (.bl (upTo n x)) H'
abbrev tLen : TE := tCB (fun xs H Q => ∃ z : Str, xs = [.str z] ∧ z.length ≤ sizeLine ∧ Q (.int z.length) H) (tCons (tVar 0) tNil)
theorem small {n : Nat} (h : n ≤ 1000) : n ≤ sizeLine := Nat.le_trans h (by decide)
/-- 1 <= len(x) <= n, x a text -/
theorem lens {z : Str} {n : Nat} (hz : z.length ≤ 1000) {σ : L2.St} {H : Hp} {Q : VK} (h : Q (.bl (decide (1 ≤ z.length) && decide (z.length ≤ n))) H) :
    tChain (rI0 fun i j => .bl (decide (i ≤ j))) (rI0 fun i j => .bl (decide (i ≤ j))) (tC (.int 1)) tLen (tC (.int n)) (some (.str z) :: σ) H Q := by
  refine ⟨.str z, rfl, z, rfl, small hz, 1, (z.length : Int), rfl, rfl, _, rfl, ?_⟩
  refine ite2 (fun e => ⟨(z.length : Int), (n : Int), rfl, rfl, ?_⟩) (fun e => ?_)
  · have e1 : 1 ≤ z.length := by have := of_decide_eq_true e; omega
    have e2 : decide ((z.length : Int) ≤ (n : Int)) = decide (z.length ≤ n) := by
      apply decide_eq_decide.mpr
      omega
    show Q (.bl (decide ((z.length : Int) ≤ (n : Int)))) H
    rw [e2]
    rw [decide_eq_true e1, Bool.true_and] at h
    exact h
  · have e1 : ¬ 1 ≤ z.length := fun y => e (decide_eq_true (by omega))
    rw [decide_eq_false e1, Bool.false_and] at h
    exact h
/-- what stands behind «is_line(x) and», in three defs -/
theorem afterLine {K : PySem.W.Frag} {n : Nat} {x : V} {H1 : Hp} {Q : VK} (k : Kind K H1 x) (q : Q (.bl (upTo n x)) H1) :
    if isLine x = true then tChain (rI0 fun i j => .bl (decide (i ≤ j))) (rI0 fun i j => .bl (decide (i ≤ j))) (tC (.int 1)) tLen (tC (.int n)) [some x] H1 Q else Q (.bl false) H1 := by
  cases x with
  | str z =>
    have hz : z.length ≤ 1000 := by
      cases k with
      | str _ h => exact h
    refine ite2 (fun e => ?_) (fun e => ?_)
    · have e1 : low z = true := e
      refine lens hz ?_
      have e2 : upTo n (.str z) = (decide (1 ≤ z.length) && decide (z.length ≤ n)) := by
        show (low z && _) = _
        rw [e1, Bool.true_and]
      rw [← e2]
      exact q
    · have e1 : low z = false := Bool.eq_false_iff.mpr e
      have e2 : upTo n (.str z) = false := by
        show (low z && _) = _
        rw [e1, Bool.false_and]
      rw [e2] at q
      exact q
  | non => exact iteF q
  | bl b => exact iteF q
  | int i => exact iteF q
  | byt b => exact iteF q
  | flt b => exact iteF q
  | ref a => exact iteF q
  | ty n => exact iteF q
/-! ### pages -/
/-- all its lines are lines -/
def lines (xs : List V) : Bool := xs.all isLine
def spPage (K : PySem.W.Frag) : Sp := fun vs H Q _ => ∃ x, vs = [x] ∧ Kind K H x ∧ (∀ a xs, x = .ref a → H a = some (.tup xs) → xs.length ≤ 1000 ∧ (∀ y ∈ xs, Kind K H y) ∧ ∀ H', Same H H' → Q (.bl (lines xs)) H') ∧
  ((∀ a xs, x = .ref a → H a ≠ some (.tup xs)) → ∀ H', Same H H' → Q (.bl false) H')
/-! ### rising signs -/
def sing (c : Nat) : Str := ⟨#[c]⟩
theorem sing_inj {c d : Nat} (h : sing c = sing d) : c = d := by
  have e : [c] = [d] := congrArg (fun y : Str => y.cps.toList) h
  exact (List.cons.inj e).1
theorem asc_uniq : ∀ xs ys : List Nat, xs.Pairwise (· < ·) → ys.Pairwise (· < ·) → (∀ k, k ∈ xs ↔ k ∈ ys) → xs = ys
  | [], [], _, _, _ => rfl
  | [], y :: ys, _, _, m => absurd ((m y).2 List.mem_cons_self) (by simp)
  | x :: xs, [], _, _, m => absurd ((m x).1 List.mem_cons_self) (by simp)
  | x :: xs, y :: ys, hx, hy, m => by
    obtain ⟨hx1, hx2⟩ := List.pairwise_cons.mp hx
    obtain ⟨hy1, hy2⟩ := List.pairwise_cons.mp hy
    have e : x = y := by
      rcases List.mem_cons.mp ((m x).1 List.mem_cons_self) with a | a
      · exact a
      · rcases List.mem_cons.mp ((m y).2 List.mem_cons_self) with b | b
        · exact b.symm
        · have := hx1 y b
          have := hy1 x a
          omega
    subst e
    rw [asc_uniq xs ys hx2 hy2 fun k => ?_]
    have mk := m k
    rw [List.mem_cons, List.mem_cons] at mk
    constructor
    · intro a
      rcases mk.1 (.inr a) with b | b
      · have := hx1 k a
        omega
      · exact b
    · intro a
      rcases mk.2 (.inr a) with b | b
      · have := hy1 k a
        omega
      · exact b
theorem rise_le : ∀ (l : List Nat) (p : Nat), risingS (sing p) (l.map sing) = true → (p :: l).Pairwise (· ≤ ·)
  | [], p, _ => List.pairwise_singleton _ _
  | x :: l, p, h => by
    have h' : (!ltCps [x] [p] && risingS (sing x) (l.map sing)) = true := h
    rw [Bool.and_eq_true] at h'
    have ih := rise_le l x h'.2
    have px : p ≤ x := by
      have z : ltCps [x] [p] = false := by
        cases q : ltCps [x] [p] with
        | false => rfl
        | true =>
          rw [q] at h'
          exact absurd h'.1 (by decide)
      by_cases y : x < p
      · have z2 : ltCps [x] [p] = true := by simp [ltCps, y]
        rw [z2] at z
        cases z
      · omega
    refine List.pairwise_cons.mpr ⟨fun k hk => ?_, ih⟩
    rcases List.mem_cons.mp hk with e | e
    · omega
    · have := (List.pairwise_cons.mp ih).1 k e
      omega
theorem sorted_le (l : List Nat) (h : sortedS (l.map sing) = true) : l.Pairwise (· ≤ ·) := by
  cases l with
  | nil => exact List.Pairwise.nil
  | cons x l => exact rise_le l x h
theorem lt_of : ∀ l : List Nat, l.Pairwise (· ≤ ·) → l.Nodup → l.Pairwise (· < ·)
  | [], _, _ => List.Pairwise.nil
  | x :: l, h, d => by
    obtain ⟨h1, h2⟩ := List.pairwise_cons.mp h
    obtain ⟨d1, d2⟩ := List.nodup_cons.mp d
    refine List.pairwise_cons.mpr ⟨fun y hy => ?_, lt_of l h2 d2⟩
    have a := h1 y hy
    have b : x ≠ y := fun z => d1 (z ▸ hy)
    omega
def rising (z : Str) : Bool := decide (z.cps.toList.Pairwise (· < ·))
/-- a rising list of a text's signs is that text's own list just where it rises -/
theorem signs_eq {z : Str} {ys : List Str} (so : sortedS ys = true) (nd : ys.Nodup) (mem : ∀ k, k ∈ ys ↔ k ∈ signsOf z) : decide (signsOf z = ys) = rising z := by
  have all : ∀ k ∈ ys, ∃ c, k = sing c := fun k hk => by
    obtain ⟨c, _, e⟩ := List.mem_map.mp ((mem k).1 hk)
    exact ⟨c, e.symm⟩
  obtain ⟨cs, rfl⟩ : ∃ cs : List Nat, ys = cs.map sing := by
    clear so nd mem
    induction ys with
    | nil => exact ⟨[], rfl⟩
    | cons y ys ih =>
      obtain ⟨c, rfl⟩ := all y List.mem_cons_self
      obtain ⟨cs, rfl⟩ := ih fun k hk => all k (List.mem_cons_of_mem _ hk)
      exact ⟨c :: cs, rfl⟩
  have nd2 : cs.Nodup := (List.pairwise_map.mp nd).imp fun h e => h (congrArg sing e)
  have asc := lt_of cs (sorted_le cs so) nd2
  have m2 : ∀ c, c ∈ cs ↔ c ∈ z.cps.toList := fun c => by
    have h := mem (sing c)
    unfold signsOf at h
    rw [List.mem_map, List.mem_map] at h
    constructor
    · intro hc
      obtain ⟨d, hd, e⟩ := h.1 ⟨c, hc, rfl⟩
      rw [← sing_inj (show sing d = sing c from e)]
      exact hd
    · intro hc
      obtain ⟨d, hd, e⟩ := h.2 ⟨c, hc, rfl⟩
      rw [← sing_inj e]
      exact hd
  unfold rising
  apply decide_eq_decide.mpr
  constructor
  · intro e
    have e2 : z.cps.toList = cs := by
      have inj : ∀ a b : List Nat, a.map sing = b.map sing → a = b := fun a b q => List.map_inj_right (fun x y e => sing_inj e) |>.mp q
      exact inj _ _ e
    rw [e2]
    exact asc
  · intro e
    have e2 := asc_uniq _ _ e asc fun k => (m2 k).symm
    show z.cps.toList.map sing = cs.map sing
    rw [e2]
/-! ### lists of texts compared -/
theorem eqv_strs : ∀ as bs : List Str, PyData.eqv (.list (as.map .str)) (.list (bs.map .str)) = decide (as = bs) := by
  have go : ∀ as bs : List Str, PyData.eqvAll (as.map PyData.str) (bs.map PyData.str) = decide (as = bs) := by
    intro as
    induction as with
    | nil => intro bs; cases bs <;> simp [PyData.eqvAll]
    | cons a as ih =>
      intro bs
      cases bs with
      | nil => simp [PyData.eqvAll]
      | cons b bs =>
        rw [List.map_cons, List.map_cons]
        have e : (a == b) = decide (a = b) := by by_cases q : a = b <;> simp [q]
        simp [PyData.eqvAll, PyData.eqv, ih bs, e]
  intro as bs
  simp [PyData.eqv, go as bs]
theorem strs_dp {K : PySem.W.Frag} {H : Hp} : ∀ xs : List Str, DpAll K H (xs.map V.str) (xs.map PyData.str)
  | [] => .nil
  | x :: xs => .cons (.str x) (strs_dp xs)
theorem lay_strs : ∀ xs : List Str, (∀ x ∈ xs, PyData.strOk x = true) → PyData.canLayAll0 (xs.map PyData.str) = true
  | [], _ => rfl
  | x :: xs, h => by
    rw [List.map_cons]
    simp [PyData.canLayAll0, PyData.canLay0, h x List.mem_cons_self, lay_strs xs fun y hy => h y (List.mem_cons_of_mem _ hy)]
theorem depth_strs : ∀ xs : List Str, PyData.depthAll (xs.map PyData.str) = 0
  | [] => rfl
  | x :: xs => by
    rw [List.map_cons]
    simp [PyData.depthAll, PyData.depth, depth_strs xs]
theorem shaped_strs {xs : List Str} (h : ∀ x ∈ xs, PyData.strOk x = true) : SeqAt.shaped (.list (xs.map .str)) = true := by
  unfold SeqAt.shaped
  have e : (PyData.list (xs.map .str)).canLay0 = true := lay_strs xs h
  rw [e]
  simp [PyData.depth, depth_strs xs]
theorem sing_ok : ∀ c ∈ abc.cps.toList, PyData.strOk (sing c) = true := by decide +kernel
theorem signs_ok {z : Str} (h : low z = true) : ∀ x ∈ signsOf z, PyData.strOk x = true := fun x hx => by
  obtain ⟨c, hc, rfl⟩ := List.mem_map.mp hx
  exact sing_ok c (of_decide_eq_true (List.all_eq_true.mp h c hc))
section
variable {X : Cx}
/-- list(a text) -/
def rListTx : List V → Hp → VK → Prop := fun xs H Q => ∃ z : Str, xs = [.str z] ∧ z.length ≤ sizeLine ∧ ∀ p, H p = none → Q (.ref p) (upd H p (.lst ((signsOf z).map V.str)))
theorem cr_listTx (hc : X.calm = true) : CallR X (.type "list") rListTx := by
  intro pins s σ H xs us Q I r h
  obtain ⟨z, rfl, fits, q⟩ := h
  obtain ⟨u, rfl, ru⟩ := vals1 r
  obtain ⟨t, rfl⟩ := (show ∃ t, u = Value.str z t from ru)
  refine PySem.call_list_str (I.ok.hd hc) z t (fun h' tk acc c kept at_ items => ?_) fits
  have many : acc.toList.length = (signsOf z).length := by
    rw [Array.length_toList, items.1]
    simp [signsOf]
  have st : StrsAre acc.toList (signsOf z) := strs_at many fun j v hv => by
    obtain ⟨c, u, hc, rfl⟩ := items.2 j v (by rw [← Array.getElem?_toList]; exact hv)
    refine ⟨⟨#[c]⟩, u, ?_, rfl⟩
    show (z.cps.toList.map _)[j]? = _
    rw [List.getElem?_map, Array.getElem?_toList, hc]
    rfl
  have fits2 : ((signsOf z).map V.str).length ≤ sizeLine := by
    rw [List.length_map, ← many, Array.length_toList, items.1]
    exact fits
  exact ⟨.ref s.heap.objs.size, _, I.laid (t' := tk) kept (Nat.le_refl _) (show ObjOk X.prog X.w _ h' _ (.lst ((signsOf z).map V.str)) from ⟨fits2, acc.toList, c, vals_of_strs st, at_⟩), rfl, q _ (I.hok.fresh (Nat.le_refl _))⟩
end
theorem boot_list : bootBuiltins "list" = some (.type "list") := by decide +kernel
theorem boot_set : bootBuiltins "set" = some (.type "set") := by decide +kernel
theorem boot_sorted : bootBuiltins "sorted" = some (.builtin "sorted") := by decide +kernel
def asSigns : V → Bool
  | .str z => low z && (decide (1 ≤ z.length) && decide (z.length ≤ 6)) && rising z
  | _ => false
def spSigns (K : PySem.W.Frag) : Sp := fun vs H Q _ => ∃ x, vs = [x] ∧ Kind K H x ∧ ∀ H', Same H H' → Q (.bl (asSigns x)) H'
theorem nz1 : (2147483629 : Int) ≠ 0 := by decide
theorem nz2 : (2147483647 : Int) ≠ 0 := by decide
theorem bit_small (b : Bool) : -(2 ^ 64) < (if b = true then (1 : Int) else 0) ∧ (if b = true then (1 : Int) else 0) < 2 ^ 64 := by cases b <;> decide
theorem mod_small (x : Int) : -(2 ^ 64) < x.fmod 2147483647 ∧ x.fmod 2147483647 < 2 ^ 64 := by
  have h1 := Int.fmod_nonneg_of_pos x (show (0 : Int) < 2147483647 by decide)
  have h2 := Int.fmod_lt_of_pos x (show (0 : Int) < 2147483647 by decide)
  omega
/-- a pool: two ints in a new list -/
def spPool (K : PySem.W.Frag) : Sp := fun vs H Q _ => ∃ (a : Addr) (ns : List Int) (k : Int), vs = [.ref a, .int k] ∧ SqL K H a (ns.map V.int) ∧ ns.length ≤ 1000 ∧ 0 ≤ k ∧ k ≤ 1000 ∧ ∀ H' p g m, Same H H' → H p = none → H' p = some (.lst [.int g, .int m]) → Q (.ref p) H'
/-- a draw below many: the pool goes on -/
def spDraw : Sp := fun vs H Q _ => ∃ (p : Addr) (many g m : Int), vs = [.ref p, .int many] ∧ H p = some (.lst [.int g, .int m]) ∧ 0 < many ∧ many < 1073741824 ∧ ∀ r g' m', 0 ≤ r → r < many → Q (.int r) (upd H p (.lst [.int g', .int m']))
/-! ### texts drawn -/
/-- all as it was but at p -/
def But (p : Addr) (H H' : Hp) : Prop := ∀ b o, b ≠ p → H b = some o → H' b = some o
theorem But.refl (p : Addr) (H : Hp) : But p H H := fun _ _ _ e => e
theorem But.trans {p : Addr} {H1 H2 H3 : Hp} (a : But p H1 H2) (b : But p H2 H3) : But p H1 H3 := fun c o n e => b c o n (a c o n e)
theorem But.upd {p : Addr} {H : Hp} {o : HO} : But p H (upd H p o) := fun b x n e => by
  rw [upd_ne n]
  exact e
theorem But.of {p : Addr} {H H' : Hp} (s : Same H H') : But p H H' := fun b o _ e => s b o e
/-- a pool at p -/
def Pool (H : Hp) (p : Addr) : Prop := ∃ g m : Int, H p = some (.lst [.int g, .int m])
theorem joinL_sing : ∀ cs : List Nat, TL.joinL [] (cs.map fun c => [c]) = cs
  | [] => rfl
  | [_] => rfl
  | c :: d :: cs => by
    have ih := joinL_sing (d :: cs)
    show [c] ++ ([] ++ TL.joinL [] ((d :: cs).map fun c => [c])) = c :: d :: cs
    rw [ih]
    rfl
theorem join_sing (cs : List Nat) : (Txt.join "" (cs.map sing)).cps.toList = cs := by
  rw [TL.join_eq]
  show TL.tl (Str.join "" (cs.map sing)) = cs
  rw [TL.tl_join, List.map_map]
  exact joinL_sing cs
theorem Pool.same {H H' : Hp} {p : Addr} (h : Pool H p) (s : Same H H') : Pool H' p := let ⟨g, m, e⟩ := h; ⟨g, m, s _ _ e⟩
theorem total_le : ∀ (ws : List Str) (n : Nat), (∀ w ∈ ws, w.length ≤ n) → (ws.map (·.length)).sum ≤ ws.length * n
  | [], n, _ => by simp
  | w :: ws, n, h => by
    have ih := total_le ws n fun y hy => h y (List.mem_cons_of_mem _ hy)
    have h1 := h w List.mem_cons_self
    rw [List.map_cons, List.sum_cons, List.length_cons, Nat.succ_mul]
    omega
end Wd

namespace Wd
open PySem PySem.Spec PyProof.Rows PySem.ErrX L2
/-! ### pieces, signs, families: in plain words -/
theorem sqT_same {K : PySem.W.Frag} {H H' : Hp} {a : Addr} {xs : List V} (s : Same H H') (h : SqT K H a xs) : SqT K H' a xs := by
  rcases h with (h | ⟨o, h⟩) | h
  · exact .inl (.inl (s _ _ h))
  · exact .inl (.inr ⟨o, s _ _ h⟩)
  · exact .inr h
theorem sqL_same {K : PySem.W.Frag} {H H' : Hp} {a : Addr} {xs : List V} (s : Same H H') (h : SqL K H a xs) : SqL K H' a xs := by
  rcases h with (h | ⟨o, h⟩) | h
  · exact .inl (.inl (s _ _ h))
  · exact .inl (.inr ⟨o, s _ _ h⟩)
  · exact .inr h
theorem inV_strs (z : Str) (ws : List Str) : inV (.str z) (ws.map V.str) = decide (z ∈ ws) := by
  unfold inV
  rw [List.any_map]
  by_cases h : z ∈ ws
  · rw [decide_eq_true h]
    exact List.any_eq_true.mpr ⟨z, h, beq_self_eq_true _⟩
  · rw [decide_eq_false h]
    apply Bool.eq_false_iff.mpr
    intro e
    obtain ⟨y, hy, q⟩ := List.any_eq_true.mp e
    have : y = z := eq_of_beq q
    exact h (this ▸ hy)
/-- a piece stands in a line -/
def hasSub (x y : Str) : Bool := !(Builtin.Str.occurrences x y 0 x.length 1).isEmpty
theorem hasSub_iff (x y : Str) : hasSub x y = true ↔ ∃ i, i + y.length ≤ x.length ∧ (x.cps.toList.drop i).take y.length = y.cps.toList := by
  unfold hasSub
  rw [StrLaws.found_iff]
  constructor
  · rintro ⟨i, h1, h2⟩
    rw [StrLaws.subAt_eq] at h2
    exact ⟨i, h1, by simpa using h2⟩
  · rintro ⟨i, h1, h2⟩
    refine ⟨i, h1, ?_⟩
    rw [StrLaws.subAt_eq]
    simpa using h2
/-- one of some pieces -/
def isPiece (ws : List Str) : V → Bool
  | .str z => decide (z ∈ ws)
  | _ => false
def spPiece (K : PySem.W.Frag) : Sp := fun vs H Q _ => ∃ x p ws, vs = [x, .ref p] ∧ Kind K H x ∧ (SqL K H p (ws.map V.str) ∨ SqT K H p (ws.map V.str)) ∧ ∀ H', Same H H' → Q (.bl (isPiece ws x)) H'
/-- a value that is a list with such items, or none -/
def ListB (K : PySem.W.Frag) (H : Hp) (f : List V → Bool) (x : V) (b : Bool) : Prop := Kind K H x ∧ (∀ t xs, x = .ref t → H t = some (.lst xs) → xs.length ≤ 1000 ∧ (∀ y ∈ xs, Kind K H y) ∧ b = f xs) ∧ ((∀ t xs, x = .ref t → H t ≠ some (.lst xs)) → b = false)
def TupB (K : PySem.W.Frag) (H : Hp) (f : List V → Bool) (x : V) (b : Bool) : Prop := Kind K H x ∧ (∀ t xs, x = .ref t → H t = some (.tup xs) → xs.length ≤ 1000 ∧ (∀ y ∈ xs, Kind K H y) ∧ b = f xs) ∧ ((∀ t xs, x = .ref t → H t ≠ some (.tup xs)) → b = false)
theorem ListB.same {K : PySem.W.Frag} {H H' : Hp} {f : List V → Bool} {x : V} {b : Bool} (s : Same H H') (p : ListB K H f x b) : ListB K H' f x b := by
  refine ⟨p.1.same s, fun t xs e1 e2 => ?_, fun off => p.2.2 fun t xs e1 e2 => off t xs e1 (s _ _ e2)⟩
  have back : H t = some (.lst xs) := by
    subst e1
    have k := p.1
    cases k with
    | tup _ ys e => rw [s _ _ e] at e2; cases e2
    | lst _ ys e => rw [s _ _ e] at e2; cases e2; exact e
    | dct _ ys e => rw [s _ _ e] at e2; cases e2
  exact ⟨(p.2.1 t xs e1 back).1, fun y hy => ((p.2.1 t xs e1 back).2.1 y hy).same s, (p.2.1 t xs e1 back).2.2⟩
theorem TupB.same {K : PySem.W.Frag} {H H' : Hp} {f : List V → Bool} {x : V} {b : Bool} (s : Same H H') (p : TupB K H f x b) : TupB K H' f x b := by
  refine ⟨p.1.same s, fun t xs e1 e2 => ?_, fun off => p.2.2 fun t xs e1 e2 => off t xs e1 (s _ _ e2)⟩
  have back : H t = some (.tup xs) := by
    subst e1
    have k := p.1
    cases k with
    | lst _ ys e => rw [s _ _ e] at e2; cases e2
    | tup _ ys e => rw [s _ _ e] at e2; cases e2; exact e
    | dct _ ys e => rw [s _ _ e] at e2; cases e2
  exact ⟨(p.2.1 t xs e1 back).1, fun y hy => ((p.2.1 t xs e1 back).2.1 y hy).same s, (p.2.1 t xs e1 back).2.2⟩
theorem ListB.of {K : PySem.W.Frag} {H : Hp} {f : List V → Bool} {t : Addr} {xs : List V} (h : H t = some (.lst xs)) (few : xs.length ≤ 1000) (ks : ∀ y ∈ xs, Kind K H y) : ListB K H f (.ref t) (f xs) :=
  ⟨.lst t xs h, fun c ys e1 e2 => by cases e1; rw [h] at e2; cases e2; exact ⟨few, ks, rfl⟩, fun off => absurd h (off t xs rfl)⟩
theorem ListB.off {K : PySem.W.Frag} {H : Hp} {f : List V → Bool} {x : V} (k : Kind K H x) (h : ∀ t xs, x = .ref t → H t ≠ some (.lst xs)) : ListB K H f x false := ⟨k, fun t xs e1 e2 => absurd e2 (h t xs e1), fun _ => rfl⟩
theorem TupB.of {K : PySem.W.Frag} {H : Hp} {f : List V → Bool} {t : Addr} {xs : List V} (h : H t = some (.tup xs)) (few : xs.length ≤ 1000) (ks : ∀ y ∈ xs, Kind K H y) : TupB K H f (.ref t) (f xs) :=
  ⟨.tup t xs h, fun c ys e1 e2 => by cases e1; rw [h] at e2; cases e2; exact ⟨few, ks, rfl⟩, fun off => absurd h (off t xs rfl)⟩
theorem TupB.off {K : PySem.W.Frag} {H : Hp} {f : List V → Bool} {x : V} (k : Kind K H x) (h : ∀ t xs, x = .ref t → H t ≠ some (.tup xs)) : TupB K H f x false := ⟨k, fun t xs e1 e2 => absurd e2 (h t xs e1), fun _ => rfl⟩
/-- a list in hand, or none -/
theorem Kind.lstOr {K : PySem.W.Frag} {H : Hp} {x : V} (k : Kind K H x) : (∃ t xs, x = .ref t ∧ H t = some (.lst xs)) ∨ (∀ t xs, x = .ref t → H t ≠ some (.lst xs)) := by
  cases k with
  | non => exact .inr fun _ _ z => nomatch z
  | bl b => exact .inr fun _ _ z => nomatch z
  | int i => exact .inr fun _ _ z => nomatch z
  | str x _ => exact .inr fun _ _ z => nomatch z
  | tup a xs e => exact .inr fun b zs z q => by cases z; rw [e] at q; cases q
  | lst a xs e => exact .inl ⟨a, xs, rfl, e⟩
  | dct a xs e => exact .inr fun b zs z q => by cases z; rw [e] at q; cases q
theorem Kind.tupOr {K : PySem.W.Frag} {H : Hp} {x : V} (k : Kind K H x) : (∃ t xs, x = .ref t ∧ H t = some (.tup xs)) ∨ (∀ t xs, x = .ref t → H t ≠ some (.tup xs)) := by
  cases k with
  | non => exact .inr fun _ _ z => nomatch z
  | bl b => exact .inr fun _ _ z => nomatch z
  | int i => exact .inr fun _ _ z => nomatch z
  | str x _ => exact .inr fun _ _ z => nomatch z
  | lst a xs e => exact .inr fun b zs z q => by cases z; rw [e] at q; cases q
  | tup a xs e => exact .inl ⟨a, xs, rfl, e⟩
  | dct a xs e => exact .inr fun b zs z q => by cases z; rw [e] at q; cases q
def choiceB (ws : List Str) (xs : List V) : Bool := xs.all (isPiece ws) && decide xs.Nodup
def spChoice (K : PySem.W.Frag) : Sp := fun vs H Q _ => ∃ x p ws b, vs = [x, .ref p] ∧ (SqL K H p (ws.map V.str) ∨ SqT K H p (ws.map V.str)) ∧ ListB K H (choiceB ws) x b ∧ ∀ H', Same H H' → Q (.bl b) H'
/-- all items texts -/
theorem strs_of_all {f : V → Bool} (hf : ∀ x, f x = true → isStr x = true) : ∀ {xs : List V}, xs.all f = true → ∃ zs : List Str, xs = zs.map V.str
  | [], _ => ⟨[], rfl⟩
  | x :: xs, h => by
    rw [List.all_cons, Bool.and_eq_true] at h
    obtain ⟨zs, e⟩ := strs_of_all hf h.2
    have s := hf x h.1
    cases x with
    | str z => exact ⟨z :: zs, by rw [e]; rfl⟩
    | _ => cases s
theorem nodup_strs (zs : List Str) : decide (zs.map V.str).Nodup = decide zs.Nodup := by
  apply decide_eq_decide.mpr
  unfold List.Nodup
  rw [List.pairwise_map]
  constructor
  · exact fun h => h.imp fun n e => n (by rw [e])
  · exact fun h => h.imp fun n e => n (by injection e)
def over (s z : Str) : Bool := z.cps.toList.all fun c => decide (c ∈ s.cps.toList)
def overV (s : Str) : V → Bool
  | .str z => over s z
  | _ => false
def spOver (K : PySem.W.Frag) : Sp := fun vs H Q _ => ∃ z s, vs = [.str z, .str s] ∧ z.length ≤ 1000 ∧ ∀ H', Same H H' → Q (.bl (over s z)) H'
def wordB (s : Str) (x : V) : Bool := upTo 3 x && overV s x
def piecesB (s : Str) (xs : List V) : Bool := decide (xs.length ≤ 8) && (xs.all (wordB s) && decide xs.Nodup)
def spPieces (K : PySem.W.Frag) : Sp := fun vs H Q _ => ∃ x s b, vs = [x, .str s] ∧ ListB K H (piecesB s) x b ∧ ∀ H', Same H H' → Q (.bl b) H'
theorem wordB_str {s : Str} (x : V) (h : wordB s x = true) : isStr x = true := by
  cases x with
  | str z => rfl
  | _ => cases h
theorem isPiece_str {ws : List Str} (x : V) (h : isPiece ws x = true) : isStr x = true := by
  cases x with
  | str z => rfl
  | _ => cases h
/-- a family stands at q -/
def ff (s : Str) (t : Addr) : List (Str × V) := [("_signs", .str s), ("_pieces", .ref t)]
def FamObj (K : PySem.W.Frag) (C : Addr) (H : Hp) (q : Addr) (s : Str) (ws : List Str) : Prop := ∃ dx t, H q = some (.ins C dx (ff s t)) ∧ SqT K H t (ws.map V.str)
theorem FamObj.same {K : PySem.W.Frag} {C : Addr} {H H' : Hp} {q : Addr} {s : Str} {ws : List Str} (o : FamObj K C H q s ws) (sm : Same H H') : FamObj K C H' q s ws := let ⟨dx, t, h1, h2⟩ := o; ⟨dx, t, sm _ _ h1, sqT_same sm h2⟩
/-- such signs, such pieces -/
structure GoodF (s : Str) (ws : List Str) : Prop where
  sg : asSigns (.str s) = true
  pc : piecesB s (ws.map V.str) = true
def BadE (H : Hp) (E : XK) (C : Addr) (f : Str) (v : V) : Prop := ∀ H1 d, Same H H1 → H1 d = none → E (.ref C) (some d) (upd H1 d (.xd [(f, v)]))
theorem BadE.same {H H' : Hp} {E : XK} {C : Addr} {f : Str} {v : V} (b : BadE H E C f v) (s : Same H H') : BadE H' E C f v := fun H1 d s1 nd => b H1 d (s.trans s1) nd
def spFamInit (K : PySem.W.Frag) (C cS cP : Addr) : Sp := fun vs H Q E => ∃ q dx x y, vs = [.ref q, x, y] ∧ H q = some (.ins C dx []) ∧ Kind K H x ∧ (asSigns x = false → BadE H E cS "value" x) ∧
  (∀ s, x = .str s → asSigns x = true → ∃ b, ListB K H (piecesB s) y b ∧ (b = false → BadE H E cP "value" y) ∧ (b = true → ∀ (t : Addr) (ws : List Str), y = .ref t → H t = some (.lst (ws.map V.str)) → ∀ H', (∀ c o, c ≠ q → H c = some o → H' c = some o) → FamObj K C H' q s ws → Q .non H'))
def spFamEq (K : PySem.W.Frag) (C : Addr) : Sp := fun vs H Q _ => ∃ q s ws y, vs = [.ref q, y] ∧ FamObj K C H q s ws ∧ (∀ z ∈ ws, z.length ≤ 3 ∧ low z = true) ∧
  ((∃ q2 s2 ws2, y = .ref q2 ∧ FamObj K C H q2 s2 ws2 ∧ (∀ z ∈ ws2, z.length ≤ 3 ∧ low z = true) ∧ ∀ H', Same H H' → Q (.bl (decide (s = s2) && decide (ws = ws2))) H') ∨ (∃ t, TyX K H y t ∧ PySem.W.kitOne K t (.ref C) = some false ∧ ∀ H', Same H H' → Q (.bl false) H'))
def spFamSigns (K : PySem.W.Frag) (C : Addr) : Sp := fun vs H Q _ => ∃ q s ws, vs = [.ref q] ∧ FamObj K C H q s ws ∧ Q (.str s) H
def spFamPieces (K : PySem.W.Frag) (C : Addr) : Sp := fun vs H Q _ => ∃ q s ws, vs = [.ref q] ∧ FamObj K C H q s ws ∧ ∀ p, H p = none → Q (.ref p) (upd H p (.lst (ws.map V.str)))
def lineOver (s : Str) (x : V) : Bool := isLine x && overV s x
/-- the pieces of a page -/
def hasV (p : Str) : V → Bool
  | .str z => hasSub z p
  | _ => false
def txV : V → Str
  | .str z => z
  | _ => Str.empty
def ofPage (ws : List Str) (xs : List V) : List Str := ws.filter fun p => xs.any (hasV p)
def spFamOf (K : PySem.W.Frag) (C cG : Addr) : Sp := fun vs H Q E => ∃ q s ws x b, vs = [.ref q, x] ∧ FamObj K C H q s ws ∧ ws.length ≤ 1000 ∧ TupB K H (fun xs => xs.all (lineOver s)) x b ∧ (b = false → BadE H E cG "value" x) ∧
  (b = true → ∀ t xs, x = .ref t → H t = some (.tup xs) → ∀ p H', Same H H' → H' p = some (.lst ((ofPage ws xs).map V.str)) → Q (.ref p) H')
def spFamCheck (K : PySem.W.Frag) (C cP : Addr) : Sp := fun vs H Q E => ∃ q s ws x b, vs = [.ref q, x] ∧ FamObj K C H q s ws ∧ ListB K H (choiceB ws) x b ∧ (b = false → BadE H E cP "value" x) ∧ (b = true → ∀ H', Same H H' → Q .non H')
def spFamCut (K : PySem.W.Frag) (C cP : Addr) : Sp := fun vs H Q E => ∃ q s ws x b, vs = [.ref q, x] ∧ FamObj K C H q s ws ∧ GoodF s ws ∧ ListB K H (choiceB ws) x b ∧ (b = false → BadE H E cP "value" x) ∧
  (b = true → ∀ (t : Addr) (zs : List Str), x = .ref t → H t = some (.lst (zs.map V.str)) → ∀ r H', Same H H' → H r = none → FamObj K C H' r s (ws.filter fun p => decide (p ∈ zs)) → Q (.ref r) H')
/-- a line that is allowed -/
def allowedB (s : Str) (ws : List Str) (zs : List Str) : V → Bool
  | .str l => (low l && over s l) && ws.all fun p => !hasSub l p || decide (p ∈ zs)
  | _ => false
def spFamAllowed (K : PySem.W.Frag) (C cP : Addr) : Sp := fun vs H Q E => ∃ q s ws x y b, vs = [.ref q, x, y] ∧ FamObj K C H q s ws ∧ ws.length ≤ 1000 ∧ ListB K H (choiceB ws) x b ∧ Kind K H y ∧ (b = false → BadE H E cP "value" x) ∧
  (b = true → ∀ (t : Addr) (zs : List Str), x = .ref t → H t = some (.lst (zs.map V.str)) → ∀ H', Same H H' → Q (.bl (allowedB s ws zs y)) H')
theorem eqv_tups : ∀ as bs : List Str, PyData.eqv (.tuple (as.map .str)) (.tuple (bs.map .str)) = decide (as = bs) := fun as bs => by
  rw [← eqv_strs as bs]
  simp [PyData.eqv]
theorem shaped_tups {xs : List Str} (h : ∀ x ∈ xs, PyData.strOk x = true) : SeqAt.shaped (.tuple (xs.map .str)) = true := by
  unfold SeqAt.shaped
  have e : (PyData.tuple (xs.map .str)).canLay0 = true := lay_strs xs h
  rw [e]
  simp [PyData.depth, depth_strs xs]
theorem low_ok {z : Str} (h : low z = true) : PyData.strOk z = true := by
  have k : ∀ c ∈ abc.cps.toList, c < 0x110000 := by decide +kernel
  unfold PyData.strOk
  rw [← Array.all_toList]
  exact List.all_eq_true.mpr fun c hc => decide_eq_true (k c (of_decide_eq_true (List.all_eq_true.mp h c hc)))
theorem GoodF.words {s : Str} {ws : List Str} (g : GoodF s ws) : ws.length ≤ 8 ∧ (∀ z ∈ ws, 1 ≤ z.length ∧ z.length ≤ 3 ∧ low z = true ∧ over s z = true) ∧ ws.Nodup := by
  have p := g.pc
  unfold piecesB at p
  rw [Bool.and_eq_true, Bool.and_eq_true, nodup_strs] at p
  refine ⟨by simpa using of_decide_eq_true p.1, fun z hz => ?_, of_decide_eq_true p.2.2⟩
  have q := List.all_eq_true.mp p.2.1 (.str z) (List.mem_map.mpr ⟨z, hz, rfl⟩)
  unfold wordB at q
  rw [Bool.and_eq_true] at q
  have q1 : (low z && (decide (1 ≤ z.length) && decide (z.length ≤ 3))) = true := q.1
  rw [Bool.and_eq_true, Bool.and_eq_true] at q1
  exact ⟨of_decide_eq_true q1.2.1, of_decide_eq_true q1.2.2, q1.1, q.2⟩
theorem GoodF.few {s : Str} {ws : List Str} (g : GoodF s ws) : ws.length ≤ 1000 := by have := g.words.1; omega
theorem GoodF.cutOk {s : Str} {ws : List Str} (g : GoodF s ws) (f : Str → Bool) : GoodF s (ws.filter f) := by
  refine ⟨g.sg, ?_⟩
  have w := g.words
  have p := g.pc
  unfold piecesB at p ⊢
  rw [Bool.and_eq_true, Bool.and_eq_true, nodup_strs] at p ⊢
  refine ⟨decide_eq_true ?_, List.all_eq_true.mpr fun x hx => ?_, decide_eq_true (w.2.2.filter _)⟩
  · rw [List.length_map]
    exact Nat.le_trans (List.length_filter_le _ _) w.1
  · obtain ⟨z, hz, rfl⟩ := List.mem_map.mp hx
    exact List.all_eq_true.mp p.2.1 _ (List.mem_map.mpr ⟨z, (List.mem_filter.mp hz).1, rfl⟩)
end Wd

namespace L2
open PySem PySem.Spec PyProof.Rows PySem.ErrX Wd
/-! ### rules whose reading names the written part, for use within a comprehension -/
section
variable {X : Cx} {K : PySem.W.Frag}
theorem pe_fldK {e : Expr} {f : Str} {pos : Pos} {ta : TE} (hK : X.K = K) (he : PE X e ta) (hb : attributeBase e f X.env (eval e X.env) = eval e X.env) : PE X (.Attribute e f pos) (tFld K ta f) := hK ▸ pe_fld he hb
theorem op_in_seqK (hK : X.K = K) : OpR X (compareOp .In) (rIn K false) := hK ▸ op_in_seq
theorem op_notIn_seqK (hK : X.K = K) : OpR X (compareOp .NotIn) (rIn K true) := hK ▸ op_notIn_seq
theorem ix_listK (hK : X.K = K) : IxR X (rIxL K) := hK ▸ ix_list
theorem ix_tupK (hK : X.K = K) : IxR X (rIxT K) := hK ▸ ix_tup
theorem sl_listK (hK : X.K = K) : SlR X (rSlL K) := hK ▸ sl_list
theorem sl_tupAK (hK : X.K = K) : SlR X (rSlA K) := hK ▸ sl_tupA
theorem pi_listK {tg l : Expr} {tl : TE} (hK : X.K = K) (h : PE X l tl) : PI X tg l (iList K tl) := hK ▸ pi_list h
theorem pi_tupK {tg l : Expr} {tl : TE} (hK : X.K = K) (h : PE X l tl) : PI X tg l (iTup K tl) := hK ▸ pi_tup h
theorem cr_allK (hK : X.K = K) (hc : X.calm = true) : CallR X (.builtin "all") (rAll K) := hK ▸ cr_all hc
theorem cr_anyK (hK : X.K = K) (hc : X.calm = true) : CallR X (.builtin "any") (rAny K) := hK ▸ cr_any hc
theorem cr_sumK (hK : X.K = K) (hc : X.calm = true) : CallR X (.builtin "sum") (rSum K) := hK ▸ cr_sum hc
def rListOf (K : PySem.W.Frag) : List V → Hp → VK → Prop := fun xs H Q => ∃ p ys, xs = [V.ref p] ∧ (SqL K H p ys ∨ SqT K H p ys) ∧ ∀ (l : Addr), H l = none → Q (V.ref l) (upd H l (HO.lst ys))
theorem call_list_ofK (hK : X.K = K) : CallR X (.type "list") (rListOf K) := hK ▸ call_list_of
def rLenSeq (K : PySem.W.Frag) : List V → Hp → VK → Prop := fun xs H Q => ∃ p ys, xs = [V.ref p] ∧ (SqL K H p ys ∨ SqT K H p ys) ∧ Q (V.int ys.length) H
theorem call_len_seqK (hK : X.K = K) : CallR X (.builtin "len") (rLenSeq K) := hK ▸ call_len_seq
theorem op_eqDK (hK : X.K = K) (hu : X.A.units + 64 < cLine) : OpR X (compareOp .Eq) (rEqD K) := hK ▸ op_eqD hu
theorem op_neDK (hK : X.K = K) (hu : X.A.units + 64 < cLine) : OpR X (compareOp .NotEq) (rNeD K) := hK ▸ op_neD hu
theorem call_ofStrK (hK : X.K = K) : CallR X (.builtin "isinstance") (rOfStr K) := hK ▸ call_ofStr
theorem call_ofTupK (hK : X.K = K) : CallR X (.builtin "isinstance") (rOfTup K) := hK ▸ call_ofTup
theorem call_ofLstK (hK : X.K = K) : CallR X (.builtin "isinstance") (rOfLst K) := hK ▸ call_ofLst
theorem op_catAK (hK : X.K = K) : OpR X (binaryOp .Add) (rCatA K) := hK ▸ op_catA
theorem pg_tupK {pos : Pos} {es : List Expr} {k : Nat} {t : TGs} {n : Nat} (hK : X.K = K) (hc : X.calm = true) (h : PGs X es t) (h1 : (assignEach es X.env).length = n := by rfl) (h2 : (assignEach es X.env).findIdx? (·.1) = none := by rfl) : PG X (.Tuple es k pos) (gTup K n t) := hK ▸ pg_tup hc h h1 h2
end
/-- what a callee lets out, this def lets out -/
theorem passE {Pp : Program} {ww : World} {K : PySem.W.Frag} {mg : Str → Option Value} {base : Heap} {N : List Str} {qual : Str} {scope : Scope} {f : Addr} {cd : Value} {A : Around} {outer : List Env} {s : Shared} {H : Hp} {E : XK} : Passes (L2.CX Pp ww) (cxOf (L2.CX Pp ww) Pp ww K mg base N qual scope f cd A outer s H E) E :=
  passes_call (takes_of rfl rfl rfl rfl) (fun _ _ _ _ h => h)
end L2

namespace Wd
open PySem PySem.Spec PyProof.Rows PySem.ErrX L2
/-! ### what the laws draw -/
theorem cutV_to {xs : List V} {r : Nat} : cutV xs none (some (r : Int)) = xs.take r := by
  unfold cutV
  rw [HT.sIx_none, HT.sIx_nat]
  simp only [Nat.sub_zero, List.drop_zero]
  rw [List.take_eq_take_iff]
  omega
theorem cutV_from {xs : List V} {r : Nat} : cutV xs (some (r : Int)) none = xs.drop r := by
  unfold cutV
  rw [HT.sIx_none, HT.sIx_nat]
  by_cases h : r ≤ xs.length
  · rw [Nat.min_eq_left h, List.take_of_length_le (by rw [List.length_drop]; exact Nat.le_refl _)]
  · rw [Nat.min_eq_right (by omega), List.drop_eq_nil_of_le (Nat.le_refl _), List.drop_eq_nil_of_le (by omega)]
    simp
theorem mid_perm {α : Type} {xs : List α} {r : Nat} {v : α} (h : xs[r]? = some v) : (v :: (xs.take r ++ xs.drop (r + 1))).Perm xs := by
  obtain ⟨lt, e⟩ := List.getElem?_eq_some_iff.mp h
  have e2 : xs = xs.take r ++ v :: xs.drop (r + 1) := by
    have z := (List.take_append_drop r xs).symm
    rw [List.drop_eq_getElem_cons lt, e] at z
    exact z
  have p := (List.perm_middle (a := v) (l₁ := xs.take r) (l₂ := xs.drop (r + 1))).symm
  rw [← e2] at p
  exact p
/-- a shuffled copy of a list -/
def spMixed : Sp := fun vs H Q _ => ∃ p t xs, vs = [.ref p, .ref t] ∧ Pool H p ∧ H t = some (.lst xs) ∧ t ≠ p ∧ xs.length ≤ 1000 ∧ ∀ r H' ys, But p H H' → Pool H' p → H r = none → H' r = some (.lst ys) → ys.Perm xs → Q (.ref r) H'
/-- a drawn line over some signs -/
def spLineD : Sp := fun vs H Q _ => ∃ p sg most, vs = [.ref p, .str sg, .int most] ∧ Pool H p ∧ 1 ≤ sg.length ∧ sg.length ≤ 100 ∧ 0 ≤ most ∧ most ≤ 200 ∧
  ∀ H' z, But p H H' → Pool H' p → z.length ≤ most.toNat → over sg z = true → Q (.str z) H'
theorem Same.but {H H' : Hp} {p : Addr} (s : Same H H') : But p H H' := fun b o _ e => s b o e
theorem but_none {p b : Addr} {H H' : Hp} (bt : But p H H') (n : H' b = none) (np : b ≠ p) : H b = none := by
  cases e : H b with
  | none => rfl
  | some o =>
    rw [bt b o np e] at n
    cases n
end Wd
namespace Wd
open PySem PySem.Spec PyProof.Rows PySem.ErrX L2
/-! ### the words of which families are drawn -/
def w1 (s : Str) : List Str := signsOf s
def ext (s o : Str) : List Str := (signsOf s).map fun c => o ++ c
def ext2 (s o : Str) : List Str := if o.length = 2 then ext s o else []
def w12 (s : Str) : List Str := w1 s ++ (signsOf s).flatMap (ext s)
def drawnW (s : Str) : List Str := w12 s ++ (w12 s).flatMap (ext2 s)
theorem ext_len (s o : Str) : (ext s o).length = s.length := by
  unfold ext signsOf
  rw [List.length_map, List.length_map, Array.length_toList]
  rfl
theorem ext2_len (s o : Str) : (ext2 s o).length ≤ s.length := by
  unfold ext2
  split
  · exact Nat.le_of_eq (ext_len s o)
  · exact Nat.zero_le _
theorem signs_len (s : Str) : (signsOf s).length = s.length := by
  unfold signsOf
  rw [List.length_map, Array.length_toList]
  rfl
theorem flat_le {α β : Type} {f : α → List β} {n : Nat} (h : ∀ x, (f x).length ≤ n) : ∀ l : List α, (l.flatMap f).length ≤ l.length * n
  | [] => by simp
  | x :: l => by
    have ih := flat_le h l
    have := h x
    rw [List.flatMap_cons, List.length_append, List.length_cons, Nat.succ_mul]
    omega
theorem w12_len {s : Str} (h : s.length ≤ 6) : (w12 s).length ≤ 42 := by
  unfold w12 w1
  rw [List.length_append, signs_len]
  have a := flat_le (fun o => Nat.le_of_eq (ext_len s o)) (signsOf s)
  rw [signs_len] at a
  have b : s.length * s.length ≤ 6 * 6 := Nat.mul_le_mul h h
  omega
structure GoodW (s : Str) : Prop where
  sg : asSigns (.str s) = true
  nd : (drawnW s).Nodup
  ok : ∀ z ∈ drawnW s, wordB s (.str z) = true
theorem goodW_ab : GoodW "ab" := ⟨by decide +kernel, by decide +kernel, by decide +kernel⟩
theorem goodW_abc : GoodW "abc" := ⟨by decide +kernel, by decide +kernel, by decide +kernel⟩
theorem GoodW.len {s : Str} (g : GoodW s) : 1 ≤ s.length ∧ s.length ≤ 6 := by
  have q1 : (low s && (decide (1 ≤ s.length) && decide (s.length ≤ 6)) && rising s) = true := g.sg
  rw [Bool.and_eq_true, Bool.and_eq_true, Bool.and_eq_true] at q1
  exact ⟨of_decide_eq_true q1.1.2.1, of_decide_eq_true q1.1.2.2⟩
/-- a family drawn -/
def spFamily (K : PySem.W.Frag) (C : Addr) : Sp := fun vs H Q _ => ∃ p s most, vs = [.ref p, .str s, .int most] ∧ Pool H p ∧ GoodW s ∧ 0 ≤ most ∧ most ≤ 8 ∧
  ∀ q H' ws, But p H H' → Pool H' p → H q = none → FamObj K C H' q s ws → GoodF s ws → (∀ z ∈ ws, z ∈ drawnW s) → ws.length ≤ most.toNat → Q (.ref q) H'
theorem good_of_words {s : Str} (g : GoodW s) {ws ys : List Str} (pm : ys.Perm (drawnW s)) {n : Nat} (h8 : n ≤ 8) (e : ws = ys.take n) : GoodF s ws := by
  subst e
  refine ⟨g.sg, ?_⟩
  unfold piecesB
  rw [Bool.and_eq_true, Bool.and_eq_true, nodup_strs]
  refine ⟨decide_eq_true ?_, List.all_eq_true.mpr fun x hx => ?_, decide_eq_true ((pm.nodup_iff.mpr g.nd).sublist (List.take_sublist _ _))⟩
  · rw [List.length_map, List.length_take]
    omega
  · obtain ⟨z, hz, rfl⟩ := List.mem_map.mp hx
    exact g.ok z (pm.mem_iff.mp (List.mem_of_mem_take hz))
theorem asSigns_low {s : Str} (h : asSigns (.str s) = true) : low s = true ∧ 1 ≤ s.length ∧ s.length ≤ 6 := by
  have q1 : (low s && (decide (1 ≤ s.length) && decide (s.length ≤ 6)) && rising s) = true := h
  rw [Bool.and_eq_true, Bool.and_eq_true, Bool.and_eq_true] at q1
  exact ⟨q1.1.1, of_decide_eq_true q1.1.2.1, of_decide_eq_true q1.1.2.2⟩
/-- an instance made: what stood stands -/
theorem made_same {H : Hp} {r dr C : Addr} (nr : H r = none) (nd : H dr = none) : Same H (upd (upd H dr (.own r)) r (.ins C dr [])) := fun b o e => by
  rw [upd_ne (ne_of_none e nr), upd_ne (ne_of_none e nd)]
  exact e
theorem map_str_inj {xs ys : List Str} (h : xs.map V.str = ys.map V.str) : xs = ys := List.map_inj_right (fun x y e => by injection e) |>.mp h
end Wd

namespace Wd
open PySem PySem.Spec PyProof.Rows PySem.ErrX L2
/-! ### written values: texts, numbers, None, lists and tuples of such -/
inductive Lit where
  | non
  | bl (b : Bool)
  | int (i : Int)
  | neg (i : Int)
  | str (z : Str)
  | lst (ls : List Lit)
  | tup (ls : List Lit)
mutual
def tLit : Lit → TE
  | .non => tC .non
  | .bl b => tC (.bl b)
  | .int i => tC (.int i)
  | .neg i => tUn (rU fun i => .int (-i)) (tC (.int i))
  | .str z => tC (.str z)
  | .lst ls => tLst (tLits ls)
  | .tup ls => tTup (tLits ls)
def tLits : List Lit → TA
  | [] => tNil
  | l :: ls => tCons (tLit l) (tLits ls)
end
mutual
inductive LitAt (H : Hp) : V → Lit → Prop
  | non : LitAt H .non .non
  | bl (b : Bool) : LitAt H (.bl b) (.bl b)
  | int (i : Int) : LitAt H (.int i) (.int i)
  | neg (i : Int) : LitAt H (.int (-i)) (.neg i)
  | str (z : Str) : LitAt H (.str z) (.str z)
  | lst {p : Addr} {xs : List V} {ls : List Lit} : H p = some (.lst xs) → LitsAt H xs ls → LitAt H (.ref p) (.lst ls)
  | tup {p : Addr} {xs : List V} {ls : List Lit} : H p = some (.tup xs) → LitsAt H xs ls → LitAt H (.ref p) (.tup ls)
inductive LitsAt (H : Hp) : List V → List Lit → Prop
  | nil : LitsAt H [] []
  | cons {x : V} {xs : List V} {l : Lit} {ls : List Lit} : LitAt H x l → LitsAt H xs ls → LitsAt H (x :: xs) (l :: ls)
end
mutual
theorem LitAt.same {H H' : Hp} (s : Same H H') : ∀ {x : V} {l : Lit}, LitAt H x l → LitAt H' x l
  | _, _, .non => .non
  | _, _, .bl b => .bl b
  | _, _, .int i => .int i
  | _, _, .neg i => .neg i
  | _, _, .str z => .str z
  | _, _, .lst h t => .lst (s _ _ h) (LitsAt.same s t)
  | _, _, .tup h t => .tup (s _ _ h) (LitsAt.same s t)
theorem LitsAt.same {H H' : Hp} (s : Same H H') : ∀ {xs : List V} {ls : List Lit}, LitsAt H xs ls → LitsAt H' xs ls
  | _, _, .nil => .nil
  | _, _, .cons h t => .cons (LitAt.same s h) (LitsAt.same s t)
end
theorem LitsAt.length {H : Hp} : ∀ {xs : List V} {ls : List Lit}, LitsAt H xs ls → xs.length = ls.length
  | _, _, .nil => rfl
  | _, _, .cons _ t => by rw [List.length_cons, List.length_cons, t.length]
theorem LitsAt.get {H : Hp} : ∀ {xs : List V} {ls : List Lit}, LitsAt H xs ls → ∀ {i : Nat} {x : V}, xs[i]? = some x → ∃ l, ls[i]? = some l ∧ LitAt H x l
  | _, _, .nil, i, x, e => by simp at e
  | _, _, .cons h t, 0, x, e => by
    simp at e
    subst e
    exact ⟨_, rfl, h⟩
  | _, _, .cons h t, i + 1, x, e => t.get (by simpa using e)
theorem LitsAt.mem {H : Hp} : ∀ {xs : List V} {ls : List Lit}, LitsAt H xs ls → ∀ {x : V}, x ∈ xs → ∃ l ∈ ls, LitAt H x l
  | _, _, .nil, x, e => by simp at e
  | _, _, .cons h t, x, e => by
    rcases List.mem_cons.mp e with e | e
    · subst e
      exact ⟨_, List.mem_cons_self, h⟩
    · obtain ⟨l, hl, q⟩ := t.mem e
      exact ⟨l, List.mem_cons_of_mem _ hl, q⟩
theorem LitsAt.append {H : Hp} : ∀ {xs ys : List V} {ls ms : List Lit}, LitsAt H xs ls → LitsAt H ys ms → LitsAt H (xs ++ ys) (ls ++ ms)
  | _, _, _, _, .nil, q => q
  | _, _, _, _, .cons h t, q => .cons h (t.append q)
/-! lists no longer than 1000, texts neither -/
mutual
def litFew : Lit → Bool
  | .str z => decide (z.length ≤ 1000)
  | .lst ls => decide (ls.length ≤ 1000) && litsFew ls
  | .tup ls => decide (ls.length ≤ 1000) && litsFew ls
  | _ => true
def litsFew : List Lit → Bool
  | [] => true
  | l :: ls => litFew l && litsFew ls
end
mutual
theorem lit_ok : ∀ (l : Lit), litFew l = true → ∀ {σ : L2.St} {H : Hp} {Q : VK}, (∀ v H', Same H H' → LitAt H' v l → Q v H') → tLit l σ H Q
  | .non, _, σ, H, Q, q => q _ H (fun _ _ e => e) .non
  | .bl b, _, σ, H, Q, q => q _ H (fun _ _ e => e) (.bl b)
  | .int i, _, σ, H, Q, q => q _ H (fun _ _ e => e) (.int i)
  | .neg i, _, σ, H, Q, q => ⟨i, rfl, q _ H (fun _ _ e => e) (.neg i)⟩
  | .str z, _, σ, H, Q, q => q _ H (fun _ _ e => e) (.str z)
  | .lst ls, f, σ, H, Q, q => by
    have f' : (decide (ls.length ≤ 1000) && litsFew ls) = true := f
    rw [Bool.and_eq_true] at f'
    show tLits ls σ H _
    refine lits_ok ls f'.2 fun xs H1 s1 h1 => ⟨?_, fun p np => ?_⟩
    · rw [h1.length]
      exact small (of_decide_eq_true f'.1)
    · have s2 := same_upd (o := .lst xs) np
      exact q _ _ (s1.trans s2) (.lst upd_same (h1.same s2))
  | .tup ls, f, σ, H, Q, q => by
    have f' : (decide (ls.length ≤ 1000) && litsFew ls) = true := f
    rw [Bool.and_eq_true] at f'
    show tLits ls σ H _
    refine lits_ok ls f'.2 fun xs H1 s1 h1 => ⟨?_, fun p np => ?_⟩
    · rw [h1.length]
      exact small (of_decide_eq_true f'.1)
    · have s2 := same_upd (o := .tup xs) np
      exact q _ _ (s1.trans s2) (.tup upd_same (h1.same s2))
theorem lits_ok : ∀ (ls : List Lit), litsFew ls = true → ∀ {σ : L2.St} {H : Hp} {Q : List V → Hp → Prop}, (∀ xs H', Same H H' → LitsAt H' xs ls → Q xs H') → tLits ls σ H Q
  | [], _, σ, H, Q, q => q [] H (fun _ _ e => e) .nil
  | l :: ls, f, σ, H, Q, q => by
    have f' : (litFew l && litsFew ls) = true := f
    rw [Bool.and_eq_true] at f'
    show tLit l σ H _
    refine lit_ok l f'.1 fun v H1 s1 h1 => ?_
    show tLits ls σ H1 _
    refine lits_ok ls f'.2 fun xs H2 s2 h2 => ?_
    exact q _ _ (s1.trans s2) (.cons (h1.same s2) h2)
end
mutual
def litD : Lit → PyData
  | .non => .none
  | .bl b => .bool b
  | .int i => .int i
  | .neg i => .int (-i)
  | .str z => .str z
  | .lst ls => .list (litsD ls)
  | .tup ls => .tuple (litsD ls)
def litsD : List Lit → List PyData
  | [] => []
  | l :: ls => litD l :: litsD ls
end
mutual
theorem LitAt.dp {K : PySem.W.Frag} {H : Hp} : ∀ {x : V} {l : Lit}, LitAt H x l → Dp K H x (litD l)
  | _, _, .non => .non
  | _, _, .bl b => .bl b
  | _, _, .int i => .int i
  | _, _, .neg i => .int (-i)
  | _, _, .str z => .str z
  | _, _, .lst h t => .lst (.inl (.inl h)) (LitsAt.dp t)
  | _, _, .tup h t => .tup (.inl (.inl h)) (LitsAt.dp t)
theorem LitsAt.dp {K : PySem.W.Frag} {H : Hp} : ∀ {xs : List V} {ls : List Lit}, LitsAt H xs ls → DpAll K H xs (litsD ls)
  | _, _, .nil => .nil
  | _, _, .cons h t => .cons (LitAt.dp h) (LitsAt.dp t)
end
theorem LitAt.kind {K : PySem.W.Frag} {H : Hp} {x : V} {l : Lit} (h : LitAt H x l) (f : litFew l = true) : Kind K H x := by
  cases h with
  | non => exact .non
  | bl b => exact .bl b
  | int i => exact .int i
  | neg i => exact .int (-i)
  | str z => exact .str z (of_decide_eq_true f)
  | lst h t => exact .lst _ _ h
  | tup h t => exact .tup _ _ h
theorem litsFew_mem : ∀ {ls : List Lit}, litsFew ls = true → ∀ l ∈ ls, litFew l = true
  | [], _, l, h => by simp at h
  | m :: ls, f, l, h => by
    have f' : (litFew m && litsFew ls) = true := f
    rw [Bool.and_eq_true] at f'
    rcases List.mem_cons.mp h with e | e
    · rw [e]; exact f'.1
    · exact litsFew_mem f'.2 l e
theorem LitsAt.kinds {K : PySem.W.Frag} {H : Hp} {xs : List V} {ls : List Lit} (h : LitsAt H xs ls) (f : litsFew ls = true) : ∀ y ∈ xs, Kind K H y := fun y hy => by
  obtain ⟨l, hl, q⟩ := h.mem hy
  exact q.kind (litsFew_mem f l hl)
/-- what repr tells of it -/
def litShown : Lit → Str
  | .non => "None"
  | .int i => toString i
  | .neg i => toString (-i)
  | .str z => reprText z
  | .lst ls => (PyData.list (litsD ls)).shown
  | .tup ls => (PyData.tuple (litsD ls)).shown
  | .bl _ => ""
def fine (d : PyData) : Bool := d.showable && !d.hasDict && decide (d.depth ≤ 64) && decide (d.shown.length ≤ 1000)
/-- that repr is known to tell it, and that its text is plain -/
def litFine : Lit → Bool
  | .non => true
  | .int i => decide (i.natAbs.log2 < 1920) && PyData.strOk (toString i)
  | .neg i => decide ((-i).natAbs.log2 < 1920) && PyData.strOk (toString (-i))
  | .str z => decide ((reprText z).length ≤ 1000) && PyData.strOk (reprText z)
  | .lst ls => fine (.list (litsD ls)) && PyData.strOk (PyData.list (litsD ls)).shown
  | .tup ls => fine (.tuple (litsD ls)) && PyData.strOk (PyData.tuple (litsD ls)).shown
  | .bl _ => false
theorem fine_shw {K : PySem.W.Frag} {H : Hp} {a : Addr} {d : PyData} (h : fine d = true) (hd : Dp K H (.ref a) d) : Shw K H (.ref a) d.shown := by
  unfold fine at h
  rw [Bool.and_eq_true, Bool.and_eq_true, Bool.and_eq_true] at h
  obtain ⟨⟨⟨h1, h2⟩, h3⟩, h4⟩ := h
  refine .seq a d hd h1 ?_ (of_decide_eq_true h3) (small (of_decide_eq_true h4))
  cases q : d.hasDict with
  | false => rfl
  | true =>
    rw [q] at h2
    cases h2
theorem LitAt.shw {K : PySem.W.Frag} {H : Hp} {x : V} {l : Lit} (h : LitAt H x l) (f : litFine l = true) : Shw K H x (litShown l) ∧ PyData.strOk (litShown l) = true := by
  have hd := h.dp (K := K)
  cases h with
  | non => exact ⟨.non, by decide +kernel⟩
  | bl b => cases f
  | int i =>
    have f' : (decide (i.natAbs.log2 < 1920) && PyData.strOk (toString i)) = true := f
    rw [Bool.and_eq_true] at f'
    exact ⟨.int i (of_decide_eq_true f'.1), f'.2⟩
  | neg i =>
    have f' : (decide ((-i).natAbs.log2 < 1920) && PyData.strOk (toString (-i))) = true := f
    rw [Bool.and_eq_true] at f'
    exact ⟨.int (-i) (of_decide_eq_true f'.1), f'.2⟩
  | str z =>
    have f' : (decide ((reprText z).length ≤ 1000) && PyData.strOk (reprText z)) = true := f
    rw [Bool.and_eq_true] at f'
    exact ⟨.str z (small (of_decide_eq_true f'.1)), f'.2⟩
  | @lst p xs ls h t =>
    have f' : (fine (.list (litsD ls)) && PyData.strOk (PyData.list (litsD ls)).shown) = true := f
    rw [Bool.and_eq_true] at f'
    exact ⟨fine_shw f'.1 hd, f'.2⟩
  | @tup p xs ls h t =>
    have f' : (fine (.tuple (litsD ls)) && PyData.strOk (PyData.tuple (litsD ls)).shown) = true := f
    rw [Bool.and_eq_true] at f'
    exact ⟨fine_shw f'.1 hd, f'.2⟩
/-- a written value without its addresses -/
def litV : Lit → V
  | .non => .non
  | .bl b => .bl b
  | .int i => .int i
  | .neg i => .int (-i)
  | .str z => .str z
  | .lst _ => .ref 0
  | .tup _ => .ref 0
theorem LitAt.isStr {H : Hp} {x : V} {l : Lit} (h : LitAt H x l) : isStr (litV l) = Wd.isStr x := by
  cases h <;> rfl
/-- a test that lets only texts through does not see addresses -/
theorem LitsAt.all {H : Hp} {f : V → Bool} (hf : ∀ x, f x = true → isStr x = true) : ∀ {xs : List V} {ls : List Lit}, LitsAt H xs ls → xs.all f = (ls.map litV).all f ∧ (xs.all f = true → xs = ls.map litV)
  | _, _, .nil => ⟨rfl, fun _ => rfl⟩
  | _, _, .cons (x := x) (l := l) h t => by
    obtain ⟨i1, i2⟩ := t.all hf
    have e : f x = f (litV l) ∧ (f x = true → x = litV l) := by
      cases h with
      | non => exact ⟨rfl, fun _ => rfl⟩
      | bl b => exact ⟨rfl, fun _ => rfl⟩
      | int i => exact ⟨rfl, fun _ => rfl⟩
      | neg i => exact ⟨rfl, fun _ => rfl⟩
      | str z => exact ⟨rfl, fun _ => rfl⟩
      | lst _ _ =>
        have no : ∀ a, f (.ref a) = false := fun a => by
          cases q : f (.ref a) with
          | false => rfl
          | true => exact absurd (show false = true from hf _ q) Bool.false_ne_true
        exact ⟨by rw [no]; exact (no 0).symm, fun z => by rw [no] at z; cases z⟩
      | tup _ _ =>
        have no : ∀ a, f (.ref a) = false := fun a => by
          cases q : f (.ref a) with
          | false => rfl
          | true => exact absurd (show false = true from hf _ q) Bool.false_ne_true
        exact ⟨by rw [no]; exact (no 0).symm, fun z => by rw [no] at z; cases z⟩
    refine ⟨by rw [List.map_cons, List.all_cons, List.all_cons, e.1, i1], fun z => ?_⟩
    rw [List.all_cons, Bool.and_eq_true] at z
    rw [List.map_cons, ← e.2 z.1, ← i2 z.2]
theorem LitsAt.pieces {H : Hp} {s : Str} {xs : List V} {ls : List Lit} (h : LitsAt H xs ls) : piecesB s xs = piecesB s (ls.map litV) := by
  obtain ⟨e1, e2⟩ := h.all (wordB_str (s := s))
  unfold piecesB
  rw [List.length_map, h.length, ← e1]
  cases q : xs.all (wordB s) with
  | false => rfl
  | true => rw [e2 q]
theorem LitsAt.choice {H : Hp} {ws : List Str} {xs : List V} {ls : List Lit} (h : LitsAt H xs ls) : choiceB ws xs = choiceB ws (ls.map litV) := by
  obtain ⟨e1, e2⟩ := h.all (isPiece_str (ws := ws))
  unfold choiceB
  rw [← e1]
  cases q : xs.all (isPiece ws) with
  | false => rfl
  | true => rw [e2 q]
def litL (f : List V → Bool) : Lit → Bool
  | .lst ls => f (ls.map litV)
  | _ => false
def litT (f : List V → Bool) : Lit → Bool
  | .tup ls => f (ls.map litV)
  | _ => false
theorem LitAt.listB {K : PySem.W.Frag} {H : Hp} {f : List V → Bool} {x : V} {l : Lit} (h : LitAt H x l) (few : litFew l = true) (hf : ∀ {xs : List V} {ls : List Lit}, LitsAt H xs ls → f xs = f (ls.map litV)) : ListB K H f x (litL f l) := by
  have k := h.kind (K := K) few
  cases h with
  | non => exact .off k fun _ _ z => nomatch z
  | bl b => exact .off k fun _ _ z => nomatch z
  | int i => exact .off k fun _ _ z => nomatch z
  | neg i => exact .off k fun _ _ z => nomatch z
  | str z => exact .off k fun _ _ z => nomatch z
  | @lst p xs ls h t =>
    have f' : (decide (ls.length ≤ 1000) && litsFew ls) = true := few
    rw [Bool.and_eq_true] at f'
    have z := ListB.of (f := f) h (by rw [t.length]; exact of_decide_eq_true f'.1) (t.kinds (K := K) f'.2)
    rw [hf t] at z
    exact z
  | tup h t => exact .off k fun b zs z q => by cases z; rw [h] at q; cases q
theorem LitAt.tupB {K : PySem.W.Frag} {H : Hp} {f : List V → Bool} {x : V} {l : Lit} (h : LitAt H x l) (few : litFew l = true) (hf : ∀ {xs : List V} {ls : List Lit}, LitsAt H xs ls → f xs = f (ls.map litV)) : TupB K H f x (litT f l) := by
  have k := h.kind (K := K) few
  cases h with
  | non => exact .off k fun _ _ z => nomatch z
  | bl b => exact .off k fun _ _ z => nomatch z
  | int i => exact .off k fun _ _ z => nomatch z
  | neg i => exact .off k fun _ _ z => nomatch z
  | str z => exact .off k fun _ _ z => nomatch z
  | @tup p xs ls h t =>
    have f' : (decide (ls.length ≤ 1000) && litsFew ls) = true := few
    rw [Bool.and_eq_true] at f'
    have z := TupB.of (f := f) h (by rw [t.length]; exact of_decide_eq_true f'.1) (t.kinds (K := K) f'.2)
    rw [hf t] at z
    exact z
  | lst h t => exact .off k fun b zs z q => by cases z; rw [h] at q; cases q
theorem LitAt.signs {H : Hp} {x : V} {l : Lit} (h : LitAt H x l) : asSigns x = asSigns (litV l) := by
  cases h <;> rfl
theorem lineOver_str {s : Str} (x : V) (h : lineOver s x = true) : isStr x = true := by
  cases x with
  | str z => rfl
  | _ => cases h
end Wd

namespace L2
open PySem PySem.Spec PyProof.Rows PySem.ErrX
/-- a comprehension over range(n) that makes nothing but its list -/
theorem lc_pureR {n : Nat} {lo : Int} {H : Hp} {D : Addr} {g : TG} {tt : TT} {te : TE} {vs : List Nat} {σ : L2.St} {Qd : Hp → Prop} (few : n ≤ 60000) (nD : H D = none) (p : Nat → Bool) (f : Nat → V)
    (step : ∀ i, i < n → ∀ H', Same H H' → ∀ (KK : VK) (R : Hp → Prop), (p i = true → ∀ H4, Same H' H4 → KK (f i) H4) → (p i = false → ∀ H3, Same H' H3 → R H3) →
      g (.int (lo + i)) (wipe σ vs) H' fun σ2 H2 => wipe σ2 vs = wipe σ vs ∧ tt σ2 H2 fun b H3 => if b = true then te σ2 H3 KK else R H3)
    (hd : ∀ H', Same H H' → H' D = some (.lst (((List.range n).filter p).map f)) → Qd H') :
    ∃ W : Nat → Nat → Hp → Prop, (∃ m, W 0 m (upd H D (.lst []))) ∧ ∀ i m H, W i m H →
      ((Itr lo n).stop i H ∧ Qd H) ∨ ((Itr lo n).go i H ∧ ∃ Nx : Hp → Prop, (∀ H', Nx H' → ∃ m', m' < m ∧ W (i + 1) m' H') ∧ ∀ x H', (Itr lo n).yld i H x H' → g x (wipe σ vs) H' fun σ2 H2 => wipe σ2 vs = wipe σ vs ∧ tt σ2 H2 fun b H3 =>
        if b = true then te σ2 H3 fun y H4 => ∃ acc, H4 D = some (.lst acc) ∧ acc.length < sizeLine ∧ Nx (upd H4 D (.lst (acc ++ [y]))) else Nx H3) := by
  have few2 : 60000 < sizeLine := by decide
  refine lc_it (walk_range (lo := lo) (n := n)) (fun i H5 => Same H H5 ∧ H5 D = some (.lst (((List.range i).filter p).map f)) ∧ i ≤ n) ⟨sameUpd nD, by rw [upd_same]; rfl, Nat.zero_le _⟩ (fun _ _ _ _ => trivial) ?_ ?_
  · rintro i y H5 H6 hi ⟨s5, hD, _⟩ ⟨rfl, rfl⟩
    refine step i hi H6 s5 _ _ (fun px H7 s7 => ⟨_, s7 _ _ hD, ?_, fun b o e => ?_, ?_, hi⟩) fun px H7 s7 => ⟨s5.trans s7, ?_, hi⟩
    · rw [List.length_map]
      refine Nat.lt_of_le_of_lt (List.length_filter_le _ _) ?_
      rw [List.length_range]
      omega
    · rw [upd_ne (ne_of_none e nD)]
      exact s7 _ _ (s5 _ _ e)
    · rw [upd_same, List.range_succ, List.filter_append, List.filter_cons, px, List.map_append]
      rfl
    · rw [s7 _ _ hD, List.range_succ, List.filter_append, List.filter_cons, px]
      simp
  · rintro H5 ⟨s5, hD, _⟩
    exact hd H5 s5 hD
end L2
namespace Wd
open PySem PySem.Spec PyProof.Rows PySem.ErrX L2
theorem ints_dp {K : PySem.W.Frag} {H : Hp} : ∀ ns : List Int, DpAll K H (ns.map V.int) (ns.map PyData.int)
  | [] => .nil
  | n :: ns => .cons (.int n) (ints_dp ns)
theorem lay_ints : ∀ ns : List Int, PyData.canLayAll0 (ns.map PyData.int) = true
  | [] => rfl
  | n :: ns => by
    rw [List.map_cons]
    simp [PyData.canLayAll0, PyData.canLay0, lay_ints ns]
theorem depth_ints : ∀ ns : List Int, PyData.depthAll (ns.map PyData.int) = 0
  | [] => rfl
  | n :: ns => by
    rw [List.map_cons]
    simp [PyData.depthAll, PyData.depth, depth_ints ns]
theorem shaped_ints (ns : List Int) : SeqAt.shaped (.list (ns.map PyData.int)) = true := by
  unfold SeqAt.shaped
  have e : (PyData.list (ns.map .int)).canLay0 = true := lay_ints ns
  rw [e]
  simp [PyData.depth, depth_ints ns]
theorem eqv_ints : ∀ as bs : List Int, PyData.eqv (.list (as.map .int)) (.list (bs.map .int)) = decide (as = bs) := by
  have go : ∀ as bs : List Int, PyData.eqvAll (as.map PyData.int) (bs.map PyData.int) = decide (as = bs) := by
    intro as
    induction as with
    | nil => intro bs; cases bs <;> simp [PyData.eqvAll]
    | cons a as ih =>
      intro bs
      cases bs with
      | nil => simp [PyData.eqvAll]
      | cons b bs =>
        rw [List.map_cons, List.map_cons]
        have e : (a == b) = decide (a = b) := by by_cases q : a = b <;> simp [q]
        simp [PyData.eqvAll, PyData.eqv, ih bs, e]
  intro as bs
  simp [PyData.eqv, go as bs]
theorem cutS_mid (z : Str) (i n : Nat) (h : i ≤ z.length) : (cutS z (some (i : Int)) (some ((i : Int) + (n : Int)))).cps.toList = (z.cps.toList.drop i).take n := by
  have e : ((i : Int) + (n : Int)) = ((i + n : Nat) : Int) := by omega
  rw [e]
  show ((z.cps.toList.drop (HT.sIx z.length 0 (some (i : Int)))).take (HT.sIx z.length z.length (some ((i + n : Nat) : Int)) - HT.sIx z.length 0 (some (i : Int)))) = _
  rw [HT.sIx_nat, HT.sIx_nat, Nat.min_eq_left h]
  have lz : z.cps.toList.length = z.length := Array.length_toList
  by_cases q : i + n ≤ z.length
  · rw [Nat.min_eq_left q, Nat.add_sub_cancel_left]
  · rw [Nat.min_eq_right (by omega), List.take_of_length_le (by rw [List.length_drop, lz]; exact Nat.le_refl _), List.take_of_length_le (by rw [List.length_drop, lz]; omega)]
theorem str_ext {a b : Str} (h : a.cps.toList = b.cps.toList) : a = b := by
  cases a
  cases b
  simp only at h
  congr
  exact Array.toList_inj.mp h
/-- where a piece stands, by going through all places -/
theorem places_nil (z p : Str) (h : 1 ≤ p.length) : decide ((((List.range z.length).filter fun (i : Nat) => decide (cutS z (some (i : Int)) (some ((i : Int) + (p.length : Int))) = p)).map fun (i : Nat) => (i : Int)) = []) = !hasSub z p := by
  have lz : z.cps.toList.length = z.length := Array.length_toList
  have lp : p.cps.toList.length = p.length := Array.length_toList
  cases q : hasSub z p with
  | true =>
    obtain ⟨i, h1, h2⟩ := (hasSub_iff z p).mp q
    apply decide_eq_false
    rw [List.map_eq_nil_iff, List.filter_eq_nil_iff]
    intro no
    refine no i (List.mem_range.mpr (by omega)) (decide_eq_true (str_ext ?_))
    rw [cutS_mid z i p.length (by omega), h2]
  | false =>
    apply decide_eq_true
    rw [List.map_eq_nil_iff, List.filter_eq_nil_iff]
    intro i hi yes
    have hi' := List.mem_range.mp hi
    have e : (cutS z (some (i : Int)) (some ((i : Int) + (p.length : Int)))).cps.toList = p.cps.toList := congrArg (fun y : Str => y.cps.toList) (of_decide_eq_true yes)
    rw [cutS_mid z i p.length (by omega)] at e
    have l := congrArg List.length e
    rw [List.length_take, List.length_drop, lz, lp] at l
    have : hasSub z p = true := (hasSub_iff z p).mpr ⟨i, by omega, e⟩
    rw [q] at this
    cases this
/-- whether a piece stands in a line, as a law finds it -/
def spIsIn : Sp := fun vs H Q _ => ∃ p z, vs = [.str p, .str z] ∧ 1 ≤ p.length ∧ p.length ≤ 1000 ∧ z.length ≤ 1000 ∧ ∀ H', Same H H' → Q (.bl (hasSub z p)) H'
end Wd
namespace L2
open PySem PySem.Spec PyProof.Rows PySem.ErrX
theorem Df.callG {X : Cx} {x : Str} {st : Stmt} {ps : List Str} {f : Addr} {fd : FuncData} {k : Nat} {sp : Sp} {e : Expr} {es : List Expr} {t : TA} {p pos : Pos} (D : Df X.K X.mg x st ps f fd) (G : FnG X.prog X.w X.K X.mg X.base CX0 k f fd ps sp) (hgd : X.A.guards = some []) (hr : Room k X.A)
    (ha : PA X (e :: es) t) (hg : Gl X x := by rfl) (hdb : (x == ("__debug__" : Str)) = false := by decide) (he : starEach (e :: es) X.env = (false, eval e X.env) :: starEach es X.env := by rfl) (hpl : (backTo pos (starEach es X.env)).any (·.1) = false := by rfl) :
    PE X (.Call (.Name x p) (e :: es) [] pos) (tCall sp [] E0 t) := pe_callG G hgd hr hg D.g D.F.kp D.b .nil pass0 ha hdb he hpl
end L2
namespace Wd
open PySem PySem.Spec PyProof.Rows PySem.ErrX L2
def tPre : List Lit → TA → TA
  | [], t => t
  | l :: ls, t => tCons (tLit l) (tPre ls t)
theorem pre_ok : ∀ (ls : List Lit), litsFew ls = true → ∀ {t : TA} {σ : L2.St} {H : Hp} {Q : List V → Hp → Prop}, (∀ xs H', Same H H' → LitsAt H' xs ls → t σ H' fun ys H2 => Q (xs ++ ys) H2) → tPre ls t σ H Q
  | [], _, t, σ, H, Q, q => q [] H (fun _ _ e => e) .nil
  | l :: ls, f, t, σ, H, Q, q => by
    have f' : (litFew l && litsFew ls) = true := f
    rw [Bool.and_eq_true] at f'
    show tLit l σ H _
    refine lit_ok l f'.1 fun v H1 s1 h1 => ?_
    show tPre ls t σ H1 _
    refine pre_ok ls f'.2 fun xs H2 s2 h2 => ?_
    exact q _ _ (s1.trans s2) (.cons (h1.same s2) h2)
/-- [kind, text] is what was told -/
theorem told_same {K : PySem.W.Frag} {H : Hp} {r p : Addr} {kind U : Str} {Q : VK} (hr : H r = some (.lst [.str kind, .str U])) (hp : H p = some (.lst [.str kind, .str U])) (o1 : PyData.strOk kind = true) (o2 : PyData.strOk U = true) (q : Q (.bl false) H) : rNeD K (.ref r) (.ref p) H Q := by
  have oks : ∀ x ∈ [kind, U], PyData.strOk x = true := fun x hx => by
    rcases List.mem_cons.mp hx with e | e
    · rw [e]; exact o1
    · rw [List.mem_singleton.mp e]; exact o2
  refine ⟨.list ([kind, U].map .str), .list ([kind, U].map .str), .lst (.inl (.inl hr)) (strs_dp [kind, U]), .lst (.inl (.inl hp)) (strs_dp [kind, U]), shaped_strs oks, shaped_strs oks, ?_⟩
  rw [eqv_strs, decide_eq_true rfl]
  exact q
end Wd
namespace L2
open PySem
theorem Room.u200 {k : Nat} {A : Around} (hr : Room k A) : A.units + 200 < cLine := by
  have := hr.un
  omega
end L2
namespace Wd
open PySem PySem.Spec PyProof.Rows PySem.ErrX L2
/-- a for, its walk in hand -/
def ForW (J : It) (g : TG) (tb : TS) (D : Ends) (σ : L2.St) (H : Hp) : Prop := ∃ W : Nat → Nat → L2.St → Hp → Prop, (∃ m, W 0 m σ H) ∧ ∀ i m σ H, W i m σ H →
      (J.stop i H ∧ D.nx σ H) ∨ (J.go i H ∧ ∃ N : L2.St → Hp → Prop, (∀ σ' H', N σ' H' → ∃ m', m' < m ∧ W (i + 1) m' σ' H') ∧ ∀ x H', J.yld i H x H' → g x σ H' fun σ2 H2 => tb { D with nx := N, ct := N, bk := D.nx } σ2 H2)
theorem for_itW {J : It} {n : Nat} {G : Hp → Prop} {Y : Nat → Hp → V → Hp → Prop} (w : Walk J n G Y) {g : TG} {tb : TS} {uD bk ct : L2.St → Hp → Prop} {rt : VK} {σ : L2.St} {H : Hp} (Pv : Nat → L2.St → Hp → Prop) (h0 : Pv 0 σ H) (hG : ∀ i σ H, i ≤ n → Pv i σ H → G H)
    (hs : ∀ i x σ H H', i < n → Pv i σ H → Y i H x H' → g x σ H' fun σ2 H2 => tb ⟨Pv (i + 1), rt, uD, Pv (i + 1)⟩ σ2 H2) (hd : ∀ σ H, Pv n σ H → uD σ H) : ForW J g tb ⟨uD, rt, bk, ct⟩ σ H := for_it (D := ⟨uD, rt, bk, ct⟩) w Pv h0 hG hs hd
/-- a for over written values, in whose turns nothing but slots changes -/
theorem for_lits {K : PySem.W.Frag} {p : Addr} {xs : List V} {ls : List Lit} {H1 : Hp} {g : TG} {tb : TS} {uD bk ct : L2.St → Hp → Prop} {rt : VK} {σ : L2.St} (hp : H1 p = some (.lst xs)) (its : LitsAt H1 xs ls) (S : L2.St → Prop) (start : S σ)
    (step : ∀ x l, l ∈ ls → ∀ σ' H', S σ' → Same H1 H' → LitAt H' x l → ∀ NN : L2.St → Hp → Prop, (∀ σ2 H2, S σ2 → Same H' H2 → NN σ2 H2) → g x σ' H' fun σ2 H2 => tb ⟨NN, rt, uD, NN⟩ σ2 H2)
    (fin : ∀ σ' H', S σ' → Same H1 H' → uD σ' H') : ForW (Itl K p) g tb ⟨uD, rt, bk, ct⟩ σ H1 := by
  refine for_itW (walk_list (K := K) (a := p) (xs := xs)) (fun i σ H5 => S σ ∧ Same H1 H5) ⟨start, fun _ _ e => e⟩ (fun i σ H5 _ z => .inl (.inl (z.2 _ _ hp))) ?_ fun σ' H' z => fin σ' H' z.1 z.2
  rintro i x σ' H5 H6 hi ⟨sh, s5⟩ ⟨rfl, hx⟩
  obtain ⟨l, hl, q⟩ := its.get hx
  exact step x l (List.mem_of_getElem? hl) σ' H6 sh s5 (q.same s5) _ fun σ2 H2 z1 z2 => ⟨z1, s5.trans z2⟩
end Wd
namespace Wd
open PySem PySem.Spec PyProof.Rows PySem.ErrX L2
/-! ### the head of a reading brought out -/
theorem seq_for_list {K : PySem.W.Frag} {te : TE} {g : TG} {tb u : TS} {D : Ends} {σ : L2.St} {H : Hp} (h : te σ H fun x H1 => ∃ a, x = .ref a ∧ (∃ xs, SqL K H1 a xs) ∧ ForW (Itl K a) g tb ⟨u D, D.rt, D.bk, D.ct⟩ σ H1) : tSeq (tFor (iList K te) g tb) u D σ H := h
theorem seq_for_tup {K : PySem.W.Frag} {te : TE} {g : TG} {tb u : TS} {D : Ends} {σ : L2.St} {H : Hp} (h : te σ H fun x H1 => ∃ a, x = .ref a ∧ (∃ xs, SqT K H1 a xs) ∧ ForW (Itt K a) g tb ⟨u D, D.rt, D.bk, D.ct⟩ σ H1) : tSeq (tFor (iTup K te) g tb) u D σ H := h
theorem seq_for {wi : TI} {g : TG} {tb u : TS} {D : Ends} {σ : L2.St} {H : Hp} (h : wi σ H fun J H1 => ForW J g tb ⟨u D, D.rt, D.bk, D.ct⟩ σ H1) : tSeq (tFor wi g tb) u D σ H := h
theorem seq_set {te : TE} {i : Nat} {u : TS} {D : Ends} {σ : L2.St} {H : Hp} (h : te σ H fun x H1 => u D (σ.set i (some x)) H1) : tSeq (tAsg te (gName i)) u D σ H := h
theorem seq_if {c : TT} {t1 t2 u : TS} {D : Ends} {σ : L2.St} {H : Hp} (h : c σ H fun b H1 => if b = true then t1 { D with nx := u D } σ H1 else t2 { D with nx := u D } σ H1) : tSeq (tIfS c t1 t2) u D σ H := h
end Wd
namespace Wd
open PySem PySem.Spec PyProof.Rows PySem.ErrX L2
theorem lit_at (l : Lit) {te : TE} {σ : L2.St} {H : Hp} {Q : VK} (few : litFew l = true) (e : tLit l = te) (h : ∀ v H', Same H H' → LitAt H' v l → Q v H') : te σ H Q := e ▸ lit_ok l few h
theorem pre_at (ls : List Lit) {ta t : TA} {σ : L2.St} {H : Hp} {Q : List V → Hp → Prop} (few : litsFew ls = true) (e : tPre ls t = ta) (h : ∀ xs H', Same H H' → LitsAt H' xs ls → t σ H' fun ys H2 => Q (xs ++ ys) H2) : ta σ H Q := e ▸ pre_ok ls few h
theorem tlst_pre {ta : TA} {σ : L2.St} {H : Hp} {Q : VK} (h : ta σ H fun xs H1 => xs.length ≤ sizeLine ∧ ∀ p, H1 p = none → Q (.ref p) (upd H1 p (.lst xs))) : tLst ta σ H Q := h
theorem next_at {uD bk ct : L2.St → Hp → Prop} {rt : VK} {σ : L2.St} {H : Hp} (h : uD σ H) : tNext ⟨uD, rt, bk, ct⟩ σ H := h
end Wd

namespace L2
open PySem PySem.Spec PyProof.Rows PySem.ErrX
theorem sub_of_kit {K : PySem.W.Frag} {C : Addr} {t : Value} {b : Bool} (ne : (t == Value.ref C) = false) (h : PySem.W.kitOne K t (.ref C) = some b) : PySem.W.subIn K t (.ref C) = some b := by
  unfold PySem.W.kitOne at h
  rw [if_neg (by rw [ne]; decide)] at h
  have h' : (if ((PySem.W.clsIn K C).isSome && PySem.W.typeIn K (.ref C) == some (.type "type")) = true then PySem.W.subIn K t (.ref C) else none) = some b := h
  split at h'
  · exact h'
  · cases h'
theorem sub_of_kitT {K : PySem.W.Frag} {C : Addr} {T : String} {b : Bool} (h : PySem.W.kitOne K (.type T) (.ref C) = some b) : PySem.W.subIn K (.type T) (.ref C) = some b := sub_of_kit (by
  cases z : (Value.type T == Value.ref C) with
  | false => rfl
  | true => exact nomatch eq_of_beq z) h
end L2
namespace Wd
open PySem PySem.Spec PyProof.Rows PySem.ErrX L2
theorem FamObj.but {K : PySem.W.Frag} {C p : Addr} {H H' : Hp} {q : Addr} {s : Str} {ws : List Str} (o : FamObj K C H q s ws) (hp : Pool H p) (b : But p H H') : FamObj K C H' q s ws := by
  obtain ⟨dx, t, h1, h2⟩ := o
  obtain ⟨g, m, hp⟩ := hp
  refine ⟨dx, t, b _ _ (fun z => ?_) h1, ?_⟩
  · rw [z, hp] at h1
    cases h1
  · rcases h2 with (h2 | h2) | h2
    · refine .inl (.inl (b _ _ (fun z => ?_) h2))
      rw [z, hp] at h2
      cases h2
    · obtain ⟨o, h2⟩ := h2
      refine .inl (.inr ⟨o, b _ _ (fun z => ?_) h2⟩)
      rw [z, hp] at h2
      cases h2
    · exact .inr h2
end Wd

namespace Wd
open PySem PySem.Spec PyProof.Rows PySem.ErrX L2
theorem strs_neD {K : PySem.W.Frag} {H : Hp} {a b : Addr} {xs ys : List Str} {Q : VK} (ha : H a = some (.lst (xs.map V.str))) (hb : H b = some (.lst (ys.map V.str))) (ox : ∀ x ∈ xs, PyData.strOk x = true) (oy : ∀ x ∈ ys, PyData.strOk x = true) (q : Q (.bl (!decide (xs = ys))) H) : rNeD K (.ref a) (.ref b) H Q := by
  refine ⟨.list (xs.map .str), .list (ys.map .str), .lst (.inl (.inl ha)) (strs_dp xs), .lst (.inl (.inl hb)) (strs_dp ys), shaped_strs ox, shaped_strs oy, ?_⟩
  rw [eqv_strs]
  exact q
theorem strs_eqD {K : PySem.W.Frag} {H : Hp} {a b : Addr} {xs ys : List Str} {Q : VK} (ha : H a = some (.lst (xs.map V.str))) (hb : H b = some (.lst (ys.map V.str))) (ox : ∀ x ∈ xs, PyData.strOk x = true) (oy : ∀ x ∈ ys, PyData.strOk x = true) (q : Q (.bl (decide (xs = ys))) H) : rEqD K (.ref a) (.ref b) H Q := by
  refine ⟨.list (xs.map .str), .list (ys.map .str), .lst (.inl (.inl ha)) (strs_dp xs), .lst (.inl (.inl hb)) (strs_dp ys), shaped_strs ox, shaped_strs oy, ?_⟩
  rw [eqv_strs]
  exact q
theorem FamObj.prop {K : PySem.W.Frag} {C : Addr} {H : Hp} {q : Addr} {s : Str} {ws : List Str} {sp : Sp} {Q : VK} {E : XK} (o : FamObj K C H q s ws) (h : sp [.ref q] H Q E) : ∃ a dx fs, V.ref q = .ref a ∧ H a = some (.ins C dx fs) ∧ sp (.ref a :: []) H Q E := let ⟨dx, _, hq, _⟩ := o; ⟨q, dx, _, rfl, hq, h⟩
theorem FamObj.meth {K : PySem.W.Frag} {C : Addr} {H : Hp} {q : Addr} {s : Str} {ws : List Str} {m : Str} {R : Prop} (o : FamObj K C H q s ws) (h1 : (m == ("_signs" : Str)) = false) (h2 : (m == ("_pieces" : Str)) = false) (h : R) : ∃ (a dx : Addr) (fs : List (Str × V)), V.ref q = .ref a ∧ H a = some (.ins C dx fs) ∧ fs.lookup m = none ∧ R := let ⟨dx, t, hq, _⟩ := o; ⟨q, dx, _, rfl, hq, by unfold ff; rw [List.lookup_cons, h1, List.lookup_cons, h2]; rfl, h⟩
theorem GoodF.w3 {s : Str} {ws : List Str} (g : GoodF s ws) : ∀ z ∈ ws, z.length ≤ 3 ∧ low z = true := fun z hz => ⟨(g.words.2.1 z hz).2.1, (g.words.2.1 z hz).2.2.1⟩
theorem GoodF.oks {s : Str} {ws : List Str} (g : GoodF s ws) : ∀ z ∈ ws, PyData.strOk z = true := fun z hz => low_ok (g.w3 z hz).2
/-- two families side by side -/
theorem FamObj.eqFam {K : PySem.W.Frag} {C : Addr} {H : Hp} {q q2 : Addr} {s s2 : Str} {ws ws2 : List Str} {Q : VK} {E : XK} (o : FamObj K C H q s ws) (g : GoodF s ws) (o2 : FamObj K C H q2 s2 ws2) (g2 : GoodF s2 ws2) (cl : Cls K C) (is : Iso K C) (h : ∀ H', Same H H' → Q (.bl (decide (s = s2) && decide (ws = ws2))) H') : rOwnI K C (spFamEq K C) E (.ref q) (.ref q2) H Q := by
  obtain ⟨dx, t, hq, ht⟩ := id o
  obtain ⟨dx2, t2, hq2, ht2⟩ := id o2
  exact ⟨q, dx, _, _, rfl, hq, .base (.ins hq2 cl is.ha is.hn is.ht is.hm), .inl rfl, q, s, ws, .ref q2, rfl, o, g.w3, .inl ⟨q2, s2, ws2, rfl, o2, g2.w3, h⟩⟩
theorem FamObj.eqList {K : PySem.W.Frag} {C : Addr} {H : Hp} {q l : Addr} {s : Str} {ws : List Str} {xs : List V} {Q : VK} {E : XK} (o : FamObj K C H q s ws) (g : GoodF s ws) (hl : H l = some (.lst xs)) (kt : PySem.W.kitOne K (.type "list") (.ref C) = some false) (h : ∀ H', Same H H' → Q (.bl false) H') : rOwnI K C (spFamEq K C) E (.ref q) (.ref l) H Q := by
  obtain ⟨dx, t, hq, ht⟩ := id o
  exact ⟨q, dx, _, _, rfl, hq, .base (.lst hl), .inr (sub_of_kitT kt), q, s, ws, .ref l, rfl, o, g.w3, .inr ⟨_, .base (.lst hl), kt, h⟩⟩
/-- a family made of good signs and a list of good pieces -/
theorem fam_made {K : PySem.W.Frag} {C cS cP : Addr} {H : Hp} {s : Str} {L : Addr} {ws : List Str} {R : Hp → Prop} {E : XK} {r dr : Addr} (gf : GoodF s ws) (hL : H L = some (.lst (ws.map V.str))) (nr : H r = none) (nd : H dr = none) (ne : dr ≠ r) (q : ∀ H', Same H H' → FamObj K C H' r s ws → R H') :
    spFamInit K C cS cP (.ref r :: ([.str s, .ref L] ++ [])) (upd (upd H dr (.own r)) r (.ins C dr [])) (fun v H2 => v = .non ∧ R H2) E := by
  have sm : Same H (upd (upd H dr (.own r)) r (.ins C dr [])) := fun b o e => by
    rw [upd_ne (ne_of_none e nr), upd_ne (ne_of_none e nd)]
    exact e
  have kinds : ∀ y ∈ ws.map V.str, Kind K (upd (upd H dr (.own r)) r (.ins C dr [])) y := fun y hy => by
    obtain ⟨p, hp, rfl⟩ := List.mem_map.mp hy
    have := (gf.w3 p hp).1
    exact .str p (by omega)
  have few2 : (ws.map V.str).length ≤ 1000 := by
    rw [List.length_map]
    exact gf.few
  have lb2 : ListB K (upd (upd H dr (.own r)) r (.ins C dr [])) (piecesB s) (.ref L) true := by
    have z := ListB.of (f := piecesB s) (sm _ _ hL) few2 kinds
    rw [gf.pc] at z
    exact z
  have len3 := (asSigns_low gf.sg).2.2
  refine ⟨r, dr, .str s, .ref L, rfl, upd_same, .str s (by omega), fun e => (by rw [gf.sg] at e; cases e), fun s0 e0 _ => ?_⟩
  cases e0
  refine ⟨true, lb2, (fun e => nomatch e), fun _ t' ws' e1 e2 H' keep fo => ⟨rfl, ?_⟩⟩
  cases e1
  have e3 := e2
  rw [sm _ _ hL] at e3
  have e4 : ws.map V.str = ws'.map V.str := by injection (Option.some.inj e3)
  have e5 : ws = ws' := List.map_inj_right (fun x y e => by injection e) |>.mp e4
  rw [← e5] at fo
  exact q H' (fun b o e => keep b o (fun z => by rw [z, nr] at e; cases e) (sm _ _ e)) fo
theorem GoodF.of {s : Str} {ws : List Str} (sg : asSigns (.str s) = true) (few : ws.length ≤ 8) (al : ∀ z ∈ ws, wordB s (.str z) = true) (nd : ws.Nodup) : GoodF s ws := by
  refine ⟨sg, ?_⟩
  unfold piecesB
  rw [Bool.and_eq_true, Bool.and_eq_true, nodup_strs]
  refine ⟨decide_eq_true (by rw [List.length_map]; exact few), List.all_eq_true.mpr fun x hx => ?_, decide_eq_true nd⟩
  obtain ⟨z, hz, rfl⟩ := List.mem_map.mp hx
  exact al z hz
theorem GoodF.wordB {s : Str} {ws : List Str} (g : GoodF s ws) : ∀ z ∈ ws, Wd.wordB s (.str z) = true := fun z hz => by
  have p := g.pc
  unfold piecesB at p
  rw [Bool.and_eq_true, Bool.and_eq_true] at p
  exact List.all_eq_true.mp p.2.1 _ (List.mem_map.mpr ⟨z, hz, rfl⟩)
theorem GoodF.perm {s : Str} {ws ys : List Str} (g : GoodF s ws) (pm : ys.Perm ws) : GoodF s ys :=
  .of g.sg (by rw [pm.length_eq]; exact g.words.1) (fun z hz => g.wordB z (pm.mem_iff.mp hz)) (pm.nodup_iff.mpr g.words.2.2)
theorem GoodF.sub {s : Str} {ws ys : List Str} (g : GoodF s ws) (sb : ys.Sublist ws) : GoodF s ys :=
  .of g.sg (Nat.le_trans sb.length_le g.words.1) (fun z hz => g.wordB z (sb.subset hz)) (g.words.2.2.sublist sb)
theorem over_app {s t z : Str} (h : over s z = true) : over (s ++ t) z = true := by
  unfold over at h ⊢
  refine List.all_eq_true.mpr fun c hc => decide_eq_true ?_
  have := of_decide_eq_true (List.all_eq_true.mp h c hc)
  show c ∈ (s.cps ++ t.cps).toList
  rw [Array.toList_append]
  exact List.mem_append_left _ this
theorem GoodF.more {s t : Str} {ws : List Str} (g : GoodF s ws) (sg : asSigns (.str (s ++ t)) = true) : GoodF (s ++ t) ws :=
  .of sg g.words.1 (fun z hz => by
    have w := g.wordB z hz
    have w' : (upTo 3 (.str z) && over s z) = true := w
    rw [Bool.and_eq_true] at w'
    show (upTo 3 (.str z) && over (s ++ t) z) = true
    rw [w'.1, over_app w'.2]
    rfl) g.words.2.2
theorem over_low {s z : Str} (hs : low s = true) (h : over s z = true) : low z = true := by
  unfold over at h
  refine List.all_eq_true.mpr fun c hc => ?_
  exact List.all_eq_true.mp hs c (of_decide_eq_true (List.all_eq_true.mp h c hc))
theorem sub_filter {ws cs : List Str} (h : cs.Sublist ws) : ws.Nodup → ws.filter (fun p => decide (p ∈ cs)) = cs := by
  induction h with
  | slnil => intro _; rfl
  | @cons l1 l2 a h ih =>
    intro nd
    have nd' := List.nodup_cons.mp nd
    rw [List.filter_cons, if_neg (by
      intro z
      exact nd'.1 (h.subset (of_decide_eq_true z)))]
    exact ih nd'.2
  | @cons_cons l1 l2 a h ih =>
    intro nd
    have nd' := List.nodup_cons.mp nd
    rw [List.filter_cons, if_pos (decide_eq_true List.mem_cons_self)]
    congr 1
    rw [← ih nd'.2]
    refine List.filter_congr fun x hx => ?_
    rw [ih nd'.2]
    apply decide_eq_decide.mpr
    rw [List.mem_cons]
    exact ⟨fun z => z.resolve_left fun e => nd'.1 (e ▸ hx), .inr⟩
theorem isPiece_mem {ws : List Str} {z : Str} (h : z ∈ ws) : isPiece ws (.str z) = true := decide_eq_true h
theorem rev_ne {ws : List Str} (nd : ws.Nodup) (l : 1 < ws.length) : ws ≠ ws.reverse := by
  intro e
  match ws, nd, l with
  | a :: b :: t, nd, _ =>
    have e0 : (a :: b :: t)[0]? = (a :: b :: t).reverse[0]? := by rw [← e]
    rw [List.getElem?_reverse (by simp)] at e0
    have e1 : (a :: b :: t)[(a :: b :: t).length - 1 - 0]? = some a := by rw [← e0]; rfl
    have e2 : (a :: b :: t)[t.length + 1]? = some a := by simpa using e1
    rw [List.getElem?_cons_succ] at e2
    exact (List.nodup_cons.mp nd).1 (List.mem_of_getElem? e2)
end Wd
namespace Wd
open PySem PySem.Spec PyProof.Rows PySem.ErrX L2
theorem same_neD {K : PySem.W.Frag} {H : Hp} {a b : Addr} {xs ys : List Str} {Q : VK} (ha : H a = some (.lst (xs.map V.str))) (hb : H b = some (.lst (ys.map V.str))) (ox : ∀ x ∈ xs, PyData.strOk x = true) (e : xs = ys) (q : Q (.bl false) H) : rNeD K (.ref a) (.ref b) H Q := by
  subst e
  refine strs_neD ha hb ox ox ?_
  rw [decide_eq_true rfl]
  exact q
theorem any_has (pc : Str) : ∀ zs : List Str, (!decide ((zs.filter fun z => hasSub z pc) = [])) = (zs.map V.str).any (hasV pc)
  | [] => rfl
  | z :: zs => by
    have ih := any_has pc zs
    have e : hasV pc (.str z) = hasSub z pc := rfl
    rw [List.map_cons, List.any_cons, e, List.filter_cons]
    cases hasSub z pc with
    | true => rfl
    | false => rw [if_neg Bool.false_ne_true, ih]; rfl
theorem last_for_list {K : PySem.W.Frag} {te : TE} {g : TG} {tb : TS} {D : Ends} {σ : L2.St} {H : Hp} (h : te σ H fun x H1 => ∃ a, x = .ref a ∧ (∃ xs, SqL K H1 a xs) ∧ ForW (Itl K a) g tb D σ H1) : tFor (iList K te) g tb D σ H := h
theorem last_if {c : TT} {t1 t2 : TS} {D : Ends} {σ : L2.St} {H : Hp} (h : c σ H fun b H1 => if b = true then t1 D σ H1 else t2 D σ H1) : tIfS c t1 t2 D σ H := h
theorem perm_strs {xs : List V} {cs : List Str} (p : xs.Perm (cs.map V.str)) : ∃ ys : List Str, xs = ys.map V.str ∧ ys.Perm cs := by
  refine ⟨xs.map txV, ?_, ?_⟩
  · rw [List.map_map]
    refine Eq.symm ((List.map_congr_left fun x hx => ?_).trans (List.map_id xs))
    obtain ⟨z, _, rfl⟩ := List.mem_map.mp (p.mem_iff.mp hx)
    rfl
  · have q := p.map txV
    rw [List.map_map] at q
    have e : cs.map (txV ∘ V.str) = cs := (List.map_congr_left fun x _ => rfl).trans (List.map_id cs)
    rw [e] at q
    exact q
end Wd
namespace Wd
open PySem PySem.Spec PyProof.Rows PySem.ErrX L2
/-- what a law asks of is_allowed, the answer in slot 12 -/
theorem t_allowed {K : PySem.W.Frag} {C cP : Addr} {D : Ends} {H : Hp} {σ : L2.St} {q D4 : Addr} {sg : Str} {ws cs : List Str} {x : V} {f : Bool} (h4 : σ[4]? = some (some (.ref q))) (h11 : σ[11]? = some (some (.ref D4))) (h8 : σ[8]? = some (some x)) (h12 : σ[12]? = some (some (.bl f))) (hf : allowedB sg ws cs x = f)
    (fo : FamObj K C H q sg ws) (few : ws.length ≤ 1000) (lb : ListB K H (choiceB ws) (.ref D4) true) (hD : H D4 = some (.lst (cs.map V.str))) (kd : Kind K H x) (nx : ∀ H', Same H H' → D.nx σ H') :
    tIfS (tTest (tOp rNe (tMeth C "is_allowed" (spFamAllowed K C cP) [] E0 (tVar 4) (tCons (tVar 11) (tCons (tVar 8) tNil))) (tVar 12))) (tRet (tC (.bl false))) tNext D σ H := by
  refine ⟨.ref q, h4, fo.meth (by decide) (by decide) ⟨.ref D4, h11, x, h8, q, sg, ws, .ref D4, x, true, rfl, fo, few, lb, kd, (fun z => nomatch z), fun _ t zs e1 e2 H' s' => ⟨.bl f, h12, rfl, _, rfl, ?_⟩⟩⟩
  cases e1
  rw [hD] at e2
  have e4 : cs.map V.str = zs.map V.str := by injection (Option.some.inj e2)
  have e5 : cs = zs := List.map_inj_right (fun x y e => by injection e) |>.mp e4
  subst e5
  rw [hf, show (!decide (V.bl f = V.bl f)) = false from by rw [decide_eq_true rfl]; rfl]
  exact iteF (nx H' s')
theorem over_filter (sg z : Str) : decide (((z.cps.toList.filter fun c => !decide (c ∈ sg.cps.toList)).map sing) = []) = over sg z := by
  unfold over
  rw [Bool.eq_iff_iff, decide_eq_true_eq, List.all_eq_true, List.map_eq_nil_iff, List.filter_eq_nil_iff]
  constructor
  · intro h c hc
    have := h c hc
    simpa using this
  · intro h c hc
    have := h c hc
    simpa using this
theorem rest_filter (z : Str) (ws cs : List Str) : decide (((ws.filter fun p => !decide (p ∈ cs)).filter fun p => hasSub z p) = []) = ws.all fun p => !hasSub z p || decide (p ∈ cs) := by
  rw [List.filter_filter, Bool.eq_iff_iff, decide_eq_true_eq, List.all_eq_true, List.filter_eq_nil_iff]
  constructor
  · intro h c hc
    have := h c hc
    revert this
    cases hasSub z c <;> cases decide (c ∈ cs) <;> decide
  · intro h c hc
    have := h c hc
    revert this
    cases hasSub z c <;> cases decide (c ∈ cs) <;> decide
theorem sing_okOf {z : Str} {c : Nat} (h : PyData.strOk z = true) (hc : c ∈ z.cps.toList) : PyData.strOk (Wd.sing c) = true := by
  unfold PyData.strOk at h ⊢
  rw [← Array.all_toList] at h ⊢
  exact List.all_eq_true.mpr fun x hx => by
    rw [List.mem_singleton.mp hx]
    exact List.all_eq_true.mp h c hc
theorem seq_drop {te : TE} {u : TS} {D : Ends} {σ : L2.St} {H : Hp} (h : te σ H fun _ H1 => u D σ H1) : tSeq (tDrop te) u D σ H := h
end Wd

namespace K11
open PySem PySem.Spec PyProof.Rows PySem.ErrX L2
/-! ### the text -/
def topS (i : Nat) : Stmt := PySem.Challenge.pw_surelyhas_k11_families_and_pieces.main.body.getD i (.Pass ⟨0, 0, 0, 0⟩)
abbrev i_is_piece : Nat := 0
abbrev i_is_choice : Nat := 1
abbrev i_is_line : Nat := 2
abbrev i_is_page : Nat := 3
abbrev i_is_signs : Nat := 4
abbrev i_is_word : Nat := 5
abbrev i_are_pieces : Nat := 6
abbrev i_is_over : Nat := 7
abbrev i__law_pool : Nat := 8
abbrev i__law_draw : Nat := 9
abbrev i__law_mixed : Nat := 10
abbrev i__law_line : Nat := 11
abbrev i__law_family : Nat := 12
abbrev i__law_called : Nat := 13
abbrev i__law_told : Nat := 14
abbrev i__law_is_in : Nat := 15
abbrev i__law_refused : Nat := 16
abbrev i_law : Nat := 17
abbrev i_Family___init__ : Nat := 18
abbrev i_Family___eq__ : Nat := 19
abbrev i_Family_signs : Nat := 20
abbrev i_Family_pieces : Nat := 21
abbrev i_Family_of : Nat := 22
abbrev i_Family_cut : Nat := 23
abbrev i_Family_is_allowed : Nat := 24
abbrev i_Family__check_choice : Nat := 25
abbrev e_HasError : Nat := 26
abbrev e_BadPage : Nat := 27
abbrev ei_BadPage : Nat := 28
abbrev e_BadPieces : Nat := 29
abbrev ei_BadPieces : Nat := 30
abbrev e_BadSigns : Nat := 31
abbrev ei_BadSigns : Nat := 32
abbrev k_Family : Nat := 33
abbrev pp_Family_signs : Nat := 34
abbrev pp_Family_pieces : Nat := 35
abbrev s_is_piece : Stmt := topS 6
abbrev s_is_choice : Stmt := topS 7
abbrev s_is_line : Stmt := topS 12
abbrev s_is_page : Stmt := topS 13
abbrev s_is_signs : Stmt := topS 14
abbrev s_is_word : Stmt := topS 15
abbrev s_are_pieces : Stmt := topS 19
abbrev s_is_over : Stmt := topS 20
abbrev s__law_pool : Stmt := topS 22
abbrev s__law_draw : Stmt := topS 23
abbrev s__law_mixed : Stmt := topS 24
abbrev s__law_line : Stmt := topS 25
abbrev s__law_family : Stmt := topS 26
abbrev s__law_called : Stmt := topS 27
abbrev s__law_told : Stmt := topS 28
abbrev s__law_is_in : Stmt := topS 29
abbrev s__law_refused : Stmt := topS 30
abbrev s_law : Stmt := topS 31
abbrev c_Family : Stmt := topS 18
abbrev m_Family___init__ : Stmt := inClass c_Family 0
abbrev m_Family___eq__ : Stmt := inClass c_Family 1
abbrev m_Family_signs : Stmt := inClass c_Family 2
abbrev m_Family_pieces : Stmt := inClass c_Family 3
abbrev m_Family_of : Stmt := inClass c_Family 4
abbrev m_Family_cut : Stmt := inClass c_Family 5
abbrev m_Family_is_allowed : Stmt := inClass c_Family 6
abbrev m_Family__check_choice : Stmt := inClass c_Family 7
abbrev N_is_piece : List Str := ["value", "pieces"]
theorem sc_is_piece : FnScope N_is_piece ["value", "pieces"] (defScope s_is_piece) := ⟨rfl, rfl, rfl, by decide +kernel, rfl, by decide +kernel, by decide +kernel⟩
abbrev N_is_choice : List Str := ["value", "pieces", "piece"]
theorem sc_is_choice : FnScope N_is_choice ["value", "pieces"] (defScope s_is_choice) := ⟨rfl, rfl, rfl, by decide +kernel, rfl, by decide +kernel, by decide +kernel⟩
abbrev N_is_line : List Str := ["value", "sign"]
theorem sc_is_line : FnScope N_is_line ["value"] (defScope s_is_line) := ⟨rfl, rfl, rfl, by decide +kernel, rfl, by decide +kernel, by decide +kernel⟩
abbrev N_is_page : List Str := ["value", "line"]
theorem sc_is_page : FnScope N_is_page ["value"] (defScope s_is_page) := ⟨rfl, rfl, rfl, by decide +kernel, rfl, by decide +kernel, by decide +kernel⟩
abbrev N_is_signs : List Str := ["value"]
theorem sc_is_signs : FnScope N_is_signs ["value"] (defScope s_is_signs) := ⟨rfl, rfl, rfl, by decide +kernel, rfl, by decide +kernel, by decide +kernel⟩
abbrev N_is_word : List Str := ["value"]
theorem sc_is_word : FnScope N_is_word ["value"] (defScope s_is_word) := ⟨rfl, rfl, rfl, by decide +kernel, rfl, by decide +kernel, by decide +kernel⟩
abbrev N_are_pieces : List Str := ["value", "signs", "piece"]
theorem sc_are_pieces : FnScope N_are_pieces ["value", "signs"] (defScope s_are_pieces) := ⟨rfl, rfl, rfl, by decide +kernel, rfl, by decide +kernel, by decide +kernel⟩
abbrev N_is_over : List Str := ["line", "signs", "sign"]
theorem sc_is_over : FnScope N_is_over ["line", "signs"] (defScope s_is_over) := ⟨rfl, rfl, rfl, by decide +kernel, rfl, by decide +kernel, by decide +kernel⟩
abbrev N__law_pool : List Str := ["_law_script", "_law_k", "_law_cell", "_law_great", "_law_small", "_law_mixed_here"]
theorem sc__law_pool : FnScope N__law_pool ["_law_script", "_law_k"] (defScope s__law_pool) := ⟨rfl, rfl, rfl, by decide +kernel, rfl, by decide +kernel, by decide +kernel⟩
abbrev N__law_draw : List Str := ["_law_pool_here", "_law_many", "_law_found"]
theorem sc__law_draw : FnScope N__law_draw ["_law_pool_here", "_law_many"] (defScope s__law_draw) := ⟨rfl, rfl, rfl, by decide +kernel, rfl, by decide +kernel, by decide +kernel⟩
abbrev N__law_mixed : List Str := ["_law_pool_here", "_law_things", "_law_left", "_law_found", "_law_thing", "_law_at"]
theorem sc__law_mixed : FnScope N__law_mixed ["_law_pool_here", "_law_things"] (defScope s__law_mixed) := ⟨rfl, rfl, rfl, by decide +kernel, rfl, by decide +kernel, by decide +kernel⟩
abbrev N__law_line : List Str := ["_law_pool_here", "_law_signs", "_law_most", "_law_turn"]
theorem sc__law_line : FnScope N__law_line ["_law_pool_here", "_law_signs", "_law_most"] (defScope s__law_line) := ⟨rfl, rfl, rfl, by decide +kernel, rfl, by decide +kernel, by decide +kernel⟩
abbrev N__law_family : List Str := ["_law_pool_here", "_law_signs", "_law_most", "_law_words", "_law_sign", "_law_one", "_law_other"]
theorem sc__law_family : FnScope N__law_family ["_law_pool_here", "_law_signs", "_law_most"] (defScope s__law_family) := ⟨rfl, rfl, rfl, by decide +kernel, rfl, by decide +kernel, by decide +kernel⟩
abbrev N__law_called : List Str := ["_law_door", "_law_one", "_law_two"]
theorem sc__law_called : FnScope N__law_called ["_law_door", "_law_one", "_law_two"] (defScope s__law_called) := ⟨rfl, rfl, rfl, by decide +kernel, rfl, by decide +kernel, by decide +kernel⟩
abbrev N__law_told : List Str := ["_law_door", "_law_one", "_law_two", "e"]
theorem sc__law_told : FnScope N__law_told ["_law_door", "_law_one", "_law_two"] (defScope s__law_told) := ⟨rfl, rfl, rfl, by decide +kernel, rfl, by decide +kernel, by decide +kernel⟩
abbrev N__law_is_in : List Str := ["_law_piece", "_law_line_here", "_law_at"]
theorem sc__law_is_in : FnScope N__law_is_in ["_law_piece", "_law_line_here"] (defScope s__law_is_in) := ⟨rfl, rfl, rfl, by decide +kernel, rfl, by decide +kernel, by decide +kernel⟩
abbrev N__law_refused : List Str := ["_law_family_here", "_law_signs", "_law_odd", "_law_odds", "_law_nine", "_law_door"]
theorem sc__law_refused : FnScope N__law_refused ["_law_family_here", "_law_signs"] (defScope s__law_refused) := ⟨rfl, rfl, rfl, by decide +kernel, rfl, by decide +kernel, by decide +kernel⟩
abbrev N_law : List Str := ["_law_script", "_law_k", "_law_pool_here", "_law_signs", "_law_family_here", "_law_pieces", "_law_turn", "_law_page", "_law_line_here", "_law_due", "_law_piece", "_law_choice", "_law_fits", "_law_sign", "_law_rest"]
theorem sc_law : FnScope N_law ["_law_script"] (defScope s_law) := ⟨rfl, rfl, rfl, by decide +kernel, rfl, by decide +kernel, by decide +kernel⟩
abbrev N_Family___init__ : List Str := ["self", "signs", "pieces"]
theorem sc_Family___init__ : FnScope N_Family___init__ ["self", "signs", "pieces"] (defScope m_Family___init__) := ⟨rfl, rfl, rfl, by decide +kernel, rfl, by decide +kernel, by decide +kernel⟩
abbrev N_Family___eq__ : List Str := ["self", "other"]
theorem sc_Family___eq__ : FnScope N_Family___eq__ ["self", "other"] (defScope m_Family___eq__) := ⟨rfl, rfl, rfl, by decide +kernel, rfl, by decide +kernel, by decide +kernel⟩
abbrev N_Family_signs : List Str := ["self"]
theorem sc_Family_signs : FnScope N_Family_signs ["self"] (defScope m_Family_signs) := ⟨rfl, rfl, rfl, by decide +kernel, rfl, by decide +kernel, by decide +kernel⟩
abbrev N_Family_pieces : List Str := ["self"]
theorem sc_Family_pieces : FnScope N_Family_pieces ["self"] (defScope m_Family_pieces) := ⟨rfl, rfl, rfl, by decide +kernel, rfl, by decide +kernel, by decide +kernel⟩
abbrev N_Family_of : List Str := ["self", "page", "line", "piece"]
theorem sc_Family_of : FnScope N_Family_of ["self", "page"] (defScope m_Family_of) := ⟨rfl, rfl, rfl, by decide +kernel, rfl, by decide +kernel, by decide +kernel⟩
abbrev N_Family_cut : List Str := ["self", "choice", "piece"]
theorem sc_Family_cut : FnScope N_Family_cut ["self", "choice"] (defScope m_Family_cut) := ⟨rfl, rfl, rfl, by decide +kernel, rfl, by decide +kernel, by decide +kernel⟩
abbrev N_Family_is_allowed : List Str := ["self", "found", "line", "piece"]
theorem sc_Family_is_allowed : FnScope N_Family_is_allowed ["self", "found", "line"] (defScope m_Family_is_allowed) := ⟨rfl, rfl, rfl, by decide +kernel, rfl, by decide +kernel, by decide +kernel⟩
abbrev N_Family__check_choice : List Str := ["self", "value"]
theorem sc_Family__check_choice : FnScope N_Family__check_choice ["self", "value"] (defScope m_Family__check_choice) := ⟨rfl, rfl, rfl, by decide +kernel, rfl, by decide +kernel, by decide +kernel⟩
/-! ### what the top has left -/
structure Kit (K : PySem.W.Frag) (mg : Str → Option Value) (a : Nat → Addr) (d : Nat → FuncData) : Prop where
  c_LETTERS : ∃ t, mg "LETTERS" = some (.str "abcdefghijklmnopqrstuvwxyz" t)
  c_MOST_SIGNS : ∃ t, mg "MOST_SIGNS" = some (.int 6 t)
  c_MOST_IN_WORD : ∃ t, mg "MOST_IN_WORD" = some (.int 3 t)
  c_MOST_PIECES : ∃ t, mg "MOST_PIECES" = some (.int 8 t)
  z_abs : mg "abs" = none
  z_all : mg "all" = none
  z_any : mg "any" = none
  z_int : mg "int" = none
  z_isinstance : mg "isinstance" = none
  z_len : mg "len" = none
  z_list : mg "list" = none
  z_max : mg "max" = none
  z_min : mg "min" = none
  z_range : mg "range" = none
  z_repr : mg "repr" = none
  z_set : mg "set" = none
  z_sorted : mg "sorted" = none
  z_str : mg "str" = none
  z_sum : mg "sum" = none
  z_tuple : mg "tuple" = none
  E_BadPage : ErrTxt K mg "BadPage" "value" (a e_BadPage) (a ei_BadPage)
  y_BadPage : PySem.W.typeIn K (.ref (a e_BadPage)) = some (.type "type")
  E_BadPieces : ErrTxt K mg "BadPieces" "value" (a e_BadPieces) (a ei_BadPieces)
  y_BadPieces : PySem.W.typeIn K (.ref (a e_BadPieces)) = some (.type "type")
  E_BadSigns : ErrTxt K mg "BadSigns" "value" (a e_BadSigns) (a ei_BadSigns)
  y_BadSigns : PySem.W.typeIn K (.ref (a e_BadSigns)) = some (.type "type")
  x_BadPage_BadSigns : PySem.W.exmOne K (.ref (a e_BadPage)) (.ref (a e_BadSigns)) = some false
  x_BadPage_BadPieces : PySem.W.exmOne K (.ref (a e_BadPage)) (.ref (a e_BadPieces)) = some false
  x_BadPage_BadPage : PySem.W.exmOne K (.ref (a e_BadPage)) (.ref (a e_BadPage)) = some true
  x_BadPieces_BadSigns : PySem.W.exmOne K (.ref (a e_BadPieces)) (.ref (a e_BadSigns)) = some false
  x_BadPieces_BadPieces : PySem.W.exmOne K (.ref (a e_BadPieces)) (.ref (a e_BadPieces)) = some true
  x_BadPieces_BadPage : PySem.W.exmOne K (.ref (a e_BadPieces)) (.ref (a e_BadPage)) = some false
  x_BadSigns_BadSigns : PySem.W.exmOne K (.ref (a e_BadSigns)) (.ref (a e_BadSigns)) = some true
  x_BadSigns_BadPieces : PySem.W.exmOne K (.ref (a e_BadSigns)) (.ref (a e_BadPieces)) = some false
  x_BadSigns_BadPage : PySem.W.exmOne K (.ref (a e_BadSigns)) (.ref (a e_BadPage)) = some false
  G_Family : mg "Family" = some (.ref (a k_Family))
  Cl_Family : Cls K (a k_Family)
  Mk_Family : Mk K (a k_Family) (a i_Family___init__)
  n_Family__signs : NoAttr K (a k_Family) "_signs"
  n_Family__pieces : NoAttr K (a k_Family) "_pieces"
  Is_Family : Iso K (a k_Family)
  i_Family_NoneType : PySem.W.kitOne K (.type "NoneType") (.ref (a k_Family)) = some false
  i_Family_bool : PySem.W.kitOne K (.type "bool") (.ref (a k_Family)) = some false
  i_Family_int : PySem.W.kitOne K (.type "int") (.ref (a k_Family)) = some false
  i_Family_str : PySem.W.kitOne K (.type "str") (.ref (a k_Family)) = some false
  i_Family_list : PySem.W.kitOne K (.type "list") (.ref (a k_Family)) = some false
  i_Family_tuple : PySem.W.kitOne K (.type "tuple") (.ref (a k_Family)) = some false
  i_Family_dict : PySem.W.kitOne K (.type "dict") (.ref (a k_Family)) = some false
  D_is_piece : Df K mg "is_piece" s_is_piece ["value", "pieces"] (a i_is_piece) (d i_is_piece)
  D_is_choice : Df K mg "is_choice" s_is_choice ["value", "pieces"] (a i_is_choice) (d i_is_choice)
  D_is_line : Df K mg "is_line" s_is_line ["value"] (a i_is_line) (d i_is_line)
  D_is_page : Df K mg "is_page" s_is_page ["value"] (a i_is_page) (d i_is_page)
  D_is_signs : Df K mg "is_signs" s_is_signs ["value"] (a i_is_signs) (d i_is_signs)
  D_is_word : Df K mg "is_word" s_is_word ["value"] (a i_is_word) (d i_is_word)
  D_are_pieces : Df K mg "are_pieces" s_are_pieces ["value", "signs"] (a i_are_pieces) (d i_are_pieces)
  D_is_over : Df K mg "is_over" s_is_over ["line", "signs"] (a i_is_over) (d i_is_over)
  D__law_pool : Df K mg "_law_pool" s__law_pool ["_law_script", "_law_k"] (a i__law_pool) (d i__law_pool)
  D__law_draw : Df K mg "_law_draw" s__law_draw ["_law_pool_here", "_law_many"] (a i__law_draw) (d i__law_draw)
  D__law_mixed : Df K mg "_law_mixed" s__law_mixed ["_law_pool_here", "_law_things"] (a i__law_mixed) (d i__law_mixed)
  D__law_line : Df K mg "_law_line" s__law_line ["_law_pool_here", "_law_signs", "_law_most"] (a i__law_line) (d i__law_line)
  D__law_family : Df K mg "_law_family" s__law_family ["_law_pool_here", "_law_signs", "_law_most"] (a i__law_family) (d i__law_family)
  D__law_called : Df K mg "_law_called" s__law_called ["_law_door", "_law_one", "_law_two"] (a i__law_called) (d i__law_called)
  D__law_told : Df K mg "_law_told" s__law_told ["_law_door", "_law_one", "_law_two"] (a i__law_told) (d i__law_told)
  D__law_is_in : Df K mg "_law_is_in" s__law_is_in ["_law_piece", "_law_line_here"] (a i__law_is_in) (d i__law_is_in)
  D__law_refused : Df K mg "_law_refused" s__law_refused ["_law_family_here", "_law_signs"] (a i__law_refused) (d i__law_refused)
  D_law : Df K mg "law" s_law ["_law_script"] (a i_law) (d i_law)
  F_Family___init__ : Fun K "__init__" "Family.__init__" m_Family___init__ (a i_Family___init__) (d i_Family___init__)
  b_Family___init__ : L2.Binds K (d i_Family___init__) ["self", "signs", "pieces"] []
  F_Family___eq__ : Fun K "__eq__" "Family.__eq__" m_Family___eq__ (a i_Family___eq__) (d i_Family___eq__)
  b_Family___eq__ : L2.Binds K (d i_Family___eq__) ["self", "other"] []
  q_Family___eq__ : PySem.W.findIn K (.ref (a k_Family)) "__eq__" = some (some (.ref (a i_Family___eq__)))
  e_Family___eq__ : PySem.W.isFn K (.ref (a i_Family___eq__)) = true
  F_Family_signs : Fun K "signs" "Family.signs" m_Family_signs (a i_Family_signs) (d i_Family_signs)
  b_Family_signs : L2.Binds K (d i_Family_signs) ["self"] []
  P_Family_signs : PropOf K (a k_Family) "signs" (a pp_Family_signs) (a i_Family_signs)
  F_Family_pieces : Fun K "pieces" "Family.pieces" m_Family_pieces (a i_Family_pieces) (d i_Family_pieces)
  b_Family_pieces : L2.Binds K (d i_Family_pieces) ["self"] []
  P_Family_pieces : PropOf K (a k_Family) "pieces" (a pp_Family_pieces) (a i_Family_pieces)
  F_Family_of : Fun K "of" "Family.of" m_Family_of (a i_Family_of) (d i_Family_of)
  b_Family_of : L2.Binds K (d i_Family_of) ["self", "page"] []
  M_Family_of : Meth K (a k_Family) "of" (a i_Family_of)
  F_Family_cut : Fun K "cut" "Family.cut" m_Family_cut (a i_Family_cut) (d i_Family_cut)
  b_Family_cut : L2.Binds K (d i_Family_cut) ["self", "choice"] []
  M_Family_cut : Meth K (a k_Family) "cut" (a i_Family_cut)
  F_Family_is_allowed : Fun K "is_allowed" "Family.is_allowed" m_Family_is_allowed (a i_Family_is_allowed) (d i_Family_is_allowed)
  b_Family_is_allowed : L2.Binds K (d i_Family_is_allowed) ["self", "found", "line"] []
  M_Family_is_allowed : Meth K (a k_Family) "is_allowed" (a i_Family_is_allowed)
  F_Family__check_choice : Fun K "_check_choice" "Family._check_choice" m_Family__check_choice (a i_Family__check_choice) (d i_Family__check_choice)
  b_Family__check_choice : L2.Binds K (d i_Family__check_choice) ["self", "value"] []
  M_Family__check_choice : Meth K (a k_Family) "_check_choice" (a i_Family__check_choice)
end K11

namespace K11
open PySem PySem.Spec PyProof.Rows PySem.ErrX L2 Wd
section
variable {P : Program} {w : World} {K : PySem.W.Frag} {mg : Str → Option Value} {base : Heap} {a : Nat → Addr} {d : Nat → FuncData}
theorem G_is_line (k : Kit K mg a d) : FnOk P w K mg base CX0 1 (a i_is_line) (d i_is_line) ["value"] (spLine K) := by
  refine k.D_is_line.F.ok sc_is_line (fun vs H Q E h => ?_) (fun cdv A outer s H vs Q E hr h => ?_)
  · obtain ⟨x, rfl, _⟩ := h
    rfl
  · obtain ⟨x, rfl, kd, q⟩ := h
    refine ⟨_, (pss_one (ps_ret (pe_and (pe_callB call_ofStr (by rfl) k.z_isinstance PyProof.Rows.boot_isinstance (pa_cons (pv 0) (pa_cons (pe_ty k.z_str Wd.boot_str) pa_nil))) (pe_one (pe_callB (cr_all rfl) (by rfl) k.z_all Wd.boot_all (pa_cons (pe_lc (own := [("sign", 1)]) (g := (gName 1)) (tt := tYes) rfl sc_is_line.nd (pi_str (pv 0)) (blkOk_by (N := N_is_line) (sc := defScope s_is_line) (by decide +kernel)) (fun _ _ _ _ _ => (pg_name (i := 1) sc_is_line.nd rfl (Or.inl rfl))) (fun _ _ _ _ _ => pts_nil) (fun _ _ _ _ _ => (pe_cmpR op_in_sign (pv 1) (pe_strC k.c_LETTERS) (by rfl)))) pa_nil)))))), ?_⟩
    refine ⟨x, rfl, x, rfl, kd, _, rfl, ?_⟩
    cases x with
    | str z =>
      have hz : z.length ≤ 1000 := by
        cases kd with
        | str _ h => exact h
      exact iteT (all_low hz q)
    | non => exact iteF (q H fun _ _ e => e)
    | bl b => exact iteF (q H fun _ _ e => e)
    | int i => exact iteF (q H fun _ _ e => e)
    | byt b => exact iteF (q H fun _ _ e => e)
    | flt b => exact iteF (q H fun _ _ e => e)
    | ref a => exact iteF (q H fun _ _ e => e)
    | ty n => exact iteF (q H fun _ _ e => e)
theorem G_is_word (k : Kit K mg a d) : FnOk P w K mg base CX0 2 (a i_is_word) (d i_is_word) ["value"] (spUpTo K 3) := by
  have G_is_line : FnOk P w K mg base CX0 1 _ _ ["value"] (spLine K) := G_is_line k
  refine k.D_is_word.F.ok sc_is_word (fun vs H Q E h => ?_) (fun cdv A outer s H vs Q E hr h => ?_)
  · obtain ⟨x, rfl, _⟩ := h
    rfl
  · obtain ⟨x, rfl, kd, q⟩ := h
    refine ⟨_, (pss_one (ps_ret (pe_and (k.D_is_line.call G_is_line (hr.mono (by decide)) (pa_cons (pv 0) pa_nil)) (pe_one (pe_chain op_le op_le pe_int (pe_callB call_len_str (by rfl) k.z_len PySem.boot_len (pa_cons (pv 0) pa_nil)) (pe_intC k.c_MOST_IN_WORD)))))), ?_⟩
    exact ⟨x, rfl, x, rfl, kd, fun H1 s1 => ⟨_, rfl, afterLine (n := 3) (kd.same s1) (q _ s1)⟩⟩
theorem G_is_page (k : Kit K mg a d) : FnOk P w K mg base CX0 2 (a i_is_page) (d i_is_page) ["value"] (spPage K) := by
  have G_is_line : FnOk P w K mg base CX0 1 _ _ ["value"] (spLine K) := G_is_line k
  refine k.D_is_page.F.ok sc_is_page (fun vs H Q E h => ?_) (fun cdv A outer s H vs Q E hr h => ?_)
  · obtain ⟨x, rfl, _⟩ := h
    rfl
  · obtain ⟨x, rfl, kd, q1, q2⟩ := h
    refine ⟨_, (pss_one (ps_ret (pe_and (pe_callB call_ofTup (by rfl) k.z_isinstance PyProof.Rows.boot_isinstance (pa_cons (pv 0) (pa_cons (pe_ty k.z_tuple Wd.boot_tuple) pa_nil))) (pe_one (pe_callB (cr_all rfl) (by rfl) k.z_all Wd.boot_all (pa_cons (pe_lc (own := [("line", 1)]) (g := (gName 1)) (tt := tYes) rfl sc_is_page.nd (pi_tup (pv 0)) (blkOk_by (N := N_is_page) (sc := defScope s_is_page) (by decide +kernel)) (fun _ _ _ _ _ => (pg_name (i := 1) sc_is_page.nd rfl (Or.inl rfl))) (fun _ _ _ _ _ => pts_nil) (fun _ _ _ _ _ => (k.D_is_line.call G_is_line (hr.mono (by decide)) (pa_cons (pv 1) pa_nil)))) pa_nil)))))), ?_⟩
    refine ⟨x, rfl, x, rfl, kd, fun t xs e1 e2 => ⟨_, rfl, iteT ?_⟩, fun off => ⟨_, rfl, iteF (q2 off H fun _ _ e => e)⟩⟩
    subst e1
    obtain ⟨few, kinds, qq⟩ := q1 t xs rfl e2
    refine ⟨.ref t, rfl, t, rfl, ⟨_, .inl (.inl e2)⟩, fun D nD => ?_⟩
    refine lc_pure (walk_tup (K := K) (a := t) (xs := xs)) (fun H' s' => .inl (.inl (s' _ _ e2))) (by omega) nD (fun _ => true) (fun y => .bl (isLine y)) (fun y hy H' s' KK R yes no => ?_) fun H5 s5 hD => ?_
    · exact ⟨rfl, y, rfl, y, rfl, (kinds y hy).same s', fun H7 s7 => yes rfl H7 s7⟩
    · refine ⟨D, xs.map isLine, rfl, .inl (.inl (by rw [hD, List.filter_eq_self.mpr fun _ _ => rfl, List.map_map]; rfl)), ?_⟩
      have e : (xs.map isLine).all id = lines xs := by
        unfold lines
        rw [List.all_map]
        rfl
      rw [e]
      exact qq _ s5
theorem G_is_signs (k : Kit K mg a d) : FnOk P w K mg base CX0 2 (a i_is_signs) (d i_is_signs) ["value"] (spSigns K) := by
  have G_is_line : FnOk P w K mg base CX0 1 _ _ ["value"] (spLine K) := G_is_line k
  refine k.D_is_signs.F.ok sc_is_signs (fun vs H Q E h => ?_) (fun cdv A outer s H vs Q E hr h => ?_)
  · obtain ⟨x, rfl, _⟩ := h
    rfl
  · obtain ⟨x, rfl, kd, q⟩ := h
    have hu := hr.units
    refine ⟨_, (pss_one (ps_ret (pe_and (k.D_is_line.call G_is_line (hr.mono (by decide)) (pa_cons (pv 0) pa_nil)) (pe_and (pe_chain op_le op_le pe_int (pe_callB call_len_str (by rfl) k.z_len PySem.boot_len (pa_cons (pv 0) pa_nil)) (pe_intC k.c_MOST_SIGNS)) (pe_one (pe_cmpR (op_eqD hu) (pe_callTy (cr_listTx rfl) (by rfl) k.z_list Wd.boot_list (pa_cons (pv 0) pa_nil)) (pe_callB (cr_sortTx rfl) (by rfl) k.z_sorted Wd.boot_sorted (pa_cons (pe_callTy (cr_setTx rfl) (by rfl) k.z_set Wd.boot_set (pa_cons (pv 0) pa_nil)) pa_nil)) (nomark _))))))), ?_⟩
    refine ⟨x, rfl, x, rfl, kd, fun H1 s1 => ⟨_, rfl, ?_⟩⟩
    have off : isLine x = false → asSigns x = false := fun e => by
      cases x with
      | str z =>
        have e1 : low z = false := e
        show (low z && _ && _) = false
        rw [e1]
        rfl
      | _ => rfl
    refine ite2 (fun e => ?_) (fun e => ?_)
    case refine_2 =>
      have z := off (Bool.eq_false_iff.mpr e)
      rw [z] at q
      exact q _ s1
    cases x with
    | str z =>
      have e1 : low z = true := e
      have hz : z.length ≤ 1000 := by
        cases kd with
        | str _ h => exact h
      refine lens (n := 6) hz ⟨_, rfl, ?_⟩
      by_cases c : (decide (1 ≤ z.length) && decide (z.length ≤ 6)) = true
      · rw [c]
        refine iteT ?_
        have few : z.length ≤ 6 := by
          rw [Bool.and_eq_true] at c
          exact of_decide_eq_true c.2
        have many : (signsOf z).length = z.length := by
          unfold signsOf
          rw [List.length_map, Array.length_toList]
          rfl
        refine ⟨.str z, rfl, z, rfl, small hz, fun p np => ⟨.str z, rfl, z, rfl, by omega, fun t c' hc' nt => ⟨t, _, c', rfl, upd_same, by omega, fun ys p2 so nd mem len n2 => ?_⟩⟩⟩
        have s2 := same_upd (o := .lst ((signsOf z).map V.str)) np
        have s3 := same_upd (o := TxO P w t (fun j => decide (j ∈ signsOf z)) c') nt
        have s4 := same_upd (o := .lst (ys.map V.str)) n2
        have m2 : ∀ k, k ∈ ys ↔ k ∈ signsOf z := fun k => (mem k).trans decide_eq_true_iff
        have oks := signs_ok e1
        refine ⟨.list ((signsOf z).map .str), .list (ys.map .str), .lst (.inl (.inl (s4 _ _ (s3 _ _ upd_same)))) (strs_dp _), .lst (.inl (.inl upd_same)) (strs_dp _), shaped_strs oks, shaped_strs (fun x hx => oks x ((m2 x).1 hx)), ?_⟩
        rw [eqv_strs, signs_eq so nd m2]
        have e3 : asSigns (.str z) = rising z := by
          show (low z && (decide (1 ≤ z.length) && decide (z.length ≤ 6)) && rising z) = rising z
          rw [e1, c]
          rfl
        rw [← e3]
        exact q _ (s1.trans (s2.trans (s3.trans s4)))
      · have c2 := Bool.eq_false_iff.mpr c
        rw [c2]
        have e3 : asSigns (.str z) = false := by
          show (low z && (decide (1 ≤ z.length) && decide (z.length ≤ 6)) && rising z) = false
          rw [c2, Bool.and_false]
          rfl
        rw [e3] at q
        exact iteF (q _ s1)
    | _ => exact absurd (show false = true from e) Bool.false_ne_true
end
end K11

namespace K11
open PySem PySem.Spec PyProof.Rows PySem.ErrX L2 Wd
section
variable {P : Program} {w : World} {K : PySem.W.Frag} {mg : Str → Option Value} {base : Heap} {a : Nat → Addr} {d : Nat → FuncData}
theorem G_is_piece (k : Kit K mg a d) : FnOk P w K mg base CX0 1 (a i_is_piece) (d i_is_piece) ["value", "pieces"] (spPiece K) := by
  refine k.D_is_piece.F.ok sc_is_piece (fun vs H Q E h => ?_) (fun cdv A outer s H vs Q E hr h => ?_)
  · obtain ⟨x, p, ws, rfl, _⟩ := h
    rfl
  · obtain ⟨x, p, ws, rfl, kd, hp, q⟩ := h
    refine ⟨_, (pss_one (ps_ret (pe_and (pe_callB call_ofStr (by rfl) k.z_isinstance PyProof.Rows.boot_isinstance (pa_cons (pv 0) (pa_cons (pe_ty k.z_str Wd.boot_str) pa_nil))) (pe_one (pe_cmpR op_in_seq (pv 0) (pv 1) (by rfl)))))), ?_⟩
    refine ⟨x, rfl, x, rfl, kd, _, rfl, ?_⟩
    cases x with
    | str z =>
      refine iteT ⟨.str z, rfl, .ref p, rfl, p, ws.map V.str, rfl, hp, rfl, flat_strs ws, ?_⟩
      show Q (.bl (inV (.str z) (ws.map V.str))) H
      rw [inV_strs]
      exact q H fun _ _ e => e
    | non => exact iteF (q H fun _ _ e => e)
    | bl b => exact iteF (q H fun _ _ e => e)
    | int i => exact iteF (q H fun _ _ e => e)
    | byt b => exact iteF (q H fun _ _ e => e)
    | flt b => exact iteF (q H fun _ _ e => e)
    | ref a => exact iteF (q H fun _ _ e => e)
    | ty n => exact iteF (q H fun _ _ e => e)
theorem G_is_choice (k : Kit K mg a d) : FnOk P w K mg base CX0 2 (a i_is_choice) (d i_is_choice) ["value", "pieces"] (spChoice K) := by
  have G_is_piece : FnOk P w K mg base CX0 1 _ _ ["value", "pieces"] (spPiece K) := G_is_piece k
  refine k.D_is_choice.F.ok sc_is_choice (fun vs H Q E h => ?_) (fun cdv A outer s H vs Q E hr h => ?_)
  · obtain ⟨x, p, ws, b, rfl, _⟩ := h
    rfl
  · obtain ⟨x, p, ws, b, rfl, hp, lb, q⟩ := h
    refine ⟨_, (pss_cons (ps_if (PW.pt (pw_or (pt_not (pt_val (pe_callB call_ofLst (by rfl) k.z_isinstance PyProof.Rows.boot_isinstance (pa_cons (pv 0) (pa_cons (pe_ty k.z_list Wd.boot_list) pa_nil))))) (pw_or1 (pt_not (pt_val (pe_callB (cr_all rfl) (by rfl) k.z_all Wd.boot_all (pa_cons (pe_lc (own := [("piece", 2)]) (g := (gName 2)) (tt := tYes) rfl sc_is_choice.nd (pi_list (pv 0)) (blkOk_by (N := N_is_choice) (sc := defScope s_is_choice) (by decide +kernel)) (fun _ _ _ _ _ => (pg_name (i := 2) sc_is_choice.nd rfl (Or.inl rfl))) (fun _ _ _ _ _ => pts_nil) (fun _ _ _ _ _ => (k.D_is_piece.call G_is_piece (hr.mono (by decide)) (pa_cons (pv 2) (pa_cons (pv 1) pa_nil))))) pa_nil))))))) (pss_one (ps_ret pe_bl)) pss_nil)
      (pss_one (ps_ret (pe_cmpR op_eq (pe_lenSetT (by rfl) k.z_len (by rfl) k.z_set (pv 0)) (pe_callB call_len_seq (by rfl) k.z_len PySem.boot_len (pa_cons (pv 0) pa_nil)) (nomark _))))), ?_⟩
    obtain ⟨kd, on, off⟩ := lb
    refine ⟨x, rfl, x, rfl, kd, fun t xs e1 e2 => ⟨_, rfl, iteF ?_⟩, fun no => ⟨_, rfl, iteT (iteT ?_)⟩⟩
    case refine_2 =>
      rw [off no] at q
      exact q H fun _ _ e => e
    subst e1
    obtain ⟨few, kinds, eb⟩ := on t xs rfl e2
    refine ⟨.ref t, rfl, t, rfl, ⟨_, .inl (.inl e2)⟩, fun D nD => ?_⟩
    refine lc_pure (walk_list (K := K) (a := t) (xs := xs)) (fun H' s' => .inl (.inl (s' _ _ e2))) (by omega) nD (fun _ => true) (fun y => .bl (isPiece ws y)) (fun y hy H' s' KK R yes no => ?_) fun H5 s5 hD => ?_
    · exact ⟨rfl, y, rfl, .ref p, rfl, y, p, ws, rfl, (kinds y hy).same s', hp.elim (fun z => .inl (sqL_same s' z)) (fun z => .inr (sqT_same s' z)), fun H7 s7 => yes rfl H7 s7⟩
    · refine ⟨D, xs.map (isPiece ws), rfl, .inl (.inl (by rw [hD, List.filter_eq_self.mpr fun _ _ => rfl, List.map_map]; rfl)), ?_⟩
      have e : (xs.map (isPiece ws)).all id = xs.all (isPiece ws) := by
        rw [List.all_map]
        rfl
      rw [e]
      refine ⟨_, rfl, ?_⟩
      cases al : xs.all (isPiece ws) with
      | false =>
        refine iteT ?_
        have z : b = false := by rw [eb]; unfold choiceB; rw [al]; rfl
        rw [z] at q
        exact q _ s5
      | true =>
        refine iteF ?_
        obtain ⟨zs, rfl⟩ := strs_of_all isPiece_str al
        have z : b = decide zs.Nodup := by rw [eb]; unfold choiceB; rw [al, nodup_strs]; rfl
        rw [List.length_map] at few
        refine ⟨.ref t, rfl, t, zs, rfl, .inl (.inl (s5 _ _ e2)), few, fun c _ hc => ⟨.ref t, rfl, t, _, rfl, .inl (.inl (.inl (s5 _ _ e2))), rfl, ?_⟩⟩
        have e3 : decide (V.int (c : Nat) = V.int (((zs.map V.str).length : Nat) : Int)) = b := by
          rw [z, ← hc, List.length_map]
          apply decide_eq_decide.mpr
          exact ⟨fun q => by injection q with q; omega, fun q => by rw [q]⟩
        rw [e3]
        exact q _ s5
theorem G_is_over (k : Kit K mg a d) : FnOk P w K mg base CX0 1 (a i_is_over) (d i_is_over) ["line", "signs"] (spOver K) := by
  refine k.D_is_over.F.ok sc_is_over (fun vs H Q E h => ?_) (fun cdv A outer s H vs Q E hr h => ?_)
  · obtain ⟨z, s, rfl, _⟩ := h
    rfl
  · obtain ⟨z, sg, rfl, hz, q⟩ := h
    refine ⟨_, (pss_one (ps_ret (pe_callB (cr_all rfl) (by rfl) k.z_all Wd.boot_all (pa_cons (pe_lc (own := [("sign", 2)]) (g := (gName 2)) (tt := tYes) rfl sc_is_over.nd (pi_str (pv 0)) (blkOk_by (N := N_is_over) (sc := defScope s_is_over) (by decide +kernel)) (fun _ _ _ _ _ => (pg_name (i := 2) sc_is_over.nd rfl (Or.inl rfl))) (fun _ _ _ _ _ => pts_nil) (fun _ _ _ _ _ => (pe_cmpR op_in_sign (pv 2) (pv 1) (by rfl)))) pa_nil)))), ?_⟩
    refine ⟨.str z, rfl, z, rfl, fun D nD => ?_⟩
    refine lc_pureS (by omega) nD (fun _ => true) (fun c => .bl (decide (c ∈ sg.cps.toList))) (fun c hc H' s' KK R yes no => ?_) fun H5 s5 hD => ?_
    · exact ⟨rfl, .str ⟨#[c]⟩, rfl, .str sg, rfl, c, sg, rfl, rfl, yes rfl H' fun _ _ e => e⟩
    · refine ⟨D, z.cps.toList.map (fun c => decide (c ∈ sg.cps.toList)), rfl, .inl (.inl (by rw [hD, List.filter_eq_self.mpr fun _ _ => rfl, List.map_map]; rfl)), ?_⟩
      have e : (z.cps.toList.map (fun c => decide (c ∈ sg.cps.toList))).all id = over sg z := by
        unfold over
        rw [List.all_map]
        rfl
      rw [e]
      exact q _ s5
theorem G_are_pieces (k : Kit K mg a d) : FnOk P w K mg base CX0 3 (a i_are_pieces) (d i_are_pieces) ["value", "signs"] (spPieces K) := by
  have G_is_word : FnOk P w K mg base CX0 2 _ _ ["value"] (spUpTo K 3) := G_is_word k
  have G_is_over : FnOk P w K mg base CX0 1 _ _ ["line", "signs"] (spOver K) := G_is_over k
  refine k.D_are_pieces.F.ok sc_are_pieces (fun vs H Q E h => ?_) (fun cdv A outer s H vs Q E hr h => ?_)
  · obtain ⟨x, s, b, rfl, _⟩ := h
    rfl
  · obtain ⟨x, sg, b, rfl, lb, q⟩ := h
    refine ⟨_, (pss_cons (ps_if (PW.pt (pw_or (pt_not (pt_val (pe_callB call_ofLst (by rfl) k.z_isinstance PyProof.Rows.boot_isinstance (pa_cons (pv 0) (pa_cons (pe_ty k.z_list Wd.boot_list) pa_nil))))) (pw_or1 (pt_cmpR op_gt (pe_callB call_len_seq (by rfl) k.z_len PySem.boot_len (pa_cons (pv 0) pa_nil)) (pe_intC k.c_MOST_PIECES) (nomark _))))) (pss_one (ps_ret pe_bl)) pss_nil)
      (pss_cons (ps_if (pt_not (pt_val (pe_callB (cr_all rfl) (by rfl) k.z_all Wd.boot_all (pa_cons (pe_lc (own := [("piece", 2)]) (g := (gName 2)) (tt := tYes) rfl sc_are_pieces.nd (pi_list (pv 0)) (blkOk_by (N := N_are_pieces) (sc := defScope s_are_pieces) (by decide +kernel)) (fun _ _ _ _ _ => (pg_name (i := 2) sc_are_pieces.nd rfl (Or.inl rfl))) (fun _ _ _ _ _ => pts_nil) (fun _ _ _ _ _ => (pe_and (k.D_is_word.call G_is_word (hr.mono (by decide)) (pa_cons (pv 2) pa_nil)) (pe_one (k.D_is_over.call G_is_over (hr.mono (by decide)) (pa_cons (pv 2) (pa_cons (pv 1) pa_nil))))))) pa_nil)))) (pss_one (ps_ret pe_bl)) pss_nil)
      (pss_one (ps_ret (pe_cmpR op_eq (pe_lenSetT (by rfl) k.z_len (by rfl) k.z_set (pv 0)) (pe_callB call_len_seq (by rfl) k.z_len PySem.boot_len (pa_cons (pv 0) pa_nil)) (nomark _)))))), ?_⟩
    obtain ⟨kd, on, off⟩ := lb
    refine ⟨x, rfl, x, rfl, kd, fun t xs e1 e2 => ⟨_, rfl, iteF ?_⟩, fun no => ⟨_, rfl, iteT (iteT ?_)⟩⟩
    case refine_2 =>
      rw [off no] at q
      exact q H fun _ _ e => e
    subst e1
    obtain ⟨few, kinds, eb⟩ := on t xs rfl e2
    refine ⟨.ref t, rfl, t, _, rfl, .inl (.inl (.inl e2)), _, _, rfl, rfl, _, rfl, ite2 (fun e8 => ?_) (fun e8 => ?_)⟩
    · have z : b = false := by
        rw [eb]
        unfold piecesB
        rw [decide_eq_false (fun l => by have := of_decide_eq_true e8; omega)]
        rfl
      rw [z] at q
      exact q H fun _ _ e => e
    have l8 : decide (xs.length ≤ 8) = true := decide_eq_true (by
      have : ¬ ((8 : Int) < (xs.length : Int)) := fun l => e8 (decide_eq_true l)
      omega)
    refine ⟨.ref t, rfl, t, rfl, ⟨_, .inl (.inl e2)⟩, fun D nD => ?_⟩
    refine lc_pure (walk_list (K := K) (a := t) (xs := xs)) (fun H' s' => .inl (.inl (s' _ _ e2))) (by omega) nD (fun _ => true) (fun y => .bl (wordB sg y)) (fun y hy H' s' KK R yes no => ?_) fun H5 s5 hD => ?_
    · refine ⟨rfl, y, rfl, y, rfl, (kinds y hy).same s', fun H7 s7 => ⟨_, rfl, ite2 (fun eu => ?_) (fun eu => ?_)⟩⟩
      · have us : ∃ z, y = .str z := by
          cases y with
          | str z => exact ⟨z, rfl⟩
          | _ => cases eu
        obtain ⟨z, rfl⟩ := us
        have hz : z.length ≤ 1000 := by
          have k0 := kinds _ hy
          cases k0 with
          | str _ h => exact h
        refine ⟨.str z, rfl, .str sg, rfl, z, sg, rfl, hz, fun H8 s8 => ?_⟩
        have e5 : wordB sg (.str z) = over sg z := by
          unfold wordB
          rw [eu]
          rfl
        rw [← e5]
        exact yes rfl H8 (s7.trans s8)
      · have e5 : wordB sg y = false := by
          unfold wordB
          rw [Bool.eq_false_iff.mpr eu]
          rfl
        rw [← e5]
        exact yes rfl H7 s7
    · refine ⟨D, xs.map (wordB sg), rfl, .inl (.inl (by rw [hD, List.filter_eq_self.mpr fun _ _ => rfl, List.map_map]; rfl)), ?_⟩
      have e : (xs.map (wordB sg)).all id = xs.all (wordB sg) := by
        rw [List.all_map]
        rfl
      rw [e]
      refine ⟨_, rfl, ?_⟩
      cases al : xs.all (wordB sg) with
      | false =>
        refine iteT ?_
        have z : b = false := by rw [eb]; unfold piecesB; rw [al, l8]; rfl
        rw [z] at q
        exact q _ s5
      | true =>
        refine iteF ?_
        obtain ⟨zs, rfl⟩ := strs_of_all (wordB_str (s := sg)) al
        have z : b = decide zs.Nodup := by rw [eb]; unfold piecesB; rw [al, l8, nodup_strs]; rfl
        rw [List.length_map] at few
        refine ⟨.ref t, rfl, t, zs, rfl, .inl (.inl (s5 _ _ e2)), few, fun c _ hc => ⟨.ref t, rfl, t, _, rfl, .inl (.inl (.inl (s5 _ _ e2))), rfl, ?_⟩⟩
        have e3 : decide (V.int (c : Nat) = V.int (((zs.map V.str).length : Nat) : Int)) = b := by
          rw [z, ← hc, List.length_map]
          apply decide_eq_decide.mpr
          exact ⟨fun q => by injection q with q; omega, fun q => by rw [q]⟩
        rw [e3]
        exact q _ s5
end
end K11

namespace K11
open PySem PySem.Spec PyProof.Rows PySem.ErrX L2 Wd
section
variable {P : Program} {w : World} {K : PySem.W.Frag} {mg : Str → Option Value} {base : Heap} {a : Nat → Addr} {d : Nat → FuncData}
theorem G_Family___init__ (k : Kit K mg a d) : FnOk P w K mg base (L2.CX P w) 4 (a i_Family___init__) (d i_Family___init__) ["self", "signs", "pieces"] (spFamInit K (a k_Family) (a e_BadSigns) (a e_BadPieces)) := by
  have G_is_signs : FnOk P w K mg base CX0 2 _ _ ["value"] (spSigns K) := G_is_signs k
  have G_are_pieces : FnOk P w K mg base CX0 3 _ _ ["value", "signs"] (spPieces K) := G_are_pieces k
  refine k.F_Family___init__.okX sc_Family___init__ (fun vs H Q E h => ?_) (fun cdv A outer s H vs Q E hr h => ?_)
  · obtain ⟨q, dx, x, y, rfl, _⟩ := h
    rfl
  · obtain ⟨q, dx, x, y, rfl, hq, kx, bs, good⟩ := h
    refine ⟨_, (pss_cons (ps_if (pt_not (pt_val (k.D_is_signs.call G_is_signs (hr.mono (by decide)) (pa_cons (pv 1) pa_nil)))) (pss_one (ps_raiseErr rfl k.E_BadSigns k.y_BadSigns hr (takes_of rfl rfl rfl rfl) (pa_cons (pv 1) pa_nil))) pss_nil)
      (pss_cons (ps_if (pt_not (pt_val (k.D_are_pieces.call G_are_pieces (hr.mono (by decide)) (pa_cons (pv 2) (pa_cons (pv 1) pa_nil))))) (pss_one (ps_raiseErr rfl k.E_BadPieces k.y_BadPieces hr (takes_of rfl rfl rfl rfl) (pa_cons (pv 2) pa_nil))) pss_nil)
      (pss_cons (ps_fld (pv 0) (pv 1) rfl)
      (pss_one (ps_fld (pv 0) (pe_callTy call_tuple_of (by rfl) k.z_tuple Wd.boot_tuple (pa_cons (pv 2) pa_nil)) rfl))))), ?_⟩
    refine ⟨x, rfl, x, rfl, kx, fun H1 s1 => ⟨_, rfl, ?_⟩⟩
    cases es : asSigns x with
    | false => exact iteT ⟨x, rfl, x, rfl, fun d hd => bs es H1 d s1 hd⟩
    | true =>
      refine iteF ?_
      obtain ⟨sg, rfl⟩ : ∃ z, x = .str z := by
        cases x with
        | str z => exact ⟨z, rfl⟩
        | _ => cases es
      obtain ⟨b, lb, bad, fin⟩ := good sg rfl es
      refine ⟨y, rfl, .str sg, rfl, y, sg, b, rfl, lb.same s1, fun H2 s2 => ⟨_, rfl, ?_⟩⟩
      have s12 := s1.trans s2
      cases b with
      | false => exact iteT ⟨y, rfl, y, rfl, fun d hd => bad rfl H2 d s12 hd⟩
      | true =>
        refine iteF ?_
        obtain ⟨t, xs, rfl, ht⟩ : ∃ t xs, y = .ref t ∧ H t = some (.lst xs) := by
          rcases lb.1.lstOr with z | z
          · exact z
          · exact nomatch lb.2.2 z
        obtain ⟨few, kinds, eb⟩ := lb.2.1 t xs rfl ht
        have al : xs.all (wordB sg) = true := by
          have e := eb
          unfold piecesB at e
          cases z : xs.all (wordB sg) with
          | true => rfl
          | false =>
            rw [z] at e
            simp at e
        obtain ⟨ws, rfl⟩ := strs_of_all (wordB_str (s := sg)) al
        have hq2 := s12 _ _ hq
        refine ⟨_, rfl, _, rfl, q, a k_Family, dx, _, rfl, hq2, k.Cl_Family, k.n_Family__signs, (by show 0 < 1000; decide), ?_⟩
        have ne : t ≠ q := fun z => by
          rw [z, hq] at ht
          cases ht
        refine ⟨.ref t, rfl, t, _, rfl, .inl ⟨.inl (.inl (by rw [upd_ne ne]; exact s12 _ _ ht)), fun l hl => ?_⟩⟩
        have lq : q ≠ l := fun z => by
          rw [← z, upd_same] at hl
          cases hl
        refine ⟨_, rfl, q, a k_Family, dx, _, rfl, by rw [upd_ne lq]; exact upd_same, k.Cl_Family, k.n_Family__pieces, (by show 1 < 1000; decide), ?_⟩
        refine fin rfl t ws rfl ht _ (fun c o nc e => ?_) ⟨dx, l, upd_same, .inl (.inl (by rw [upd_ne lq.symm]; exact upd_same))⟩
        have e2 := s12 _ _ e
        have nl : c ≠ l := fun z => by
          rw [← z, upd_ne nc, e2] at hl
          cases hl
        rw [upd_ne nc, upd_ne nl, upd_ne nc]
        exact e2
theorem G_Family___eq__ (k : Kit K mg a d) : FnOk P w K mg base CX0 2 (a i_Family___eq__) (d i_Family___eq__) ["self", "other"] (spFamEq K (a k_Family)) := by
  refine k.F_Family___eq__.ok sc_Family___eq__ (fun vs H Q E h => ?_) (fun cdv A outer s H vs Q E hr h => ?_)
  · obtain ⟨q, s, ws, y, rfl, _⟩ := h
    rfl
  · obtain ⟨q, sg, ws, y, rfl, ⟨dx, t, hq, ht⟩, ok1, h⟩ := h
    have hu := hr.units
    refine ⟨_, (pss_one (ps_ret (pe_and (pe_callB call_isi (by rfl) k.z_isinstance PyProof.Rows.boot_isinstance (pa_cons (pv 1) (pa_cons (pe_glob (v := .ref (a k_Family)) rfl k.G_Family rfl) pa_nil))) (pe_and (pe_cmpR op_eq (pe_fld (pv 0) (by rfl)) (pe_fld (pv 1) (by rfl)) (nomark _)) (pe_one (pe_cmpR (op_eqD hu) (pe_fld (pv 0) (by rfl)) (pe_fld (pv 1) (by rfl)) (nomark _))))))), ?_⟩
    rcases h with ⟨q2, s2, ws2, rfl, ⟨dx2, t2, hq2, ht2⟩, ok2, fin⟩ | ⟨ty, hy, kit, fin⟩
    · refine ⟨.ref q2, rfl, _, _, .ref (a k_Family), _, true, rfl, .own _, .base (.ins hq2 k.Cl_Family k.Is_Family.ha k.Is_Family.hn k.Is_Family.ht k.Is_Family.hm), kit_self, _, rfl, iteT ?_⟩
      refine ⟨.ref q, rfl, q, a k_Family, dx, _, .str sg, rfl, hq, k.Cl_Family, k.n_Family__signs, rfl, .ref q2, rfl, q2, a k_Family, dx2, _, .str s2, rfl, hq2, k.Cl_Family, k.n_Family__signs, rfl, rfl, _, rfl, ?_⟩
      have es : decide (V.str sg = V.str s2) = decide (sg = s2) := by
        apply decide_eq_decide.mpr
        exact ⟨fun z => by injection z, fun z => by rw [z]⟩
      rw [es]
      refine ite2 (fun e => ?_) (fun e => ?_)
      · refine ⟨.ref q, rfl, q, a k_Family, dx, _, .ref t, rfl, hq, k.Cl_Family, k.n_Family__pieces, rfl, .ref q2, rfl, q2, a k_Family, dx2, _, .ref t2, rfl, hq2, k.Cl_Family, k.n_Family__pieces, rfl, ?_⟩
        refine ⟨.tuple (ws.map .str), .tuple (ws2.map .str), .tup ht (strs_dp _), .tup ht2 (strs_dp _), shaped_tups (fun x hx => low_ok (ok1 x hx).2), shaped_tups (fun x hx => low_ok (ok2 x hx).2), ?_⟩
        rw [eqv_tups]
        have z := fin H fun _ _ e => e
        rw [e, Bool.true_and] at z
        exact z
      · have z := fin H fun _ _ e => e
        rw [Bool.eq_false_iff.mpr e, Bool.false_and] at z
        exact z
    · exact ⟨y, rfl, _, _, ty, _, false, rfl, .own _, hy, kit, _, rfl, iteF (fin H fun _ _ e => e)⟩
theorem G_Family_signs (k : Kit K mg a d) : FnOk P w K mg base CX0 1 (a i_Family_signs) (d i_Family_signs) ["self"] (spFamSigns K (a k_Family)) := by
  refine k.F_Family_signs.ok sc_Family_signs (fun vs H Q E h => ?_) (fun cdv A outer s H vs Q E hr h => ?_)
  · obtain ⟨q, s, ws, rfl, _⟩ := h
    rfl
  · obtain ⟨q, sg, ws, rfl, ⟨dx, t, hq, ht⟩, fin⟩ := h
    refine ⟨_, (pss_one (ps_ret (pe_fld (pv 0) (by rfl)))), ?_⟩
    exact ⟨.ref q, rfl, q, a k_Family, dx, _, .str sg, rfl, hq, k.Cl_Family, k.n_Family__signs, rfl, fin⟩
theorem G_Family_pieces (k : Kit K mg a d) : FnOk P w K mg base CX0 1 (a i_Family_pieces) (d i_Family_pieces) ["self"] (spFamPieces K (a k_Family)) := by
  refine k.F_Family_pieces.ok sc_Family_pieces (fun vs H Q E h => ?_) (fun cdv A outer s H vs Q E hr h => ?_)
  · obtain ⟨q, s, ws, rfl, _⟩ := h
    rfl
  · obtain ⟨q, sg, ws, rfl, ⟨dx, t, hq, ht⟩, fin⟩ := h
    refine ⟨_, (pss_one (ps_ret (pe_callTy call_list_of (by rfl) k.z_list Wd.boot_list (pa_cons (pe_fld (pv 0) (by rfl)) pa_nil)))), ?_⟩
    exact ⟨.ref q, rfl, q, a k_Family, dx, _, .ref t, rfl, hq, k.Cl_Family, k.n_Family__pieces, rfl, t, _, rfl, .inr ht, fun l hl => fin l hl⟩
end
end K11

namespace K11
open PySem PySem.Spec PyProof.Rows PySem.ErrX L2 Wd
section
variable {P : Program} {w : World} {K : PySem.W.Frag} {mg : Str → Option Value} {base : Heap} {a : Nat → Addr} {d : Nat → FuncData}
theorem G_Family_of (k : Kit K mg a d) : FnOk P w K mg base (L2.CX P w) 3 (a i_Family_of) (d i_Family_of) ["self", "page"] (spFamOf K (a k_Family) (a e_BadPage)) := by
  have G_is_page : FnOk P w K mg base CX0 2 _ _ ["value"] (spPage K) := G_is_page k
  have G_is_over : FnOk P w K mg base CX0 1 _ _ ["line", "signs"] (spOver K) := G_is_over k
  refine k.F_Family_of.okX sc_Family_of (fun vs H Q E h => ?_) (fun cdv A outer s H vs Q E hr h => ?_)
  · obtain ⟨q, s, ws, x, b, rfl, _⟩ := h
    rfl
  · obtain ⟨q, sg, ws, x, b, rfl, ⟨dx, t, hq, ht⟩, fewW, tb, bad, good⟩ := h
    refine ⟨_, (pss_cons (ps_if (PW.pt (pw_or (pt_not (pt_val (k.D_is_page.call G_is_page (hr.mono (by decide)) (pa_cons (pv 1) pa_nil)))) (pw_or1 (pt_not (pt_val (pe_callB (cr_all rfl) (by rfl) k.z_all Wd.boot_all (pa_cons (pe_lc (own := [("line", 2)]) (g := (gName 2)) (tt := tYes) rfl sc_Family_of.nd (pi_tup (pv 1)) (blkOk_by (N := N_Family_of) (sc := defScope m_Family_of) (by decide +kernel)) (fun _ _ _ _ _ => (pg_name (i := 2) sc_Family_of.nd rfl (Or.inl rfl))) (fun _ _ _ _ _ => pts_nil) (fun _ _ _ _ _ => (k.D_is_over.call G_is_over (hr.mono (by decide)) (pa_cons (pv 2) (pa_cons (pe_fldK (K := K) rfl (pv 0) (by rfl)) pa_nil))))) pa_nil))))))) (pss_one (ps_raiseErr rfl k.E_BadPage k.y_BadPage hr (takes_of rfl rfl rfl rfl) (pa_cons (pv 1) pa_nil))) pss_nil)
      (pss_one (ps_ret (pe_lc (own := [("piece", 3)]) (g := (gName 3)) rfl sc_Family_of.nd (pi_tup (pe_fld (pv 0) (by rfl))) (blkOk_by (N := N_Family_of) (sc := defScope m_Family_of) (by decide +kernel)) (fun _ _ _ _ _ => (pg_name (i := 3) sc_Family_of.nd rfl (Or.inr rfl))) (fun _ _ _ _ _ => pts_one (pt_val (pe_callB (cr_anyK (K := K) rfl rfl) (by rfl) k.z_any Wd.boot_any (pa_cons (pe_lc (own := [("line", 2)]) (g := (gName 2)) (tt := tYes) rfl sc_Family_of.nd (pi_tupK (K := K) rfl (pv 1)) (blkOk_by (N := N_Family_of) (by kernel_rfl)) (fun _ _ _ _ _ => (pg_name (i := 2) sc_Family_of.nd rfl (Or.inl rfl))) (fun _ _ _ _ _ => pts_nil) (fun _ _ _ _ _ => (pe_cmpR op_in_str (pv 3) (pv 2) (by rfl)))) pa_nil)))) (fun _ _ _ _ _ => (pv 3)))))), ?_⟩
    obtain ⟨kd, on, off⟩ := tb
    refine ⟨x, rfl, x, rfl, kd, fun g xs e1 e2 => ?_, fun no => ?_⟩
    case refine_2 =>
      refine fun H1 s1 => ⟨_, rfl, iteT (iteT ⟨x, rfl, x, rfl, fun d hd => bad (off no) H1 d s1 hd⟩)⟩
    subst e1
    obtain ⟨few, kinds, eb⟩ := on g xs rfl e2
    refine ⟨few, kinds, fun H1 s1 => ⟨_, rfl, ?_⟩⟩
    cases el : lines xs with
    | false =>
      have z : b = false := by
        rw [eb]
        apply Bool.eq_false_iff.mpr
        intro e
        have : lines xs = true := List.all_eq_true.mpr fun y hy => by
          have q := List.all_eq_true.mp e y hy
          unfold lineOver at q
          rw [Bool.and_eq_true] at q
          exact q.1
        rw [el] at this
        cases this
      exact iteT (iteT ⟨_, rfl, _, rfl, fun d hd => bad z H1 d s1 hd⟩)
    | true =>
      refine iteF ⟨.ref g, rfl, g, rfl, ⟨_, .inl (.inl (s1 _ _ e2))⟩, fun D nD => ?_⟩
      have txs : ∀ y ∈ xs, ∃ z, y = .str z ∧ z.length ≤ 1000 := fun y hy => by
        have q := List.all_eq_true.mp el y hy
        cases y with
        | str z =>
          have k0 := kinds _ hy
          cases k0 with
          | str _ h => exact ⟨z, rfl, h⟩
        | _ => cases q
      have lo : ∀ y ∈ xs, lineOver sg y = overV sg y := fun y hy => by
        have q := List.all_eq_true.mp el y hy
        unfold lineOver
        rw [q, Bool.true_and]
      refine lc_pure (walk_tup (K := K) (a := g) (xs := xs)) (fun H' s' => .inl (.inl (s' _ _ (s1 _ _ e2)))) (by omega) nD (fun _ => true) (fun y => .bl (lineOver sg y)) (fun y hy H' s' KK R yes no => ?_) fun H5 s5 hD => ?_
      · obtain ⟨z, rfl, hz⟩ := txs y hy
        have e5 := lo _ hy
        have q5 := s' _ _ (s1 _ _ hq)
        refine ⟨rfl, .str z, rfl, .ref q, rfl, q, a k_Family, dx, _, .str sg, rfl, q5, k.Cl_Family, k.n_Family__signs, rfl, z, sg, rfl, hz, fun H6 s6 => ?_⟩
        have e6 : lineOver sg (.str z) = over sg z := e5
        rw [← e6]
        exact yes rfl H6 s6
      · refine ⟨D, xs.map (lineOver sg), rfl, .inl (.inl (by rw [hD, List.filter_eq_self.mpr fun _ _ => rfl, List.map_map]; rfl)), ?_⟩
        have e : (xs.map (lineOver sg)).all id = b := by
          rw [List.all_map, eb]
          rfl
        rw [e]
        have s15 := s1.trans s5
        refine ⟨_, rfl, ?_⟩
        cases b with
        | false => exact iteT ⟨_, rfl, _, rfl, fun d hd => bad rfl H5 d s15 hd⟩
        | true =>
          refine iteF ⟨.ref q, rfl, q, a k_Family, dx, _, .ref t, rfl, s15 _ _ hq, k.Cl_Family, k.n_Family__pieces, rfl, t, rfl, ⟨_, sqT_same s15 ht⟩, fun D2 nD2 => ?_⟩
          refine lc_pure (walk_tup (K := K) (a := t) (xs := ws.map V.str)) (fun H' s' => sqT_same (s15.trans s') ht) (by rw [List.length_map]; omega) nD2 (fun y => xs.any (hasV (txV y))) (fun y => y) (fun y hy H' s' KK R yes no => ?_) fun H6 s6 hD2 => ?_
          · obtain ⟨p, hp, rfl⟩ := List.mem_map.mp hy
            refine ⟨rfl, .ref g, rfl, g, rfl, ⟨_, .inl (.inl (s' _ _ (s15 _ _ e2)))⟩, fun D3 nD3 => ?_⟩
            refine lc_pure (walk_tup (K := K) (a := g) (xs := xs)) (fun H7 s7 => .inl (.inl (s7 _ _ (s' _ _ (s15 _ _ e2))))) (by omega) nD3 (fun _ => true) (fun x => .bl (hasV p x)) (fun x hx H7 s7 KK2 R2 yes2 no2 => ?_) fun H8 s8 hD3 => ?_
            · obtain ⟨z, rfl, hz⟩ := txs x hx
              exact ⟨rfl, .str p, rfl, .str z, rfl, p, z, rfl, rfl, yes2 rfl H7 fun _ _ e => e⟩
            · refine ⟨D3, xs.map (hasV p), rfl, .inl (.inl (by rw [hD3, List.filter_eq_self.mpr fun _ _ => rfl, List.map_map]; rfl)), _, rfl, ?_⟩
              have e7 : (xs.map (hasV p)).any id = xs.any (hasV p) := by
                rw [List.any_map]
                rfl
              rw [e7]
              refine ite2 (fun e8 => ?_) (fun e8 => ?_)
              · exact ⟨.str p, rfl, yes e8 H8 s8⟩
              · exact no (Bool.eq_false_iff.mpr e8) H8 s8
          · refine good rfl g xs rfl e2 D2 H6 (s15.trans s6) ?_
            rw [hD2, List.map_id']
            have e9 : ((ws.map V.str).filter fun y => xs.any (hasV (txV y))) = (ofPage ws xs).map V.str := by
              unfold ofPage
              rw [List.filter_map]
              rfl
            rw [e9]
end
end K11

namespace K11
open PySem PySem.Spec PyProof.Rows PySem.ErrX L2 Wd
section
variable {P : Program} {w : World} {K : PySem.W.Frag} {mg : Str → Option Value} {base : Heap} {a : Nat → Addr} {d : Nat → FuncData}
theorem G_Family__check_choice (k : Kit K mg a d) : FnOk P w K mg base (L2.CX P w) 3 (a i_Family__check_choice) (d i_Family__check_choice) ["self", "value"] (spFamCheck K (a k_Family) (a e_BadPieces)) := by
  have G_is_choice : FnOk P w K mg base CX0 2 _ _ ["value", "pieces"] (spChoice K) := G_is_choice k
  refine k.F_Family__check_choice.okX sc_Family__check_choice (fun vs H Q E h => ?_) (fun cdv A outer s H vs Q E hr h => ?_)
  · obtain ⟨q, s, ws, x, b, rfl, _⟩ := h
    rfl
  · obtain ⟨q, sg, ws, x, b, rfl, ⟨dx, t, hq, ht⟩, lb, bad, good⟩ := h
    refine ⟨_, (pss_one (ps_if (pt_not (pt_val (k.D_is_choice.call G_is_choice (hr.mono (by decide)) (pa_cons (pv 1) (pa_cons (pe_fld (pv 0) (by rfl)) pa_nil))))) (pss_one (ps_raiseErr rfl k.E_BadPieces k.y_BadPieces hr (takes_of rfl rfl rfl rfl) (pa_cons (pv 1) pa_nil))) pss_nil)), ?_⟩
    refine ⟨x, rfl, .ref q, rfl, q, a k_Family, dx, _, .ref t, rfl, hq, k.Cl_Family, k.n_Family__pieces, rfl, x, t, ws, b, rfl, .inr ht, lb, fun H1 s1 => ⟨_, rfl, ?_⟩⟩
    cases b with
    | false => exact iteT ⟨x, rfl, x, rfl, fun d hd => bad rfl H1 d s1 hd⟩
    | true => exact iteF (good rfl H1 s1)
/-- a choice, as a list of texts -/
theorem choice_txt {H : Hp} {ws : List Str} {x : V} (lb : ListB K H (choiceB ws) x true) : ∃ (t : Addr) (zs : List Str), x = .ref t ∧ H t = some (.lst (zs.map V.str)) ∧ zs.length ≤ 1000 := by
  obtain ⟨t, xs, rfl, ht⟩ : ∃ t xs, x = .ref t ∧ H t = some (.lst xs) := by
    rcases lb.1.lstOr with z | z
    · exact z
    · exact nomatch lb.2.2 z
  obtain ⟨few, kinds, eb⟩ := lb.2.1 t xs rfl ht
  have al : xs.all (isPiece ws) = true := by
    unfold choiceB at eb
    cases z : xs.all (isPiece ws) with
    | true => rfl
    | false =>
      rw [z] at eb
      cases eb
  obtain ⟨zs, rfl⟩ := strs_of_all isPiece_str al
  rw [List.length_map] at few
  exact ⟨t, zs, rfl, ht, few⟩
theorem G_Family_cut (k : Kit K mg a d) : FnOk P w K mg base (L2.CX P w) 6 (a i_Family_cut) (d i_Family_cut) ["self", "choice"] (spFamCut K (a k_Family) (a e_BadPieces)) := by
  have G_Family__check_choice : FnOk P w K mg base (L2.CX P w) 3 _ _ ["self", "value"] _ := G_Family__check_choice k
  have G_Family___init__ : FnOk P w K mg base (L2.CX P w) 4 _ _ ["self", "signs", "pieces"] _ := G_Family___init__ k
  refine k.F_Family_cut.okX sc_Family_cut (fun vs H Q E h => ?_) (fun cdv A outer s H vs Q E hr h => ?_)
  · obtain ⟨q, s, ws, x, b, rfl, _⟩ := h
    rfl
  · obtain ⟨q, sg, ws, x, b, rfl, ⟨dx, t, hq, ht⟩, gf, lb, bad, good⟩ := h
    refine ⟨_, (pss_cons (ps_expr (pe_meth (pv 0) k.Cl_Family k.M_Family__check_choice G_Family__check_choice (hr.mono (by decide)) k.b_Family__check_choice .nil passE (pa_cons (pv 1) pa_nil)))
      (pss_one (ps_ret (pe_make k.Mk_Family G_Family___init__ (hr.mono (by decide)) (by rfl) k.G_Family k.b_Family___init__ .nil passE (pa_cons (pe_fld (pv 0) (by rfl)) (pa_cons (pe_lc (own := [("piece", 2)]) (g := (gName 2)) rfl sc_Family_cut.nd (pi_tup (pe_fld (pv 0) (by rfl))) (blkOk_by (N := N_Family_cut) (sc := defScope m_Family_cut) (by decide +kernel)) (fun _ _ _ _ _ => (pg_name (i := 2) sc_Family_cut.nd rfl (Or.inl rfl))) (fun _ _ _ _ _ => pts_one (pt_cmpR (op_in_seqK (K := K) rfl) (pv 2) (pv 1) (by rfl))) (fun _ _ _ _ _ => (pv 2))) pa_nil)))))), ?_⟩
    refine ⟨.ref q, rfl, q, dx, _, rfl, hq, rfl, x, rfl, q, sg, ws, x, b, rfl, ⟨dx, t, hq, ht⟩, lb, bad, fun eb H1 s1 => ?_⟩
    subst eb
    obtain ⟨c, zs, rfl, hc, few⟩ := choice_txt lb
    refine ⟨.ref q, rfl, q, a k_Family, dx, _, .str sg, rfl, s1 _ _ hq, k.Cl_Family, k.n_Family__signs, rfl, .ref q, rfl, q, a k_Family, dx, _, .ref t, rfl, s1 _ _ hq, k.Cl_Family, k.n_Family__pieces, rfl, t, rfl, ⟨_, sqT_same s1 ht⟩, fun D nD => ?_⟩
    have gw := gf.words
    refine lc_pure (walk_tup (K := K) (a := t) (xs := ws.map V.str)) (fun H' s' => sqT_same (s1.trans s') ht) (by rw [List.length_map]; omega) nD (fun y => decide (txV y ∈ zs)) (fun y => y) (fun y hy H' s' KK R yes no => ?_) fun H5 s5 hD => ?_
    · obtain ⟨p, hp, rfl⟩ := List.mem_map.mp hy
      refine ⟨rfl, .str p, rfl, .ref c, rfl, c, zs.map V.str, rfl, .inl (.inl (.inl (s' _ _ (s1 _ _ hc)))), rfl, flat_strs zs, _, rfl, ?_⟩
      show if inV (.str p) (zs.map V.str) = true then _ else _
      rw [inV_strs]
      refine ite2 (fun e8 => ?_) (fun e8 => ?_)
      · exact ⟨.str p, rfl, yes e8 H' fun _ _ e => e⟩
      · exact no (Bool.eq_false_iff.mpr e8) H' fun _ _ e => e
    · have e9 : ((ws.map V.str).filter fun y => decide (txV y ∈ zs)) = (ws.filter fun p => decide (p ∈ zs)).map V.str := by
        rw [List.filter_map]
        rfl
      rw [List.map_id', e9] at hD
      have gc := gf.cutOk fun p => decide (p ∈ zs)
      have s15 := s1.trans s5
      refine fun r dr nr nd ne => ?_
      have sm : Same H5 (upd (upd H5 dr (.own r)) r (.ins (a k_Family) dr [])) := fun b o e => by
        rw [upd_ne (ne_of_none e nr), upd_ne (ne_of_none e nd)]
        exact e
      have kinds : ∀ y ∈ (ws.filter fun p => decide (p ∈ zs)).map V.str, Kind K (upd (upd H5 dr (.own r)) r (.ins (a k_Family) dr [])) y := fun y hy => by
        obtain ⟨p, hp, rfl⟩ := List.mem_map.mp hy
        have := (gw.2.1 p (List.mem_filter.mp hp).1).2.1
        exact .str p (by omega)
      have few2 : ((ws.filter fun p => decide (p ∈ zs)).map V.str).length ≤ 1000 := by
        rw [List.length_map]
        exact gc.few
      have lb2 : ListB K (upd (upd H5 dr (.own r)) r (.ins (a k_Family) dr [])) (piecesB sg) (.ref D) true := by
        have z := ListB.of (f := piecesB sg) (sm _ _ hD) few2 kinds
        rw [gc.pc] at z
        exact z
      have len3 : sg.length ≤ 1000 := by
        have q := gf.sg
        have q1 : (low sg && (decide (1 ≤ sg.length) && decide (sg.length ≤ 6)) && rising sg) = true := q
        rw [Bool.and_eq_true, Bool.and_eq_true, Bool.and_eq_true] at q1
        have := of_decide_eq_true q1.1.2.2
        omega
      refine ⟨r, dr, .str sg, .ref D, rfl, upd_same, .str sg len3, fun e => (by rw [gf.sg] at e; cases e), fun s0 e0 _ => ?_⟩
      cases e0
      refine ⟨true, lb2, (fun e => nomatch e), fun _ t' ws' e1 e2 H' keep fo => ⟨rfl, ?_⟩⟩
      cases e1
      have e3 := e2
      rw [sm _ _ hD] at e3
      have e4 : (ws.filter fun p => decide (p ∈ zs)).map V.str = ws'.map V.str := by injection (Option.some.inj e3)
      have e5 : ws.filter (fun p => decide (p ∈ zs)) = ws' := List.map_inj_right (fun x y e => by injection e) |>.mp e4
      rw [← e5] at fo
      have nrH : H r = none := by
        cases z : H r with
        | none => rfl
        | some o =>
          rw [s15 _ _ z] at nr
          cases nr
      refine good rfl c zs rfl hc r H' (fun b o e => keep b o (fun z => by rw [z, nrH] at e; cases e) (sm _ _ (s15 _ _ e))) nrH fo
theorem G_Family_is_allowed (k : Kit K mg a d) : FnOk P w K mg base (L2.CX P w) 4 (a i_Family_is_allowed) (d i_Family_is_allowed) ["self", "found", "line"] (spFamAllowed K (a k_Family) (a e_BadPieces)) := by
  have G_Family__check_choice : FnOk P w K mg base (L2.CX P w) 3 _ _ ["self", "value"] _ := G_Family__check_choice k
  have G_is_line : FnOk P w K mg base CX0 1 _ _ ["value"] (spLine K) := G_is_line k
  have G_is_over : FnOk P w K mg base CX0 1 _ _ ["line", "signs"] (spOver K) := G_is_over k
  refine k.F_Family_is_allowed.okX sc_Family_is_allowed (fun vs H Q E h => ?_) (fun cdv A outer s H vs Q E hr h => ?_)
  · obtain ⟨q, s, ws, x, y, b, rfl, _⟩ := h
    rfl
  · obtain ⟨q, sg, ws, x, y, b, rfl, ⟨dx, t, hq, ht⟩, fewW, lb, ky, bad, good⟩ := h
    refine ⟨_, (pss_cons (ps_expr (pe_meth (pv 0) k.Cl_Family k.M_Family__check_choice G_Family__check_choice (hr.mono (by decide)) k.b_Family__check_choice .nil passE (pa_cons (pv 1) pa_nil)))
      (pss_cons (ps_if (PW.pt (pw_or (pt_not (pt_val (k.D_is_line.call G_is_line (hr.mono (by decide)) (pa_cons (pv 2) pa_nil)))) (pw_or1 (pt_not (pt_val (k.D_is_over.call G_is_over (hr.mono (by decide)) (pa_cons (pv 2) (pa_cons (pe_fld (pv 0) (by rfl)) pa_nil)))))))) (pss_one (ps_ret pe_bl)) pss_nil)
      (pss_one (ps_ret (pe_callB (cr_all rfl) (by rfl) k.z_all Wd.boot_all (pa_cons (pe_lc (own := [("piece", 3)]) (g := (gName 3)) rfl sc_Family_is_allowed.nd (pi_tup (pe_fld (pv 0) (by rfl))) (blkOk_by (N := N_Family_is_allowed) (sc := defScope m_Family_is_allowed) (by decide +kernel)) (fun _ _ _ _ _ => (pg_name (i := 3) sc_Family_is_allowed.nd rfl (Or.inl rfl))) (fun _ _ _ _ _ => pts_one (pt_cmpR op_in_str (pv 3) (pv 2) (by rfl))) (fun _ _ _ _ _ => (pe_cmpR (op_in_seqK (K := K) rfl) (pv 3) (pv 1) (by rfl)))) pa_nil)))))), ?_⟩
    refine ⟨.ref q, rfl, q, dx, _, rfl, hq, rfl, x, rfl, q, sg, ws, x, b, rfl, ⟨dx, t, hq, ht⟩, lb, bad, fun eb H1 s1 => ?_⟩
    subst eb
    obtain ⟨c, zs, rfl, hc, few⟩ := choice_txt lb
    have fin := good rfl c zs rfl hc
    refine ⟨y, rfl, y, rfl, ky.same s1, fun H2 s2 => ⟨_, rfl, ?_⟩⟩
    have s12 := s1.trans s2
    cases el : isLine y with
    | false =>
      have z : allowedB sg ws zs y = false := by
        cases y with
        | str l =>
          have e1 : low l = false := el
          show ((low l && over sg l) && _) = false
          rw [e1]
          rfl
        | _ => rfl
      rw [z] at fin
      exact iteT (iteT (fin H2 s12))
    | true =>
      refine iteF ?_
      obtain ⟨l, rfl⟩ : ∃ z, y = .str z := by
        cases y with
        | str z => exact ⟨z, rfl⟩
        | _ => cases el
      have e1 : low l = true := el
      have hl : l.length ≤ 1000 := by
        cases ky with
        | str _ h => exact h
      refine ⟨.str l, rfl, .ref q, rfl, q, a k_Family, dx, _, .str sg, rfl, s12 _ _ hq, k.Cl_Family, k.n_Family__signs, rfl, l, sg, rfl, hl, fun H3 s3 => ⟨_, rfl, ?_⟩⟩
      have s13 := s12.trans s3
      cases eo : over sg l with
      | false =>
        have z : allowedB sg ws zs (.str l) = false := by
          show ((low l && over sg l) && _) = false
          rw [e1, eo]
          rfl
        rw [z] at fin
        exact iteT (fin H3 s13)
      | true =>
        refine iteF ⟨.ref q, rfl, q, a k_Family, dx, _, .ref t, rfl, s13 _ _ hq, k.Cl_Family, k.n_Family__pieces, rfl, t, rfl, ⟨_, sqT_same s13 ht⟩, fun D nD => ?_⟩
        refine lc_pure (walk_tup (K := K) (a := t) (xs := ws.map V.str)) (fun H' s' => sqT_same (s13.trans s') ht) (by rw [List.length_map]; omega) nD (fun y => hasSub l (txV y)) (fun y => .bl (decide (txV y ∈ zs))) (fun y hy H' s' KK R yes no => ?_) fun H5 s5 hD => ?_
        · obtain ⟨p, hp, rfl⟩ := List.mem_map.mp hy
          refine ⟨rfl, .str p, rfl, .str l, rfl, p, l, rfl, rfl, _, rfl, ?_⟩
          show if hasSub l p = true then _ else _
          refine ite2 (fun e8 => ?_) (fun e8 => ?_)
          · refine ⟨.str p, rfl, .ref c, rfl, c, zs.map V.str, rfl, .inl (.inl (.inl (s' _ _ (s13 _ _ hc)))), rfl, flat_strs zs, ?_⟩
            show KK (.bl (inV (.str p) (zs.map V.str))) _
            rw [inV_strs]
            exact yes e8 H' fun _ _ e => e
          · exact no (Bool.eq_false_iff.mpr e8) H' fun _ _ e => e
        · refine ⟨D, (ws.filter fun p => hasSub l p).map fun p => decide (p ∈ zs), rfl, .inl (.inl (by rw [hD, List.filter_map, List.map_map, List.map_map]; rfl)), ?_⟩
          have e : (((ws.filter fun p => hasSub l p).map fun p => decide (p ∈ zs)).all id) = allowedB sg ws zs (.str l) := by
            show _ = ((low l && over sg l) && ws.all fun p => !hasSub l p || decide (p ∈ zs))
            rw [e1, eo, List.all_map, List.all_filter]
            rfl
          rw [e]
          exact fin H5 (s13.trans s5)
end
end K11

namespace K11
open PySem PySem.Spec PyProof.Rows PySem.ErrX L2 Wd
section
variable {P : Program} {w : World} {K : PySem.W.Frag} {mg : Str → Option Value} {base : Heap} {a : Nat → Addr} {d : Nat → FuncData}
theorem G__law_pool (k : Kit K mg a d) : FnOk P w K mg base CX0 1 (a i__law_pool) (d i__law_pool) ["_law_script", "_law_k"] (spPool K) := by
  refine k.D__law_pool.F.ok sc__law_pool (fun vs H Q E h => ?_) (fun cdv A outer s H vs Q E hr h => ?_)
  · obtain ⟨b0, ns, kk, rfl, _⟩ := h
    rfl
  · obtain ⟨b0, ns, kk, rfl, hS, hlen, k0, k1, q⟩ := h
    refine ⟨_, pss_cons (ps_set (i := 2) sc__law_pool.nd rfl (.inl rfl) (pe_op op_add (pe_op op_mul pe_int (pe_callB (cr_sum rfl) (by rfl) k.z_sum (by decide +kernel) (pa_cons (pe_slice sl_list (pv 0) po_none (po_some pe_int)) pa_nil))) (pv 1)))
      (pss_cons (ps_if (pt_cmpR op_lt (pv 1) (pe_callB call_len_seq (by rfl) k.z_len PySem.boot_len (pa_cons (pv 0) pa_nil)) (nomark _)) (pss_one (ps_set (i := 2) sc__law_pool.nd rfl (.inl rfl) (pe_ix ix_list (pv 0) (pv 1) (fun _ _ => rfl)))) pss_nil)
      (pss_cons (ps_set (i := 3) sc__law_pool.nd rfl (.inl rfl) (pe_callB call_abs (by rfl) k.z_abs (by decide +kernel) (pa_cons (pe_callTy call_int1 (by rfl) k.z_int (by decide +kernel) (pa_cons (pv 2) pa_nil)) pa_nil)))
      (pss_cons (ps_set (i := 4) sc__law_pool.nd rfl (.inl rfl) (pe_op op_modN (pe_callTy call_int1 (by rfl) k.z_int (by decide +kernel) (pa_cons (pv 3) pa_nil)) pe_int))
      (pss_cons (ps_set (i := 5) sc__law_pool.nd rfl (.inl rfl) (pe_op op_modN (pe_callTy call_int1 (by rfl) k.z_int (by decide +kernel) (pa_cons (pe_op op_mul (pe_op op_add (pe_op op_add (pe_op op_add (pv 4) (pe_op op_mul (pe_op op_mul pe_int (pv 1)) (pv 1))) (pe_op op_mul pe_int (pv 1))) pe_int) pe_int) pa_nil)) pe_int))
      (pss_one (ps_ret (pe_lst (pa_cons (pe_op op_mul (pv 3) (pe_callTy call_int1 (by rfl) k.z_int (by decide +kernel) (pa_cons (pe_cmpR op_ge (pv 3) (pe_op op_pow pe_int pe_int) (nomark _)) pa_nil))) (pa_cons (pe_op op_modN (pe_callTy call_int1 (by rfl) k.z_int (by decide +kernel) (pa_cons (pe_op op_mul (pv 5) (pv 5)) pa_nil)) pe_int) pa_nil))))))))), ?_⟩
    refine ⟨.ref b0, rfl, 63, rfl, b0, ns.map V.int, rfl, hS, fun c nc => ?_⟩
    have nn : Same H (upd H c (.lst (cutV (ns.map V.int) none (some 63)))) := same_upd nc
    obtain ⟨ms, em⟩ : ∃ ms : List Int, cutV (ns.map V.int) none (some 63) = ms.map V.int := ⟨_, by unfold cutV; rw [← List.map_drop, ← List.map_take]⟩
    have hs : SqL K (upd H c (.lst (cutV (ns.map V.int) none (some 63)))) c (ms.map V.int) := .inl (.inl (by rw [upd_same, em]))
    have item : (decide (kk < ((ns.map V.int).length : Int))) = true → atI (ns.map V.int) kk = some (.int (ns.getD kk.toNat 0)) := fun e => by
      have e1 := of_decide_eq_true e
      rw [List.length_map] at e1
      have e2 : kk.toNat < ns.length := by omega
      have e3 : kk = (kk.toNat : Int) := by omega
      rw [e3]
      refine atI_nat ?_
      rw [List.getElem?_map, List.getElem?_eq_getElem e2, Int.toNat_natCast, List.getD_eq_getElem?_getD, List.getElem?_eq_getElem e2]
      rfl
    refine ⟨c, ms, rfl, hs, 11, ms.sum, rfl, rfl, .inl ⟨by decide, by decide⟩, .int kk, rfl, _, _, rfl, rfl, ?_⟩
    refine ⟨.int kk, rfl, .ref b0, rfl, b0, ns.map V.int, rfl, .inl (nn.seq hS), _, _, rfl, rfl, _, rfl, ite2 (fun e => ⟨.ref b0, rfl, .int kk, rfl, b0, _, kk, _, rfl, rfl, nn.seq hS, item e, ?_⟩) (fun e => ?_)⟩
    all_goals
      refine ⟨_, rfl, .inl ⟨_, rfl, _, rfl, ?_⟩⟩
      refine ⟨_, rfl, .inl ⟨_, rfl, _, _, rfl, rfl, nz1, ?_⟩⟩
      refine ⟨_, rfl, _, rfl, _, _, rfl, rfl, .inl ⟨by decide, by decide⟩, _, rfl, _, _, rfl, rfl, .inr ⟨by omega, by omega⟩, _, _, rfl, rfl, _, rfl, _, _, rfl, rfl, .inl ⟨by decide, by decide⟩, _, _, rfl, rfl, _, _, rfl, rfl, _, _, rfl, rfl, .inr ⟨by decide, by decide⟩, .inl ⟨_, rfl, _, _, rfl, rfl, nz2, ?_⟩⟩
      refine ⟨_, rfl, _, rfl, _, _, rfl, rfl, ⟨by decide, by decide, by decide⟩, _, _, rfl, rfl, .inr ⟨_, rfl, _, _, rfl, rfl, .inr (bit_small _), _, rfl, _, rfl, _, _, rfl, rfl, .inl (mod_small _), .inl ⟨_, rfl, _, _, rfl, rfl, nz1, ?_⟩⟩⟩
      refine ⟨(by show 2 ≤ sizeLine; decide), fun p np => ?_⟩
      have n0 : H p = none := by
        cases z : H p with
        | none => rfl
        | some o =>
          rw [nn _ _ z] at np
          cases np
      exact q _ p _ _ (nn.trans (same_upd np)) n0 upd_same
theorem G__law_draw (k : Kit K mg a d) : FnOk P w K mg base CX0 1 (a i__law_draw) (d i__law_draw) ["_law_pool_here", "_law_many"] spDraw := by
  refine k.D__law_draw.F.ok sc__law_draw (fun vs H Q E h => ?_) (fun cdv A outer s H vs Q E hr h => ?_)
  · obtain ⟨p, many, g, m, rfl, _⟩ := h
    rfl
  · obtain ⟨p, many, g, m, rfl, hp, m0, m1, q⟩ := h
    refine ⟨_, pss_cons (ps_if (pt_cmpR op_gt (pe_ix ix_list (pv 0) pe_int (fun _ _ => rfl)) pe_int (nomark _))
        (pss_cons (ps_set (i := 2) sc__law_draw.nd rfl (.inl rfl) (pe_op op_modN (pe_callTy call_int1 (by rfl) k.z_int (by decide +kernel) (pa_cons (pe_ix ix_list (pv 0) pe_int (fun _ _ => rfl)) pa_nil)) (pv 1)))
        (pss_cons (ps_asg (pe_op op_fdivN (pe_ix ix_list (pv 0) pe_int (fun _ _ => rfl)) (pv 1)) (pg_sub (pv 0) pe_int set_list))
        (pss_one (ps_ret (pv 2))))) pss_nil)
      (pss_cons (ps_asg (pe_op op_modN (pe_callTy call_int1 (by rfl) k.z_int (by decide +kernel) (pa_cons (pe_op op_add (pe_op op_mul (pe_ix ix_list (pv 0) pe_int (fun _ _ => rfl)) pe_int) pe_int) pa_nil)) pe_int) (pg_sub (pv 0) pe_int set_list))
      (pss_one (ps_ret (pe_op op_modN (pe_callTy call_int1 (by rfl) k.z_int (by decide +kernel) (pa_cons (pe_op op_fdiv (pe_op op_modN (pe_callTy call_int1 (by rfl) k.z_int (by decide +kernel) (pa_cons (pe_op op_mul (pe_ix ix_list (pv 0) pe_int (fun _ _ => rfl)) (pe_ix ix_list (pv 0) pe_int (fun _ _ => rfl))) pa_nil)) pe_int) pe_int) pa_nil)) (pv 1))))), ?_⟩
    have sq : SqL K H p [.int g, .int m] := .inl (.inl hp)
    have nz : many ≠ 0 := by omega
    have lo : ∀ x : Int, 0 ≤ x.fmod many ∧ x.fmod many < many := fun x => ⟨Int.fmod_nonneg_of_pos x m0, Int.fmod_lt_of_pos x m0⟩
    refine ⟨.ref p, rfl, p, _, 0, .int g, rfl, rfl, sq, atI_nat (j := 0) rfl, _, _, rfl, rfl, _, rfl, ite2 (fun e => ?_) (fun e => ?_)⟩
    · refine ⟨.ref p, rfl, p, _, 0, .int g, rfl, rfl, sq, atI_nat (j := 0) rfl, .inl ⟨_, rfl, .int many, rfl, _, _, rfl, rfl, nz, ?_⟩⟩
      refine ⟨.ref p, rfl, p, _, 0, .int g, rfl, rfl, sq, atI_nat (j := 0) rfl, .int many, rfl, _, _, rfl, rfl, ⟨nz, by omega⟩, .ref p, rfl, p, _, _, 0, rfl, rfl, hp, rfl, ?_⟩
      exact ⟨_, rfl, q _ _ _ (lo g).1 (lo g).2⟩
    · refine ⟨.ref p, rfl, p, _, 1, .int m, rfl, rfl, sq, atI_nat (j := 1) rfl, _, _, rfl, rfl, .inr ⟨by decide, by decide⟩, _, _, rfl, rfl, .inl ⟨_, rfl, _, _, rfl, rfl, nz2, .ref p, rfl, p, _, _, 1, rfl, rfl, hp, rfl, ?_⟩⟩
      refine ⟨.ref p, rfl, p, _, 1, _, rfl, rfl, .inl (.inl upd_same), atI_nat (j := 1) rfl, .ref p, rfl, p, _, 1, _, rfl, rfl, .inl (.inl upd_same), atI_nat (j := 1) rfl, _, _, rfl, rfl, .inl (mod_small _), .inl ⟨_, rfl, _, _, rfl, rfl, nz1, _, _, rfl, rfl, ⟨by decide, by decide⟩, .inl ⟨_, rfl, .int many, rfl, _, _, rfl, rfl, nz, ?_⟩⟩⟩
      exact q _ _ _ (lo _).1 (lo _).2
end
end K11

namespace K11
open PySem PySem.Spec PyProof.Rows PySem.ErrX L2 Wd
section
variable {P : Program} {w : World} {K : PySem.W.Frag} {mg : Str → Option Value} {base : Heap} {a : Nat → Addr} {d : Nat → FuncData}
theorem G__law_mixed (k : Kit K mg a d) : FnOk P w K mg base CX0 2 (a i__law_mixed) (d i__law_mixed) ["_law_pool_here", "_law_things"] spMixed := by
  have G__law_draw : FnOk P w K mg base CX0 1 _ _ ["_law_pool_here", "_law_many"] spDraw := G__law_draw k
  refine k.D__law_mixed.F.ok sc__law_mixed (fun vs H Q E h => ?_) (fun cdv A outer s H vs Q E hr h => ?_)
  · obtain ⟨p, t, xs, rfl, _⟩ := h
    rfl
  · obtain ⟨p, t, xs, rfl, ⟨g, m, hp⟩, ht, ne, few, q⟩ := h
    refine ⟨_, (pss_cons (ps_par (by rfl) sc__law_mixed.nd (i := 2) (j := 3) rfl rfl (by decide) rfl rfl (pa_cons (pe_callTy call_list_of (by rfl) k.z_list Wd.boot_list (pa_cons (pv 1) pa_nil)) (pa_cons (pe_lst pa_nil) pa_nil)) (by rfl))
      (pss_cons (ps_for PassesOwn.never rfl (pi_list (pv 1)) (pg_name (i := 4) sc__law_mixed.nd rfl (Or.inl rfl)) (pss_cons (ps_set (i := 5) sc__law_mixed.nd rfl (Or.inl rfl) (k.D__law_draw.call G__law_draw (hr.mono (by decide)) (pa_cons (pv 0) (pa_cons (pe_callB call_len_seq (by rfl) k.z_len PySem.boot_len (pa_cons (pv 2) pa_nil)) pa_nil))))
      (pss_cons (ps_expr (pe_bm PySem.F.plainAttrs_list PySem.F.slot_list_append PySem.F.type_list_append mt_append (pv 3) (pa_cons (pe_ix ix_list (pv 2) (pv 5) (fun _ _ => rfl)) pa_nil)))
      (pss_one (ps_set (i := 2) sc__law_mixed.nd rfl (Or.inl rfl) (pe_op op_cat (pe_slice sl_list (pv 2) po_none (po_some (pv 5))) (pe_slice sl_list (pv 2) (po_some (pe_op op_add (pv 5) pe_int)) po_none)))))))
      (pss_one (ps_ret (pv 3))))), ?_⟩
    refine ⟨.ref t, rfl, t, xs, rfl, .inl (.inl (.inl ht)), fun l nl => ⟨Nat.zero_le _, fun f nf => ⟨_, _, rfl, ?_⟩⟩⟩
    have sl := same_upd (o := .lst xs) nl
    have sf := same_upd (o := .lst []) nf
    have s2 := sl.trans sf
    have nfH : H f = none := sl.free nf
    have lf : l ≠ f := fun z => by
      rw [← z, upd_same] at nf
      cases nf
    have lp : l ≠ p := fun z => by
      rw [z, hp] at nl
      cases nl
    have fp : f ≠ p := fun z => by
      rw [z, hp] at nfH
      cases nfH
    refine ⟨.ref t, rfl, t, rfl, ⟨xs, .inl (.inl (s2 _ _ ht))⟩, ?_⟩
    refine for_it (walk_list (K := K) (a := t) (xs := xs)) (fun i σ H5 => ∃ l' L Fd y4 y5, σ = [some (.ref p), some (.ref t), some (.ref l'), some (.ref f), y4, y5] ∧ But p H H5 ∧ Pool H5 p ∧ H5 l' = some (.lst L) ∧ H5 f = some (.lst Fd) ∧ l' ≠ p ∧ l' ≠ f ∧ Fd.length = i ∧ L.length + i = xs.length ∧ (Fd ++ L).Perm xs)
      ⟨l, xs, [], _, _, rfl, But.of s2, ⟨g, m, s2 _ _ hp⟩, by rw [upd_ne lf]; exact upd_same, upd_same, lp, lf, rfl, by omega, by simp⟩ (fun i σ H5 _ z => by
        obtain ⟨_, _, _, _, _, _, b5, _⟩ := z
        exact .inl (.inl (b5 _ _ ne ht))) ?_ ?_
    · rintro i x σ H5 H6 hi ⟨l', L, Fd, y4, y5, rfl, b5, ⟨g5, m5, p5⟩, h5l, h5f, l'p, l'f, lenF, lenL, pm⟩ ⟨rfl, hx⟩
      refine ⟨.ref p, rfl, .ref l', rfl, l', L, rfl, .inl (.inl (.inl h5l)), p, (L.length : Int), g5, m5, rfl, p5, by omega, by omega, fun r g6 m6 r0 r1 => ?_⟩
      obtain ⟨n, rfl⟩ : ∃ n : Nat, r = (n : Int) := ⟨r.toNat, by omega⟩
      have hn : n < L.length := by omega
      obtain ⟨v, hv⟩ : ∃ v, L[n]? = some v := ⟨_, List.getElem?_eq_getElem hn⟩
      have h6l : (upd H6 p (.lst [.int g6, .int m6])) l' = some (.lst L) := by rw [upd_ne l'p]; exact h5l
      have h6f : (upd H6 p (.lst [.int g6, .int m6])) f = some (.lst Fd) := by rw [upd_ne fp]; exact h5f
      refine ⟨.ref f, rfl, .inl ⟨rfl, _, .inl (.inl h6f)⟩, .ref l', rfl, .int n, rfl, l', L, n, v, rfl, rfl, .inl (.inl h6l), atI_nat hv, f, Fd, v, rfl, rfl, h6f, small1000 (by omega), ?_⟩
      have h7l : (upd (upd H6 p (.lst [.int g6, .int m6])) f (.lst (Fd ++ [v]))) l' = some (.lst L) := by rw [upd_ne l'f]; exact h6l
      refine ⟨.ref l', rfl, .int n, rfl, n, rfl, l', L, rfl, .inl (.inl h7l), fun c1 n1 => ?_⟩
      have s1 := same_upd (o := .lst (cutV L none (some (n : Int)))) n1
      refine ⟨.ref l', rfl, .int n, rfl, _, _, rfl, rfl, ((n : Int) + 1), rfl, l', L, rfl, .inl (.inl (s1 _ _ h7l)), fun c2 n2 => ?_⟩
      have s2' := same_upd (o := .lst (cutV L (some ((n : Int) + 1)) none)) n2
      refine ⟨c1, c2, _, _, rfl, rfl, s2' _ _ upd_same, upd_same, ?_, fun c3 n3 => ?_⟩
      · have e1 : cutV L (some ((n : Int) + 1)) none = L.drop (n + 1) := cutV_from (r := n + 1)
        rw [cutV_to, e1, List.length_take, List.length_drop]
        exact Nat.le_of_lt (small1000 (by omega))
      · have s3 := same_upd (o := .lst (cutV L none (some (n : Int)) ++ cutV L (some ((n : Int) + 1)) none)) n3
        have s123 := s1.trans (s2'.trans s3)
        have e1 : cutV L (some ((n : Int) + 1)) none = L.drop (n + 1) := cutV_from (r := n + 1)
        have h7p : (upd (upd H6 p (.lst [.int g6, .int m6])) f (.lst (Fd ++ [v]))) p = some (.lst [.int g6, .int m6]) := by rw [upd_ne fp.symm]; exact upd_same
        have h7f : (upd (upd H6 p (.lst [.int g6, .int m6])) f (.lst (Fd ++ [v]))) f = some (.lst (Fd ++ [v])) := upd_same
        have n3' := (s1.trans s2').free n3
        refine ⟨c3, L.take n ++ L.drop (n + 1), Fd ++ [v], _, _, rfl, fun b o nb e => ?_, ⟨g6, m6, s123 _ _ h7p⟩, by rw [upd_same, cutV_to, e1], s123 _ _ h7f, fun z => ?_, fun z => ?_, ?_, ?_, ?_⟩
        · refine s123 _ _ ?_
          rw [upd_ne (fun z => by rw [z, nfH] at e; cases e), upd_ne nb]
          exact b5 _ _ nb e
        · rw [z, h7p] at n3'
          cases n3'
        · rw [z, h7f] at n3'
          cases n3'
        · rw [List.length_append, lenF]
          rfl
        · rw [List.length_append, List.length_take, List.length_drop]
          omega
        · rw [List.append_assoc]
          exact ((mid_perm hv).append_left Fd).trans pm
    · rintro σ H5 ⟨l', L, Fd, y4, y5, rfl, b5, p5, h5l, h5f, l'p, l'f, lenF, lenL, pm⟩
      have e : L = [] := List.eq_nil_of_length_eq_zero (by omega)
      rw [e, List.append_nil] at pm
      exact ⟨.ref f, rfl, q f H5 Fd b5 p5 nfH h5f pm⟩
theorem G__law_line (k : Kit K mg a d) : FnOk P w K mg base CX0 2 (a i__law_line) (d i__law_line) ["_law_pool_here", "_law_signs", "_law_most"] spLineD := by
  have G__law_draw : FnOk P w K mg base CX0 1 _ _ ["_law_pool_here", "_law_many"] spDraw := G__law_draw k
  refine k.D__law_line.F.ok sc__law_line (fun vs H Q E h => ?_) (fun cdv A outer s H vs Q E hr h => ?_)
  · obtain ⟨p, sg, most, rfl, _⟩ := h
    rfl
  · obtain ⟨p, sg, most, rfl, ⟨g, m, hp⟩, l1, l2, m0, m1, q⟩ := h
    refine ⟨_, (pss_one (ps_ret (pe_join pe_str (pe_lc (own := [("_law_turn", 3)]) (g := (gName 3)) (tt := tYes) rfl sc__law_line.nd (pi_range1 (by rfl) k.z_range (pa_cons (k.D__law_draw.call G__law_draw (hr.mono (by decide)) (pa_cons (pv 0) (pa_cons (pe_op op_add (pv 2) pe_int) pa_nil))) pa_nil)) (blkOk_by (N := N__law_line) (sc := defScope s__law_line) (by decide +kernel)) (fun _ _ _ _ _ => (pg_name (i := 3) sc__law_line.nd rfl (Or.inl rfl))) (fun _ _ _ _ _ => pts_nil) (fun _ _ _ _ _ => (pe_ix ix_str (pv 1) (k.D__law_draw.call G__law_draw (hr.mono (by decide)) (pa_cons (pv 0) (pa_cons (pe_callB call_len_str (by rfl) k.z_len PySem.boot_len (pa_cons (pv 1) pa_nil)) pa_nil))) (fun _ _ => rfl))))))), ?_⟩
    refine ⟨⟨_, rfl⟩, .ref p, rfl, .int most, rfl, _, _, rfl, rfl, p, most + 1, g, m, rfl, hp, by omega, by omega, fun n g2 m2 n0 n1 => ?_⟩
    obtain ⟨H2, eH⟩ : ∃ H2, H2 = upd H p (.lst [.int g2, .int m2]) := ⟨_, rfl⟩
    have b2 : But p H H2 := by rw [eH]; exact But.upd
    have p2 : H2 p = some (.lst [.int g2, .int m2]) := by rw [eH]; exact upd_same
    rw [← eH]
    refine ⟨n, rfl, by omega, by omega, fun D nD => ?_⟩
    have nDp : D ≠ p := fun z => by
      rw [z, p2] at nD
      cases nD
    refine lc_range (lo := 0) (n := n.toNat) (fun i H5 => But p H2 H5 ∧ Pool H5 p ∧ ∃ cs : List Nat, cs.length = i ∧ (∀ c ∈ cs, c ∈ sg.cps.toList) ∧ H5 D = some (.lst ((cs.map sing).map V.str)))
      ⟨But.of (same_upd nD), ⟨g2, m2, by rw [upd_ne nDp.symm]; exact p2⟩, [], rfl, by simp, upd_same⟩ ?_ ?_
    · rintro i H5 hi ⟨b5, ⟨g5, m5, p5⟩, cs, lc, hc, hD⟩
      refine ⟨rfl, .str sg, rfl, .ref p, rfl, .str sg, rfl, sg, rfl, small (by omega), p, sg.length, g5, m5, rfl, p5, by omega, by omega, fun r2 g6 m6 r20 r21 => ?_⟩
      have lt : r2.toNat < sg.cps.size := by
        have e : sg.length = sg.cps.size := rfl
        omega
      obtain ⟨c0, at_⟩ : ∃ c0, sg.cps.toList[r2.toNat]? = some c0 := ⟨_, by rw [Array.getElem?_toList]; exact Array.getElem?_eq_getElem lt⟩
      have er : ((r2.toNat : Nat) : Int) = r2 := by omega
      have at2 := atI_nat at_
      rw [er] at at2
      refine ⟨sg, r2, c0, rfl, rfl, small (by omega), at2, (cs.map sing).map V.str, ?_, ?_, ?_, ?_, cs ++ [c0], ?_, ?_, ?_⟩
      · rw [upd_ne nDp]
        exact hD
      · rw [List.length_map, List.length_map]
        exact small1000 (by omega)
      · intro c o ne e
        rw [upd_ne (ne_of_none e nD), upd_ne ne]
        exact b5 c o ne e
      · exact ⟨g6, m6, by rw [upd_ne nDp.symm]; exact upd_same⟩
      · rw [List.length_append, lc]
        rfl
      · intro c hc2
        rcases List.mem_append.mp hc2 with z | z
        · exact hc c z
        · rw [List.mem_singleton.mp z]
          exact List.mem_of_getElem? at_
      · rw [upd_same, List.map_append, List.map_append]
        rfl
    · rintro H5 ⟨b5, p5, cs, lc, hc, hD⟩
      refine ⟨"", D, cs.map sing, rfl, rfl, .inl (.inl (.inl hD)), ?_, ?_⟩
      · have t := total_le (cs.map sing) 1 fun y hy => by
          obtain ⟨c, _, rfl⟩ := List.mem_map.mp hy
          exact Nat.le_refl 1
        rw [List.length_map] at t ⊢
        have e1 : ("" : Str).length = 0 := rfl
        rw [e1]
        omega
      · refine q H5 _ (b2.trans b5) p5 ?_ ?_
        · have e : (Txt.join "" (cs.map sing)).length = (Txt.join "" (cs.map sing)).cps.toList.length := Array.length_toList.symm
          rw [e, join_sing]
          omega
        · unfold over
          rw [join_sing]
          exact List.all_eq_true.mpr fun c hc2 => decide_eq_true (hc c hc2)
end
end K11

namespace K11
open PySem PySem.Spec PyProof.Rows PySem.ErrX L2 Wd
section
variable {P : Program} {w : World} {K : PySem.W.Frag} {mg : Str → Option Value} {base : Heap} {a : Nat → Addr} {d : Nat → FuncData}
theorem G__law_family (k : Kit K mg a d) : FnOk P w K mg base CX0 6 (a i__law_family) (d i__law_family) ["_law_pool_here", "_law_signs", "_law_most"] (spFamily K (a k_Family)) := by
  have G__law_draw : FnOk P w K mg base CX0 1 _ _ ["_law_pool_here", "_law_many"] spDraw := G__law_draw k
  have G__law_mixed : FnOk P w K mg base CX0 2 _ _ ["_law_pool_here", "_law_things"] spMixed := G__law_mixed k
  have G_Family___init__ : FnOk P w K mg base (L2.CX P w) 4 _ _ ["self", "signs", "pieces"] _ := G_Family___init__ k
  refine k.D__law_family.F.ok sc__law_family (fun vs H Q E h => ?_) (fun cdv A outer s H vs Q E hr h => ?_)
  · obtain ⟨p, sg, most, rfl, _⟩ := h
    rfl
  · obtain ⟨p, sg, most, rfl, ⟨g, m, hp⟩, gw, m0, m8, q⟩ := h
    refine ⟨_, (pss_cons (ps_setLc (i := 3) (own := [("_law_sign", 4)]) (g := (gName 4)) (tt := tYes) rfl sc__law_family.nd rfl rfl (sw_true rfl rfl rfl (by decide +kernel)) (pi_str (pv 1)) (blkOk_by (N := N__law_family) (sc := defScope s__law_family) (by decide +kernel)) (fun _ _ _ _ _ => (pg_name (i := 4) sc__law_family.nd rfl (Or.inl rfl))) (fun _ _ _ _ _ => pts_nil) (fun _ _ _ _ _ => (pv 4)))
      (pss_cons (ps_for PassesOwn.never rfl (pi_str (pv 1)) (pg_name (i := 5) sc__law_family.nd rfl (Or.inr rfl)) (pss_one (ps_set (i := 3) sc__law_family.nd rfl (Or.inl rfl) (pe_op op_cat (pv 3) (pe_lc (own := [("_law_other", 6)]) (g := (gName 6)) (tt := tYes) rfl sc__law_family.nd (pi_str (pv 1)) (blkOk_by (N := N__law_family) (sc := defScope s__law_family) (by decide +kernel)) (fun _ _ _ _ _ => (pg_name (i := 6) sc__law_family.nd rfl (Or.inl rfl))) (fun _ _ _ _ _ => pts_nil) (fun _ _ _ _ _ => (pe_op op_add_str (pv 5) (pv 6))))))))
      (pss_cons (ps_for PassesOwn.never rfl (pi_list (pe_callTy call_list_of (by rfl) k.z_list Wd.boot_list (pa_cons (pv 3) pa_nil))) (pg_name (i := 5) sc__law_family.nd rfl (Or.inr rfl)) (pss_one (ps_set (i := 3) sc__law_family.nd rfl (Or.inl rfl) (pe_op op_cat (pv 3) (pe_lc (own := [("_law_other", 6)]) (g := (gName 6)) rfl sc__law_family.nd (pi_str (pv 1)) (blkOk_by (N := N__law_family) (sc := defScope s__law_family) (by decide +kernel)) (fun _ _ _ _ _ => (pg_name (i := 6) sc__law_family.nd rfl (Or.inl rfl))) (fun _ _ _ _ _ => pts_one (pt_cmpR op_eq (pe_callB call_len_str (by rfl) k.z_len PySem.boot_len (pa_cons (pv 5) pa_nil)) pe_int (nomark _))) (fun _ _ _ _ _ => (pe_op op_add_str (pv 5) (pv 6))))))))
      (pss_one (ps_ret (pe_make k.Mk_Family G_Family___init__ (hr.mono (by decide)) (by rfl) k.G_Family k.b_Family___init__ .nil passX0 (pa_cons (pv 1) (pa_cons (pe_slice sl_list (k.D__law_mixed.call G__law_mixed (hr.mono (by decide)) (pa_cons (pv 0) (pa_cons (pv 3) pa_nil))) po_none (po_some (k.D__law_draw.call G__law_draw (hr.mono (by decide)) (pa_cons (pv 0) (pa_cons (pe_op op_add (pv 2) pe_int) pa_nil))))) pa_nil)))))))), ?_⟩
    have lsg := gw.len
    have lz : sg.cps.size = sg.length := rfl
    have at_c : ∀ {i c : Nat}, sg.cps[i]? = some c → (signsOf sg)[i]? = some (sing c) := fun {i c} e => by
      show (sg.cps.toList.map _)[i]? = _
      rw [List.getElem?_map, Array.getElem?_toList, e]
      rfl
    refine ⟨.str sg, rfl, sg, rfl, fun D nD => ?_⟩
    refine lc_pureS (by omega) nD (fun _ => true) (fun c => .str (sing c)) (fun c hc H' s' KK R yes no => ⟨rfl, .str ⟨#[c]⟩, rfl, yes rfl H' fun _ _ e => e⟩) fun H5 s5 hD => ?_
    have hD' : H5 D = some (.lst ((w1 sg).map V.str)) := by
      rw [hD, List.filter_eq_self.mpr fun _ _ => rfl]
      unfold w1 signsOf
      rw [List.map_map]
      rfl
    refine ⟨.str sg, rfl, sg, rfl, ?_⟩
    refine for_it walk_str (fun i σ H6 => ∃ l y4 y5 y6, σ = [some (.ref p), some (.str sg), some (.int most), some (.ref l), y4, y5, y6] ∧ Same H H6 ∧ H l = none ∧ H6 l = some (.lst ((w1 sg ++ ((signsOf sg).take i).flatMap (ext sg)).map V.str)))
      ⟨D, _, _, _, rfl, s5, nD, by rw [hD']; simp⟩ (fun _ _ _ _ _ => trivial) ?_ ?_
    · rintro i x σ H6 H7 hi ⟨l, y4, y5, y6, rfl, s6, nl, hl⟩ ⟨rfl, c, hc, rfl⟩
      have hi' : i < sg.length := hi
      refine ⟨.ref l, rfl, .str sg, rfl, sg, rfl, fun D2 nD2 => ?_⟩
      refine lc_pureS (by omega) nD2 (fun _ => true) (fun e => .str (sing c ++ sing e)) (fun e he H' s' KK R yes no => ⟨rfl, .str ⟨#[c]⟩, rfl, .str ⟨#[e]⟩, rfl, _, _, rfl, rfl, by show 1 + 1 ≤ sizeLine; decide, yes rfl H' fun _ _ e => e⟩) fun H8 s8 hD2 => ?_
      have hD2' : H8 D2 = some (.lst ((ext sg (sing c)).map V.str)) := by
        rw [hD2, List.filter_eq_self.mpr fun _ _ => rfl]
        unfold ext signsOf
        rw [List.map_map, List.map_map]
        rfl
      refine ⟨l, D2, _, _, rfl, rfl, s8 _ _ hl, hD2', ?_, fun l2 n2 => ?_⟩
      · rw [List.length_map, List.length_map, ext_len, List.length_append]
        have a1 := flat_le (fun o => Nat.le_of_eq (ext_len sg o)) ((signsOf sg).take i)
        rw [List.length_take, signs_len] at a1
        have a2 : min i sg.length * sg.length ≤ 6 * 6 := Nat.mul_le_mul (by omega) lsg.2
        have a3 : (w1 sg).length = sg.length := signs_len sg
        exact Nat.le_of_lt (small1000 (by omega))
      · have sa := s6.trans s8
        refine ⟨l2, _, _, _, rfl, sa.trans (same_upd n2), sa.free n2, ?_⟩
        rw [upd_same, List.take_add_one, at_c hc, Option.toList_some, List.flatMap_append, ← List.map_append, List.append_assoc]
        simp
    · rintro σ H6 ⟨l, y4, y5, y6, rfl, s6, nl, hl⟩
      have hl' : H6 l = some (.lst ((w12 sg).map V.str)) := by
        rw [hl, List.take_of_length_le (by rw [signs_len]; exact Nat.le_refl _)]
        rfl
      refine ⟨.ref l, rfl, l, _, rfl, .inl (.inl (.inl hl')), fun t nt => ⟨t, rfl, ⟨_, .inl (.inl upd_same)⟩, ?_⟩⟩
      have st := same_upd (o := .lst ((w12 sg).map V.str)) nt
      have l42 := w12_len lsg.2
      refine for_it (walk_list (K := K) (a := t) (xs := (w12 sg).map V.str)) (fun i σ H7 => ∃ l y4 y5 y6, σ = [some (.ref p), some (.str sg), some (.int most), some (.ref l), y4, y5, y6] ∧ Same (upd H6 t (.lst ((w12 sg).map V.str))) H7 ∧ H l = none ∧ H7 l = some (.lst ((w12 sg ++ ((w12 sg).take i).flatMap (ext2 sg)).map V.str)))
        ⟨l, _, _, _, rfl, fun _ _ e => e, nl, by rw [st _ _ hl']; simp⟩ (fun i σ H7 _ z => by
          obtain ⟨_, _, _, _, _, s7, _⟩ := z
          exact .inl (.inl (s7 _ _ upd_same))) ?_ ?_
      · rintro i x σ H7 H8 hi ⟨l, y4, y5, y6, rfl, s7, nl, hl⟩ ⟨rfl, hx⟩
        rw [List.length_map] at hi
        obtain ⟨o, ho, rfl⟩ : ∃ o, (w12 sg)[i]? = some o ∧ x = .str o := by
          rw [List.getElem?_map] at hx
          cases z : (w12 sg)[i]? with
          | none =>
            rw [z] at hx
            cases hx
          | some o =>
            rw [z] at hx
            exact ⟨o, rfl, (Option.some.inj hx).symm⟩
        have ow : o.length ≤ 3 := by
          have z := gw.ok o (List.mem_append_left _ (List.mem_of_getElem? ho))
          have z1 : ((low o && (decide (1 ≤ o.length) && decide (o.length ≤ 3))) && over sg o) = true := z
          rw [Bool.and_eq_true, Bool.and_eq_true, Bool.and_eq_true] at z1
          exact of_decide_eq_true z1.1.2.2
        refine ⟨.ref l, rfl, .str sg, rfl, sg, rfl, fun D2 nD2 => ?_⟩
        refine lc_pureS (by omega) nD2 (fun _ => decide (o.length = 2)) (fun e => .str (o ++ sing e)) (fun e he H' s' KK R yes no => ⟨rfl, .str o, rfl, o, rfl, small (by omega), rfl, _, rfl, ?_⟩) fun H9 s9 hD2 => ?_
        · have ed : decide (V.int (o.length : Nat) = V.int 2) = decide (o.length = 2) := by
            apply decide_eq_decide.mpr
            exact ⟨fun q => by injection q with q; omega, fun q => by rw [q]; rfl⟩
          rw [ed]
          refine ite2 (fun e8 => ?_) (fun e8 => ?_)
          · refine ⟨.str o, rfl, .str ⟨#[e]⟩, rfl, _, _, rfl, rfl, ?_, yes e8 H' fun _ _ e => e⟩
            have l1 : (⟨#[e]⟩ : Str).length = 1 := rfl
            rw [l1]
            exact small (by omega)
          · exact no (Bool.eq_false_iff.mpr e8) H' fun _ _ e => e
        have hD2' : H9 D2 = some (.lst ((ext2 sg o).map V.str)) := by
          rw [hD2]
          unfold ext2
          by_cases e2 : o.length = 2
          · rw [if_pos e2, List.filter_eq_self.mpr fun _ _ => decide_eq_true e2]
            unfold ext signsOf
            rw [List.map_map, List.map_map]
            rfl
          · rw [if_neg e2, List.filter_eq_nil_iff.mpr fun _ _ => by simp [e2]]
            rfl
        refine ⟨l, D2, _, _, rfl, rfl, s9 _ _ hl, hD2', ?_, fun l2 n2 => ?_⟩
        · rw [List.length_map, List.length_map, List.length_append]
          have a0 := ext2_len sg o
          have a1 := flat_le (ext2_len sg) ((w12 sg).take i)
          rw [List.length_take] at a1
          have a2 : min i (w12 sg).length * sg.length ≤ 42 * 6 := Nat.mul_le_mul (by omega) lsg.2
          exact Nat.le_of_lt (small1000 (by omega))
        · have sa := s7.trans s9
          have sb := s6.trans (st.trans sa)
          refine ⟨l2, _, _, _, rfl, sa.trans (same_upd n2), sb.free n2, ?_⟩
          rw [upd_same, List.take_add_one, ho, Option.toList_some, List.flatMap_append, ← List.map_append, List.append_assoc]
          simp
      · rintro σ H7 ⟨l, y4, y5, y6, rfl, s7, nl, hl⟩
        rw [List.length_map, List.take_length] at hl
        have hl' : H7 l = some (.lst ((drawnW sg).map V.str)) := hl
        have sb := s6.trans (st.trans s7)
        have lp : l ≠ p := fun z => by
          rw [z, hp] at nl
          cases nl
        have wl : (drawnW sg).length ≤ 1000 := by
          unfold drawnW
          rw [List.length_append]
          have a1 := flat_le (ext2_len sg) (w12 sg)
          have a2 : (w12 sg).length * sg.length ≤ 42 * 6 := Nat.mul_le_mul l42 lsg.2
          omega
        refine ⟨.str sg, rfl, .ref p, rfl, .ref l, rfl, p, l, _, rfl, ⟨g, m, sb _ _ hp⟩, hl', lp, by rw [List.length_map]; exact wl, fun r H8 ys b8 ⟨g8, m8', p8⟩ nr hr8 pm => ?_⟩
        refine ⟨.ref p, rfl, .int most, rfl, _, _, rfl, rfl, p, most + 1, g8, m8', rfl, p8, by omega, by omega, fun n g9 m9 n0 n1 => ?_⟩
        have rp : r ≠ p := fun z => by
          rw [z, p8] at hr8
          rw [z] at nr
          rw [sb _ _ hp] at nr
          cases nr
        obtain ⟨n', rfl⟩ : ∃ n' : Nat, n = (n' : Int) := ⟨n.toNat, by omega⟩
        refine ⟨_, rfl, r, ys, rfl, .inl (.inl (by rw [upd_ne rp]; exact hr8)), fun c nc => ?_⟩
        obtain ⟨ws0, e0⟩ : ∃ ws0 : List Str, ys = ws0.map V.str := by
          refine strs_of_all (f := isStr) (fun _ h => h) (List.all_eq_true.mpr fun y hy => ?_)
          obtain ⟨z, _, rfl⟩ := List.mem_map.mp (pm.mem_iff.mp hy)
          rfl
        subst e0
        have pm2 : ws0.Perm (drawnW sg) := by
          have z := pm.map txV
          rw [List.map_map, List.map_map] at z
          have i1 : (txV ∘ V.str) = (id : Str → Str) := rfl
          rw [i1, List.map_id, List.map_id] at z
          exact z
        rw [cutV_to, ← List.map_take]
        have gf := good_of_words gw pm2 (n := n') (by omega) rfl
        have bb : But p H (upd (upd H8 p (.lst [.int g9, .int m9])) c (.lst ((ws0.take n').map V.str))) := fun b o nb e => by
          have e1 := b8 _ _ nb (sb _ _ e)
          rw [upd_ne (fun z => by rw [← z, upd_ne nb, e1] at nc; cases nc), upd_ne nb]
          exact e1
        have pc : c ≠ p := fun z => by
          rw [z, upd_same] at nc
          cases nc
        refine fun r2 dr nr2 nd ne => ?_
        have sm := made_same (C := a k_Family) nr2 nd
        have gwords := gf.words
        have kinds : ∀ y ∈ (ws0.take n').map V.str, Kind K (upd (upd (upd (upd H8 p (.lst [.int g9, .int m9])) c (.lst ((ws0.take n').map V.str))) dr (.own r2)) r2 (.ins (a k_Family) dr [])) y := fun y hy => by
          obtain ⟨z, hz, rfl⟩ := List.mem_map.mp hy
          have := (gwords.2.1 z hz).2.1
          exact .str z (by omega)
        have few2 : ((ws0.take n').map V.str).length ≤ 1000 := by
          rw [List.length_map]
          exact gf.few
        have lb2 := ListB.of (f := piecesB sg) (sm _ _ upd_same) few2 kinds
        rw [gf.pc] at lb2
        refine ⟨r2, dr, .str sg, .ref c, rfl, upd_same, .str sg (by omega), fun e => (by rw [gf.sg] at e; cases e), fun s0 e0 _ => ?_⟩
        cases e0
        refine ⟨true, lb2, (fun e => nomatch e), fun _ t' ws' e1 e2 H' keep fo => ⟨rfl, ?_⟩⟩
        cases e1
        have e3 := e2
        rw [sm _ _ upd_same] at e3
        have e5 : ws0.take n' = ws' := map_str_inj (by injection (Option.some.inj e3))
        rw [← e5] at fo
        have nrH : H r2 = none := by
          refine but_none bb nr2 fun z => ?_
          rw [z, upd_ne pc.symm, upd_same] at nr2
          cases nr2
        refine q r2 H' (ws0.take n') (fun b o nb e => keep b o (fun z => by rw [z, nrH] at e; cases e) (sm _ _ (bb _ _ nb e))) ⟨g9, m9, keep _ _ (fun z => ?_) (sm _ _ (by rw [upd_ne pc.symm]; exact upd_same))⟩ nrH fo gf (fun z hz => pm2.mem_iff.mp (List.mem_of_mem_take hz)) ?_
        · rw [← z, hp] at nrH
          cases nrH
        · rw [List.length_take]
          omega
end
end K11

namespace K11
open PySem PySem.Spec PyProof.Rows PySem.ErrX L2 Wd
section
variable {P : Program} {w : World} {K : PySem.W.Frag} {mg : Str → Option Value} {base : Heap} {a : Nat → Addr} {d : Nat → FuncData}
theorem G__law_is_in (k : Kit K mg a d) : FnOk P w K mg base CX0 1 (a i__law_is_in) (d i__law_is_in) ["_law_piece", "_law_line_here"] spIsIn := by
  refine k.D__law_is_in.F.ok sc__law_is_in (fun vs H Q E h => ?_) (fun cdv A outer s H vs Q E hr h => ?_)
  · obtain ⟨p, z, rfl, _⟩ := h
    rfl
  · obtain ⟨p, z, rfl, p1, p2, hz, q⟩ := h
    have hu := hr.units
    refine ⟨_, (pss_one (ps_ret (pe_cmpR (op_neD hu) (pe_lc (own := [("_law_at", 2)]) (g := (gName 2)) rfl sc__law_is_in.nd (pi_range1 (by rfl) k.z_range (pa_cons (pe_callB call_len_str (by rfl) k.z_len PySem.boot_len (pa_cons (pv 1) pa_nil)) pa_nil)) (blkOk_by (N := N__law_is_in) (sc := defScope s__law_is_in) (by decide +kernel)) (fun _ _ _ _ _ => (pg_name (i := 2) sc__law_is_in.nd rfl (Or.inl rfl))) (fun _ _ _ _ _ => pts_one (pt_cmpR op_eq (pe_slice sl_str (pv 1) (po_some (pv 2)) (po_some (pe_op op_add (pv 2) (pe_callB call_len_str (by rfl) k.z_len PySem.boot_len (pa_cons (pv 0) pa_nil))))) (pv 0) (nomark _))) (fun _ _ _ _ _ => (pv 2))) (pe_lst pa_nil) (nomark _)))), ?_⟩
    refine ⟨.str z, rfl, z, rfl, small hz, _, rfl, by omega, by omega, fun D nD => ?_⟩
    have e0 : ((z.length : Int)).toNat = z.length := by omega
    rw [e0]
    refine lc_pureR (by omega) nD (fun (i : Nat) => decide (cutS z (some (i : Int)) (some ((i : Int) + (p.length : Int))) = p)) (fun i => .int (i : Nat)) (fun i hi H' s' KK R yes no => ?_) fun H5 s5 hD => ?_
    · have ei : (0 : Int) + (i : Int) = (i : Int) := by omega
      rw [ei]
      refine ⟨rfl, .str z, rfl, .int i, rfl, i, rfl, .int i, rfl, .str p, rfl, p, rfl, small p2, _, _, rfl, rfl, _, rfl, z, rfl, small hz, .str p, rfl, rfl, _, rfl, ?_⟩
      have ed : decide (V.str (cutS z (some (i : Int)) (some ((i : Int) + (p.length : Int)))) = V.str p) = decide (cutS z (some (i : Int)) (some ((i : Int) + (p.length : Int))) = p) := by
        apply decide_eq_decide.mpr
        exact ⟨fun q => by injection q, fun q => by rw [q]⟩
      rw [ed]
      refine ite2 (fun e8 => ?_) (fun e8 => ?_)
      · exact ⟨.int i, rfl, yes e8 H' fun _ _ e => e⟩
      · exact no (Bool.eq_false_iff.mpr e8) H' fun _ _ e => e
    · refine ⟨Nat.zero_le _, fun e ne => ?_⟩
      have s6 := same_upd (o := .lst []) ne
      have hD' : H5 D = some (.lst ((((List.range z.length).filter fun (i : Nat) => decide (cutS z (some (i : Int)) (some ((i : Int) + (p.length : Int))) = p)).map fun (i : Nat) => (i : Int)).map V.int)) := by
        rw [hD, List.map_map]
        rfl
      refine ⟨.list ((((List.range z.length).filter fun (i : Nat) => decide (cutS z (some (i : Int)) (some ((i : Int) + (p.length : Int))) = p)).map fun (i : Nat) => (i : Int)).map .int), .list (([] : List Int).map .int), .lst (.inl (.inl (s6 _ _ hD'))) (ints_dp _), .lst (.inl (.inl upd_same)) .nil, shaped_ints _, shaped_ints [], ?_⟩
      rw [eqv_ints, places_nil z p p1, Bool.not_not]
      exact q _ (s5.trans s6)
end
end K11

namespace K11
open PySem PySem.Spec PyProof.Rows PySem.ErrX L2 Wd
def spCalled (K : PySem.W.Frag) (C cS cP cG : Addr) : Sp := fun vs H Q E => ∃ (door : Int) (x y : V), vs = [.int door, x, y] ∧
  ((door = 0 ∧ Kind K H x ∧ (asSigns x = false → BadE H E cS "value" x) ∧ (∀ s, x = .str s → asSigns x = true → ∃ b, ListB K H (piecesB s) y b ∧ (b = false → BadE H E cP "value" y) ∧ (b = true → ∀ H', Same H H' → Q .non H'))) ∨
   (door = 1 ∧ ∃ q s ws, x = .ref q ∧ FamObj K C H q s ws ∧ ws.length ≤ 1000 ∧ TupB K H (fun xs => xs.all (lineOver s)) y false ∧ BadE H E cG "value" y) ∨
   ((door = 2 ∨ door = 3) ∧ ∃ q s ws, x = .ref q ∧ FamObj K C H q s ws ∧ GoodF s ws ∧ ListB K H (choiceB ws) y false ∧ BadE H E cP "value" y))
def ShwS (K : PySem.W.Frag) (H : Hp) (x : V) (U : Str) : Prop := ∀ H', Same H H' → Shw K H' x U
def Told (H : Hp) (Q : VK) (kind U : Str) : Prop := ∀ r H', Same H H' → H' r = some (.lst [.str kind, .str U]) → Q (.ref r) H'
def spTold (K : PySem.W.Frag) (C : Addr) : Sp := fun vs H Q _ => ∃ (door : Int) (x y : V), vs = [.int door, x, y] ∧
  ((door = 0 ∧ Kind K H x ∧ asSigns x = false ∧ ∃ U, ShwS K H x U ∧ Told H Q "signs" U) ∨
   (door = 0 ∧ ∃ s b, x = .str s ∧ s.length ≤ 1000 ∧ asSigns x = true ∧ ListB K H (piecesB s) y b ∧ (b = false → ∃ U, ShwS K H y U ∧ Told H Q "pieces" U) ∧ (b = true → ∀ H', Same H H' → Q .non H')) ∨
   (door = 1 ∧ ∃ q s ws, x = .ref q ∧ FamObj K C H q s ws ∧ ws.length ≤ 1000 ∧ TupB K H (fun xs => xs.all (lineOver s)) y false ∧ ∃ U, ShwS K H y U ∧ Told H Q "page" U) ∨
   ((door = 2 ∨ door = 3) ∧ ∃ q s ws, x = .ref q ∧ FamObj K C H q s ws ∧ GoodF s ws ∧ ListB K H (choiceB ws) y false ∧ ∃ U, ShwS K H y U ∧ Told H Q "pieces" U))
section
variable {P : Program} {w : World} {K : PySem.W.Frag} {mg : Str → Option Value} {base : Heap} {a : Nat → Addr} {d : Nat → FuncData}
theorem G__law_called (k : Kit K mg a d) : FnOk P w K mg base (L2.CX P w) 7 (a i__law_called) (d i__law_called) ["_law_door", "_law_one", "_law_two"] (spCalled K (a k_Family) (a e_BadSigns) (a e_BadPieces) (a e_BadPage)) := by
  have G_Family___init__ : FnOk P w K mg base (L2.CX P w) 4 _ _ ["self", "signs", "pieces"] _ := G_Family___init__ k
  have G_Family_of : FnOk P w K mg base (L2.CX P w) 3 _ _ ["self", "page"] _ := G_Family_of k
  have G_Family_cut : FnOk P w K mg base (L2.CX P w) 6 _ _ ["self", "choice"] _ := G_Family_cut k
  have G_Family_is_allowed : FnOk P w K mg base (L2.CX P w) 4 _ _ ["self", "found", "line"] _ := G_Family_is_allowed k
  refine k.D__law_called.F.okX sc__law_called (fun vs H Q E h => ?_) (fun cdv A outer s H vs Q E hr h => ?_)
  · obtain ⟨door, x, y, rfl, _⟩ := h
    rfl
  · obtain ⟨door, x, y, rfl, h⟩ := h
    refine ⟨_, (pss_one (ps_if (pt_cmpR op_eq (pv 0) pe_int (nomark _)) (pss_one (ps_expr (pe_make k.Mk_Family G_Family___init__ (hr.mono (by decide)) (by rfl) k.G_Family k.b_Family___init__ .nil passE (pa_cons (pv 1) (pa_cons (pv 2) pa_nil))))) (pss_one (ps_if (pt_cmpR op_eq (pv 0) pe_int (nomark _)) (pss_one (ps_expr (pe_meth (pv 1) k.Cl_Family k.M_Family_of G_Family_of (hr.mono (by decide)) k.b_Family_of .nil passE (pa_cons (pv 2) pa_nil)))) (pss_one (ps_if (pt_cmpR op_eq (pv 0) pe_int (nomark _)) (pss_one (ps_expr (pe_meth (pv 1) k.Cl_Family k.M_Family_cut G_Family_cut (hr.mono (by decide)) k.b_Family_cut .nil passE (pa_cons (pv 2) pa_nil)))) (pss_one (ps_expr (pe_meth (pv 1) k.Cl_Family k.M_Family_is_allowed G_Family_is_allowed (hr.mono (by decide)) k.b_Family_is_allowed .nil passE (pa_cons (pv 2) (pa_cons pe_str pa_nil))))))))))), ?_⟩
    rcases h with ⟨rfl, kx, bs, good⟩ | ⟨rfl, q, sg, ws, rfl, fo, few, tb, bad⟩ | ⟨dr, q, sg, ws, rfl, fo, gf, lb, bad⟩
    · refine ⟨_, rfl, rfl, _, rfl, iteT ⟨x, rfl, y, rfl, fun r dr nr nd ne => ?_⟩⟩
      have sm := made_same (C := a k_Family) nr nd
      refine ⟨r, dr, x, y, rfl, upd_same, kx.same sm, fun e => (bs e).same sm, fun s e1 e2 => ?_⟩
      obtain ⟨b, lb, bad, fin⟩ := good s e1 e2
      exact ⟨b, lb.same sm, fun e => (bad e).same sm, fun eb t ws e3 e4 H' keep fo => ⟨rfl, fin eb H' fun b o e => keep b o (ne_of_none e nr) (sm _ _ e)⟩⟩
    · obtain ⟨dx, t, hq, ht⟩ := id fo
      refine ⟨_, rfl, rfl, _, rfl, iteF ⟨_, rfl, rfl, _, rfl, iteT ⟨.ref q, rfl, q, dx, _, rfl, hq, rfl, y, rfl, q, sg, ws, y, false, rfl, fo, few, tb, fun _ => bad, fun e => nomatch e⟩⟩⟩
    · obtain ⟨dx, t, hq, ht⟩ := id fo
      rcases dr with rfl | rfl
      · refine ⟨_, rfl, rfl, _, rfl, iteF ⟨_, rfl, rfl, _, rfl, iteF ⟨_, rfl, rfl, _, rfl, iteT ⟨.ref q, rfl, q, dx, _, rfl, hq, rfl, y, rfl, q, sg, ws, y, false, rfl, fo, gf, lb, fun _ => bad, fun e => nomatch e⟩⟩⟩⟩
      · refine ⟨_, rfl, rfl, _, rfl, iteF ⟨_, rfl, rfl, _, rfl, iteF ⟨_, rfl, rfl, _, rfl, iteF ⟨.ref q, rfl, q, dx, _, rfl, hq, rfl, y, rfl, q, sg, ws, y, .str "a", false, rfl, fo, gf.few, lb, .str _ (by decide), fun _ => bad, fun e => nomatch e⟩⟩⟩⟩
theorem G__law_told (k : Kit K mg a d) : FnG P w K mg base CX0 8 (a i__law_told) (d i__law_told) ["_law_door", "_law_one", "_law_two"] (spTold K (a k_Family)) := by
  have G__law_called : FnOk P w K mg base (L2.CX P w) 7 _ _ ["_law_door", "_law_one", "_law_two"] _ := G__law_called k
  refine k.D__law_told.F.okG0 sc__law_told (fun vs H Q E h => ?_) (fun cdv A outer s H vs Q E hr hg h => ?_)
  · obtain ⟨door, x, y, rfl, _⟩ := h
    rfl
  · obtain ⟨door, x, y, rfl, h⟩ := h
    have hu2 := hr.un
    have hu : (A.deeper (envOfC "_law_told" (defScope s__law_told) s.heap.objs.size (a i__law_told) cdv)).units + 200 < cLine := by omega
    refine ⟨_, pss_cons (ps_try_ases (i := 3) (n := "e") (l := [(.ref (a e_BadSigns), fun o cls d => tRet (tLst (tCons (tC (.str "signs")) (tCons (tCB (rShw K) (tCons (tOfErr (a e_BadSigns) "value" o cls d (tVar 3)) tNil)) tNil)))), (.ref (a e_BadPieces), fun o cls d => tRet (tLst (tCons (tC (.str "pieces")) (tCons (tCB (rShw K) (tCons (tOfErr (a e_BadPieces) "value" o cls d (tVar 3)) tNil)) tNil)))), (.ref (a e_BadPage), fun o cls d => tRet (tLst (tCons (tC (.str "page")) (tCons (tCB (rShw K) (tCons (tOfErr (a e_BadPage) "value" o cls d (tVar 3)) tNil)) tNil))))])
        (tb := fun W => tDrop (tCallS (spCalled K (a k_Family) (a e_BadSigns) (a e_BadPieces) (a e_BadPage)) (WE W) (tCons (tVar 0) (tCons (tVar 1) (tCons (tVar 2) tNil))))) (Wout := fun _ _ _ _ => False) rfl rfl sc__law_told.nd rfl rfl takes0
        (fun W pn xe tk _ => pss_one (ps_expr (pe_callS G__law_called (hr.mono (by decide)) rfl k.D__law_called.g k.D__law_called.F.kp k.D__law_called.b (fun σ => passAt tk σ) (by exact (pa_cons (pv 0) (pa_cons (pv 1) (pa_cons (pv 2) pa_nil)))))))
        (.cons ⟨rfl, by decide, .inl k.E_BadSigns.gC⟩ (fun o oe cls d pn hz hf => pss_one (ps_ret (pe_lst (pa_cons pe_str (pa_cons (pe_callB (call_repr_at (K := K) rfl hg hu) (by rfl) k.z_repr Wd.boot_repr (pa_cons (pe_ofErr k.E_BadSigns hz hf (pv 3)) pa_nil)) pa_nil)))))
          (.cons ⟨rfl, by decide, .inl k.E_BadPieces.gC⟩ (fun o oe cls d pn hz hf => pss_one (ps_ret (pe_lst (pa_cons pe_str (pa_cons (pe_callB (call_repr_at (K := K) rfl hg hu) (by rfl) k.z_repr Wd.boot_repr (pa_cons (pe_ofErr k.E_BadPieces hz hf (pv 3)) pa_nil)) pa_nil)))))
            (.cons ⟨rfl, by decide, .inl k.E_BadPage.gC⟩ (fun o oe cls d pn hz hf => pss_one (ps_ret (pe_lst (pa_cons pe_str (pa_cons (pe_callB (call_repr_at (K := K) rfl hg hu) (by rfl) k.z_repr Wd.boot_repr (pa_cons (pe_ofErr k.E_BadPage hz hf (pv 3)) pa_nil)) pa_nil))))) .nil))))
      (pss_one (ps_ret pe_non)), ?_⟩
    refine ⟨.int door, rfl, x, rfl, y, rfl, door, x, y, rfl, ?_⟩
    have fin : ∀ {v : V} {U kind : Str} {C1 : Addr} {H1 : Hp} {d1 : Addr}, ShwS K H v U → Told H Q kind U → Same H H1 → H1 d1 = none → ∀ e, (upd H1 d1 (.xd [(("value" : Str), v)])) e = none →
        tRet (tLst (tCons (tC (.str kind)) (tCons (tCB (rShw K) (tCons (tOfErr C1 "value" e (.ref C1) (some d1) (tVar 3)) tNil)) tNil))) (offName 3 { nx := tRet (tC V.non) { nx := fun _ H' => Q V.non H', rt := Q }, rt := Q }) ([some (.int door), some x, some y, some (.ref e)] : L2.St) (upd H1 d1 (.xd [(("value" : Str), v)])) := by
      intro v U kind C1 H1 d1 sh tl s1 nd e ne
      have s2 := same_upd (o := .xd [(("value" : Str), v)]) nd
      exact ⟨.ref e, rfl, rfl, rfl, d1, v, rfl, upd_same, v, U, rfl, sh _ (s1.trans s2), (by show 2 ≤ sizeLine; decide), fun p np => tl p _ (s1.trans (s2.trans (same_upd np))) upd_same⟩
    rcases h with ⟨rfl, kx, es, U, sh, tl⟩ | ⟨rfl, sg, b, rfl, lsg, es, lb, bad, good⟩ | ⟨rfl, q, sg, ws, rfl, fo, few, tb, U, sh, tl⟩ | ⟨dr, q, sg, ws, rfl, fo, gf, lb, U, sh, tl⟩
    · refine .inl ⟨rfl, kx, fun _ H1 d s1 nd => ?_, fun s e1 e2 => (by rw [es] at e2; cases e2)⟩
      exact ⟨true, k.x_BadSigns_BadSigns, fun _ e ne => fin sh tl s1 nd e ne, fun z => Bool.noConfusion z⟩
    · refine .inl ⟨rfl, .str sg lsg, fun e => (by rw [es] at e; cases e), fun s e1 e2 => ?_⟩
      cases e1
      refine ⟨b, lb, fun eb H1 d s1 nd => ?_, fun eb H' s' => good eb H' s'⟩
      obtain ⟨U, sh, tl⟩ := bad eb
      exact ⟨false, k.x_BadPieces_BadSigns, fun z => Bool.noConfusion z, fun _ => ⟨true, k.x_BadPieces_BadPieces, fun _ e ne => fin sh tl s1 nd e ne, fun z => Bool.noConfusion z⟩⟩
    · refine .inr (.inl ⟨rfl, q, sg, ws, rfl, fo, few, tb, fun H1 d s1 nd => ?_⟩)
      exact ⟨false, k.x_BadPage_BadSigns, fun z => Bool.noConfusion z, fun _ => ⟨false, k.x_BadPage_BadPieces, fun z => Bool.noConfusion z, fun _ => ⟨true, k.x_BadPage_BadPage, fun _ e ne => fin sh tl s1 nd e ne, fun z => Bool.noConfusion z⟩⟩⟩
    · refine .inr (.inr ⟨dr, q, sg, ws, rfl, fo, gf, lb, fun H1 d s1 nd => ?_⟩)
      exact ⟨false, k.x_BadPieces_BadSigns, fun z => Bool.noConfusion z, fun _ => ⟨true, k.x_BadPieces_BadPieces, fun _ e ne => fin sh tl s1 nd e ne, fun z => Bool.noConfusion z⟩⟩
end
end K11

namespace K11
open PySem PySem.Spec PyProof.Rows PySem.ErrX L2 Wd
def odds1 : List Lit := [.non, .int 5, .str "", .str "ba", .str "aa", .str "abcdefg", .str "aB", .lst [.str "a"], .tup [.str "a"]]
def odds2 : List Lit := [.non, .tup [.str "a"], .str "a", .lst [.non], .lst [.str "a", .str "a"], .lst [.str "", .str "a"], .lst [.str "aaaa"], .lst [.str "z"], .lst [.lst [.str "a"]]]
def odd2 (s : Str) : Lit := .lst [.str (("a" : Str) ++ (⟨#[s.cps.toList.getLastD 0]⟩ : Str) ++ ("z" : Str))]
def nineL : List Lit := [.str "a", .str "b", .str "aa", .str "ab", .str "ba", .str "bb", .str "aaa", .str "aab", .str "aba"]
def odds4 : List Lit := [.non, .str "a", .lst [.str "a"], .tup [.str "z"], .tup [.str "a", .non], .tup [.str "A"], .int 5]
def odds5 : List Lit := [.non, .str "a", .tup [.str "a"], .lst [.str "zz"], .lst [.non], .lst [.lst [.str "a"]]]
theorem o1 : ∀ l ∈ odds1, litFew l = true ∧ litFine l = true ∧ asSigns (litV l) = false := by
  unfold odds1
  decide +kernel
theorem o2 : ∀ s ∈ (["ab", "abc"] : List Str), ∀ l ∈ odds2 ++ [odd2 s], litFew l = true ∧ litFine l = true ∧ litL (piecesB s) l = false := by
  unfold odds2 odd2
  decide +kernel
theorem o4 : ∀ s ∈ (["ab", "abc"] : List Str), ∀ l ∈ odds4, litFew l = true ∧ litFine l = true ∧ litT (fun xs => xs.all (lineOver s)) l = false := by
  unfold odds4
  decide +kernel
theorem o5 : ∀ l ∈ odds5, litFew l = true ∧ litFine l = true := by
  unfold odds5
  decide +kernel
end K11

namespace K11
open PySem PySem.Spec PyProof.Rows PySem.ErrX L2 Wd
theorem LitAt.shwS {K : PySem.W.Frag} {H : Hp} {x : V} {l : Lit} (h : LitAt H x l) (f : litFine l = true) : ShwS K H x (litShown l) := fun _ s => ((h.same s).shw (K := K) f).1
theorem over_no_zz {s : Str} {ws : List Str} (hs : s = "ab" ∨ s = "abc") (g : GoodF s ws) : ("zz" : Str) ∉ ws := fun h => by
  have q := (g.words.2.1 _ h).2.2.2
  rcases hs with rfl | rfl
  · exact absurd q (by decide +kernel)
  · exact absurd q (by decide +kernel)
theorem o5c {s : Str} {ws : List Str} (hs : s = "ab" ∨ s = "abc") (g : GoodF s ws) : ∀ l ∈ odds5, litL (choiceB ws) l = false := fun l hl => by
  have z : decide (("zz" : Str) ∈ ws) = false := decide_eq_false (over_no_zz hs g)
  unfold odds5 at hl
  simp only [List.mem_cons, List.not_mem_nil, or_false] at hl
  rcases hl with rfl | rfl | rfl | rfl | rfl | rfl
  · rfl
  · rfl
  · rfl
  · show choiceB ws [.str "zz"] = false
    unfold choiceB
    show ((isPiece ws (.str "zz") && true) && _) = false
    have e : isPiece ws (.str "zz") = false := z
    rw [e]
    rfl
  · rfl
  · rfl
theorem o6 : ∀ s ∈ (["ab", "abc"] : List Str), ∀ z ∈ drawnW s, fine (.list [.str z, .str z, .int 5]) = true ∧ PyData.strOk (PyData.list [.str z, .str z, .int 5]).shown = true := by decide +kernel
theorem o7 : fine (.list [.int 5]) = true ∧ PyData.strOk (PyData.list [.int 5]).shown = true := by decide +kernel
/-- what is no choice, and how it is told -/
def Odd5 (K : PySem.W.Frag) (ws : List Str) (H : Hp) (x : V) : Prop := ListB K H (choiceB ws) x false ∧ ∃ U, PyData.strOk U = true ∧ ShwS K H x U
theorem Odd5.same {K : PySem.W.Frag} {ws : List Str} {H H' : Hp} {x : V} (o : Odd5 K ws H x) (s : Same H H') : Odd5 K ws H' x := ⟨o.1.same s, let ⟨U, u1, u2⟩ := o.2; ⟨U, u1, fun H2 s2 => u2 H2 (s.trans s2)⟩⟩
def spRefused (K : PySem.W.Frag) (C : Addr) : Sp := fun vs H Q _ => ∃ q s ws, vs = [.ref q, .str s] ∧ (s = "ab" ∨ s = "abc") ∧ FamObj K C H q s ws ∧ GoodF s ws ∧ (∀ z ∈ ws, z ∈ drawnW s) ∧ ∀ H', Same H H' → Q (.bl true) H'
section
variable {P : Program} {w : World} {K : PySem.W.Frag} {mg : Str → Option Value} {base : Heap} {a : Nat → Addr} {d : Nat → FuncData}
theorem G__law_refused (k : Kit K mg a d) : FnG P w K mg base CX0 9 (a i__law_refused) (d i__law_refused) ["_law_family_here", "_law_signs"] (spRefused K (a k_Family)) := by
  have G__law_told : FnG P w K mg base CX0 8 _ _ ["_law_door", "_law_one", "_law_two"] _ := G__law_told k
  have G_Family_pieces : FnOk P w K mg base CX0 1 _ _ ["self"] _ := G_Family_pieces k
  refine k.D__law_refused.F.okG0 sc__law_refused (fun vs H Q E h => ?_) (fun cdv A outer s H vs Q E hr hg h => ?_)
  · obtain ⟨q, sg, ws, rfl, _⟩ := h
    rfl
  · obtain ⟨q, sg, ws, rfl, hs, fo, gf, dw, fin⟩ := h
    have hu := hr.units
    have lsg := asSigns_low gf.sg
    have ins : sg ∈ (["ab", "abc"] : List Str) := by
      rcases hs with rfl | rfl <;> simp
    refine ⟨_, (pss_cons (ps_for PassesOwn.never rfl (pi_list (pe_lst (pa_cons pe_non (pa_cons pe_int (pa_cons pe_str (pa_cons pe_str (pa_cons pe_str (pa_cons pe_str (pa_cons pe_str (pa_cons (pe_lst (pa_cons pe_str pa_nil)) (pa_cons (pe_tup (pa_cons pe_str pa_nil)) pa_nil))))))))))) (pg_name (i := 2) sc__law_refused.nd rfl (Or.inr rfl)) (pss_one (ps_if (pt_cmpR (op_neD hu) (k.D__law_told.callG G__law_told hg (hr.mono (by decide)) (pa_cons pe_int (pa_cons (pv 2) (pa_cons pe_non pa_nil)))) (pe_lst (pa_cons pe_str (pa_cons (pe_callB (call_repr_at (K := K) rfl hg hr.u200) (by rfl) k.z_repr Wd.boot_repr (pa_cons (pv 2) pa_nil)) pa_nil))) (nomark _)) (pss_one (ps_ret pe_bl)) pss_nil)))
      (pss_cons (ps_set (i := 3) sc__law_refused.nd rfl (Or.inl rfl) (pe_lst (pa_cons pe_non (pa_cons (pe_tup (pa_cons pe_str pa_nil)) (pa_cons pe_str (pa_cons (pe_lst (pa_cons pe_non pa_nil)) (pa_cons (pe_lst (pa_cons pe_str (pa_cons pe_str pa_nil))) (pa_cons (pe_lst (pa_cons pe_str (pa_cons pe_str pa_nil))) (pa_cons (pe_lst (pa_cons pe_str pa_nil)) (pa_cons (pe_lst (pa_cons pe_str pa_nil)) (pa_cons (pe_lst (pa_cons (pe_lst (pa_cons pe_str pa_nil)) pa_nil)) pa_nil)))))))))))
      (pss_cons (ps_for PassesOwn.never rfl (pi_list (pe_op op_cat (pv 3) (pe_lst (pa_cons (pe_lst (pa_cons (pe_op op_add_str (pe_op op_add_str pe_str (pe_ix ix_str (pv 1) (pe_un un_neg pe_int) (fun _ _ => rfl))) pe_str) pa_nil)) pa_nil)))) (pg_name (i := 2) sc__law_refused.nd rfl (Or.inr rfl)) (pss_one (ps_if (pt_cmpR (op_neD hu) (k.D__law_told.callG G__law_told hg (hr.mono (by decide)) (pa_cons pe_int (pa_cons (pv 1) (pa_cons (pv 2) pa_nil)))) (pe_lst (pa_cons pe_str (pa_cons (pe_callB (call_repr_at (K := K) rfl hg hr.u200) (by rfl) k.z_repr Wd.boot_repr (pa_cons (pv 2) pa_nil)) pa_nil))) (nomark _)) (pss_one (ps_ret pe_bl)) pss_nil)))
      (pss_cons (ps_set (i := 4) sc__law_refused.nd rfl (Or.inl rfl) (pe_lst (pa_cons pe_str (pa_cons pe_str (pa_cons pe_str (pa_cons pe_str (pa_cons pe_str (pa_cons pe_str (pa_cons pe_str (pa_cons pe_str (pa_cons pe_str pa_nil)))))))))))
      (pss_cons (ps_if (PW.pt (pw_or (pt_cmpR (op_neD hu) (k.D__law_told.callG G__law_told hg (hr.mono (by decide)) (pa_cons pe_int (pa_cons pe_str (pa_cons (pv 4) pa_nil)))) (pe_lst (pa_cons pe_str (pa_cons (pe_callB (call_repr_at (K := K) rfl hg hr.u200) (by rfl) k.z_repr Wd.boot_repr (pa_cons (pv 4) pa_nil)) pa_nil))) (nomark _)) (pw_or1 (pt_cmpR op_notN (k.D__law_told.callG G__law_told hg (hr.mono (by decide)) (pa_cons pe_int (pa_cons pe_str (pa_cons (pe_slice sl_list (pv 4) (po_some pe_int) po_none) pa_nil)))) pe_non (nomark _))))) (pss_one (ps_ret pe_bl)) pss_nil)
      (pss_cons (ps_for PassesOwn.never rfl (pi_list (pe_lst (pa_cons pe_non (pa_cons pe_str (pa_cons (pe_lst (pa_cons pe_str pa_nil)) (pa_cons (pe_tup (pa_cons pe_str pa_nil)) (pa_cons (pe_tup (pa_cons pe_str (pa_cons pe_non pa_nil))) (pa_cons (pe_tup (pa_cons pe_str pa_nil)) (pa_cons pe_int pa_nil))))))))) (pg_name (i := 2) sc__law_refused.nd rfl (Or.inr rfl)) (pss_one (ps_if (pt_cmpR (op_neD hu) (k.D__law_told.callG G__law_told hg (hr.mono (by decide)) (pa_cons pe_int (pa_cons (pv 0) (pa_cons (pv 2) pa_nil)))) (pe_lst (pa_cons pe_str (pa_cons (pe_callB (call_repr_at (K := K) rfl hg hr.u200) (by rfl) k.z_repr Wd.boot_repr (pa_cons (pv 2) pa_nil)) pa_nil))) (nomark _)) (pss_one (ps_ret pe_bl)) pss_nil)))
      (pss_cons (ps_for PassesOwn.never rfl (pi_list (pe_lst (pa_cons pe_non (pa_cons pe_str (pa_cons (pe_tup (pa_cons pe_str pa_nil)) (pa_cons (pe_lst (pa_cons pe_str pa_nil)) (pa_cons (pe_lst (pa_cons pe_non pa_nil)) (pa_cons (pe_lst (pa_cons (pe_lst (pa_cons pe_str pa_nil)) pa_nil)) (pa_cons (pe_op op_cat (pe_op op_rep (pe_slice sl_list (pe_prop (pv 0) k.Cl_Family k.P_Family_pieces (G_Family_pieces) (hr.mono (by decide)) k.b_Family_pieces .nil pass0 (by rfl)) po_none (po_some pe_int)) pe_int) (pe_lst (pa_cons pe_int pa_nil))) pa_nil))))))))) (pg_name (i := 2) sc__law_refused.nd rfl (Or.inr rfl)) (pss_one (ps_if (pt_cmpR (op_neD hu) (pe_lc (own := [("_law_door", 5)]) (g := (gName 5)) (tt := tYes) rfl sc__law_refused.nd (pi_tup (pe_tup (pa_cons pe_int (pa_cons pe_int pa_nil)))) (blkOk_by (N := N__law_refused) (sc := defScope s__law_refused) (by decide +kernel)) (fun _ _ _ _ _ => (pg_name (i := 5) sc__law_refused.nd rfl (Or.inl rfl))) (fun _ _ _ _ _ => pts_nil) (fun _ _ _ _ _ => (k.D__law_told.callG G__law_told hg (hr.mono (by decide)) (pa_cons (pv 5) (pa_cons (pv 0) (pa_cons (pv 2) pa_nil)))))) (pe_op op_rep (pe_lst (pa_cons (pe_lst (pa_cons pe_str (pa_cons (pe_callB (call_repr_at (K := K) rfl hg hr.u200) (by rfl) k.z_repr Wd.boot_repr (pa_cons (pv 2) pa_nil)) pa_nil))) pa_nil)) pe_int) (nomark _)) (pss_one (ps_ret pe_bl)) pss_nil)))
      (pss_one (ps_ret pe_bl))))))))), ?_⟩
    refine seq_for_list ?_
    refine lit_at (.lst odds1) (by decide +kernel) (by simp only [odds1, tLit, tLits]) (fun v H1 s1 h1 => ?_)
    obtain ⟨p1, xs1, rfl, hp1, its1⟩ : ∃ p xs, v = .ref p ∧ H1 p = some (.lst xs) ∧ LitsAt H1 xs odds1 := by
      cases h1 with
      | lst h t => exact ⟨_, _, rfl, h, t⟩
    refine ⟨p1, rfl, ⟨_, .inl (.inl hp1)⟩, ?_⟩
    refine for_lits hp1 its1 (fun σ => ∃ y2, σ = [some (.ref q), some (.str sg), y2, none, none, none]) ⟨none, rfl⟩ ?_ ?_
    · rintro x l hl σ' H' ⟨y2, rfl⟩ s' at_ NN nn
      obtain ⟨f1, f2, f3⟩ := o1 l hl
      have sh := at_.shw (K := K) f2
      refine ⟨x, rfl, 0, x, .non, rfl, .inl ⟨rfl, at_.kind f1, by rw [at_.signs]; exact f3, _, LitAt.shwS at_ f2, fun r H2 s2 hr2 => ⟨x, rfl, x, _, rfl, LitAt.shwS at_ f2 H2 s2, (by show 2 ≤ sizeLine; decide), fun p np => ?_⟩⟩⟩
      have s3 := same_upd (o := .lst [.str "signs", .str (litShown l)]) np
      exact told_same (s3 _ _ hr2) upd_same (by decide +kernel) sh.2 ⟨_, rfl, iteF (nn _ _ ⟨_, rfl⟩ (s2.trans s3))⟩
    rintro σ H2 ⟨y2, rfl⟩ s2
    have s02 := s1.trans s2
    refine seq_set ?_
    refine lit_at (.lst odds2) (by decide +kernel) (by simp only [odds2, tLit, tLits]) (fun v H3 s3 h3 => ?_)
    obtain ⟨p3, xs3, rfl, hp3, its3⟩ : ∃ p xs, v = .ref p ∧ H3 p = some (.lst xs) ∧ LitsAt H3 xs odds2 := by
      cases h3 with
      | lst h t => exact ⟨_, _, rfl, h, t⟩
    have s03 := s02.trans s3
    obtain ⟨c0, at_last, c0l⟩ : ∃ c0, atI sg.cps.toList (-1) = some c0 ∧ c0 = sg.cps.toList.getLastD 0 := by
      rcases hs with rfl | rfl <;> exact ⟨_, rfl, rfl⟩
    refine ⟨.ref p3, rfl, .str sg, rfl, 1, rfl, sg, -1, c0, rfl, rfl, small (by omega), at_last, "a", ⟨#[c0]⟩, rfl, rfl, (by show 1 + 1 ≤ sizeLine; decide), _, "z", rfl, rfl, (by show 2 + 1 ≤ sizeLine; decide), (by show 1 ≤ sizeLine; decide), fun b nb => ⟨(by show 1 ≤ sizeLine; decide), fun c nc => ?_⟩⟩
    have sb := same_upd (o := .lst [.str (("a" : Str) ++ (⟨#[c0]⟩ : Str) ++ ("z" : Str))]) nb
    have sc := same_upd (o := .lst [.ref b]) nc
    refine ⟨p3, c, xs3, [.ref b], rfl, rfl, sc _ _ (sb _ _ hp3), upd_same, ?_, fun e ne => ?_⟩
    · rw [its3.length]
      show 9 + 1 ≤ sizeLine
      decide
    have se := same_upd (o := .lst (xs3 ++ [.ref b])) ne
    have itsE : LitsAt (upd (upd (upd H3 b (.lst [.str (("a" : Str) ++ (⟨#[c0]⟩ : Str) ++ ("z" : Str))])) c (.lst [.ref b])) e (.lst (xs3 ++ [.ref b]))) (xs3 ++ [.ref b]) (odds2 ++ [odd2 sg]) := by
      refine (its3.same (sb.trans (sc.trans se))).append (.cons ?_ .nil)
      unfold odd2
      rw [← c0l]
      exact .lst (se _ _ (sc _ _ upd_same)) (.cons (.str _) .nil)
    have s3e := sb.trans (sc.trans se)
    refine ⟨e, rfl, ⟨_, .inl (.inl upd_same)⟩, ?_⟩
    refine for_lits upd_same itsE (fun σ => ∃ y2, σ = [some (.ref q), some (.str sg), y2, some (.ref p3), none, none]) ⟨_, rfl⟩ ?_ ?_
    · rintro x l hl σ' H' ⟨y2, rfl⟩ s' at_ NN nn
      obtain ⟨f1, f2, f3⟩ := o2 sg ins l hl
      have sh := at_.shw (K := K) f2
      have lb := at_.listB (K := K) (f := piecesB sg) f1 fun t => t.pieces
      rw [f3] at lb
      refine ⟨.str sg, rfl, x, rfl, 0, .str sg, x, rfl, .inr (.inl ⟨rfl, sg, false, rfl, by omega, gf.sg, lb, fun _ => ⟨_, LitAt.shwS at_ f2, fun r H2 s2 hr2 => ⟨x, rfl, x, _, rfl, LitAt.shwS at_ f2 H2 s2, (by show 2 ≤ sizeLine; decide), fun p np => ?_⟩⟩, fun z => nomatch z⟩)⟩
      have s3 := same_upd (o := .lst [.str "pieces", .str (litShown l)]) np
      exact told_same (s3 _ _ hr2) upd_same (by decide +kernel) sh.2 ⟨_, rfl, iteF (nn _ _ ⟨_, rfl⟩ (s2.trans s3))⟩
    rintro σ H4 ⟨y4, rfl⟩ s4
    have s04 := s03.trans (s3e.trans s4)
    refine seq_set ?_
    refine lit_at (.lst nineL) (by decide +kernel) (by simp only [nineL, tLit, tLits]) (fun v H5 s5 h5 => ?_)
    have s05 := s04.trans s5
    have h5c := h5
    obtain ⟨p5, xs5, rfl, hp5, its5⟩ : ∃ p xs, v = .ref p ∧ H5 p = some (.lst xs) ∧ LitsAt H5 xs nineL := by
      cases h5 with
      | lst h t => exact ⟨_, _, rfl, h, t⟩
    have x5 : xs5 = nineL.map litV := (its5.all (f := isStr) (fun _ h => h)).2 (by rw [(its5.all (f := isStr) (fun _ h => h)).1]; rfl)
    have few5 : ∀ (xs : List V) (ls : List Lit), (∃ H9, LitsAt H9 xs ls) → ls.length ≤ 1000 → xs.length ≤ 1000 := fun xs ls ⟨_, h⟩ l => by rw [h.length]; exact l
    have lb5 := (LitAt.lst hp5 its5).listB (K := K) (f := piecesB "ab") (by decide +kernel) fun t => t.pieces
    have lf5 : litL (piecesB "ab") (.lst nineL) = false := by decide +kernel
    rw [lf5] at lb5
    have fn5 : litFine (.lst nineL) = true := by decide +kernel
    have sh5 := (LitAt.lst hp5 its5).shw (K := K) fn5
    refine seq_if ?_
    refine ⟨.ref p5, rfl, 0, .str "ab", .ref p5, rfl, .inr (.inl ⟨rfl, "ab", false, rfl, by decide, by decide +kernel, lb5, fun _ => ⟨_, LitAt.shwS (LitAt.lst hp5 its5) fn5, fun r H6 s6 hr6 => ⟨.ref p5, rfl, .ref p5, _, rfl, LitAt.shwS (LitAt.lst hp5 its5) fn5 H6 s6, (by show 2 ≤ sizeLine; decide), fun p np => ?_⟩⟩, fun z => nomatch z⟩)⟩
    have s7 := same_upd (o := .lst [.str "pieces", .str (litShown (.lst nineL))]) np
    refine told_same (s7 _ _ hr6) upd_same (by decide +kernel) sh5.2 ⟨_, rfl, iteF ?_⟩
    have s57 := s6.trans s7
    refine ⟨.ref p5, rfl, 1, rfl, p5, xs5, rfl, .inl (.inl (s57 _ _ hp5)), fun c nc => ?_⟩
    have s8 := same_upd (o := .lst (cutV xs5 (some 1) none)) nc
    have s58 := s57.trans s8
    have e8 : cutV xs5 (some 1) none = (nineL.drop 1).map litV := by
      have z : cutV xs5 (some ((1 : Nat) : Int)) none = xs5.drop 1 := cutV_from
      rw [x5, ← List.map_drop] at z
      rw [← z, x5]
      rfl
    have kinds8 : ∀ y ∈ cutV xs5 (some 1) none, Kind K (upd (upd H6 p (.lst [.str "pieces", .str (litShown (.lst nineL))])) c (.lst (cutV xs5 (some 1) none))) y := fun y hy => by
      rw [e8] at hy
      obtain ⟨l, hl, rfl⟩ := List.mem_map.mp hy
      have z : ∀ l ∈ nineL.drop 1, ∃ u : Str, litV l = .str u ∧ u.length ≤ 1000 := by
        unfold nineL
        intro l hl
        simp only [List.drop_succ_cons, List.drop_zero, List.mem_cons, List.not_mem_nil, or_false] at hl
        rcases hl with rfl | rfl | rfl | rfl | rfl | rfl | rfl | rfl <;> exact ⟨_, rfl, by decide⟩
      obtain ⟨u, e, lu⟩ := z l hl
      rw [e]
      exact .str u lu
    have lb8 := ListB.of (f := piecesB "ab") upd_same (by rw [e8]; decide) kinds8
    have lf8 : piecesB "ab" (cutV xs5 (some 1) none) = true := by
      rw [e8]
      decide +kernel
    rw [lf8] at lb8
    refine ⟨0, .str "ab", .ref c, rfl, .inr (.inl ⟨rfl, "ab", true, rfl, by decide, by decide +kernel, lb8, fun z => (nomatch z), fun _ H9 s9 => ⟨rfl, _, rfl, iteF ?_⟩⟩)⟩
    have s09 := s05.trans (s58.trans s9)
    -- pages
    refine next_at (seq_for_list ?_)
    refine lit_at (.lst odds4) (by decide +kernel) (by simp only [odds4, tLit, tLits]) (fun v H10 s10 h10 => ?_)
    obtain ⟨p10, xs10, rfl, hp10, its10⟩ : ∃ p xs, v = .ref p ∧ H10 p = some (.lst xs) ∧ LitsAt H10 xs odds4 := by
      cases h10 with
      | lst h t => exact ⟨_, _, rfl, h, t⟩
    have s010 := s09.trans s10
    refine ⟨p10, rfl, ⟨_, .inl (.inl hp10)⟩, ?_⟩
    refine for_lits hp10 its10 (fun σ => ∃ y2, σ = [some (.ref q), some (.str sg), y2, some (.ref p3), some (.ref p5), none]) ⟨_, rfl⟩ ?_ ?_
    · rintro x l hl σ' H' ⟨y2, rfl⟩ s' at_ NN nn
      obtain ⟨f1, f2, f3⟩ := o4 sg ins l hl
      have sh := at_.shw (K := K) f2
      have tb := at_.tupB (K := K) (f := fun xs => xs.all (lineOver sg)) f1 fun t => (t.all (lineOver_str (s := sg))).1
      rw [f3] at tb
      refine ⟨.ref q, rfl, x, rfl, 1, .ref q, x, rfl, .inr (.inr (.inl ⟨rfl, q, sg, ws, rfl, fo.same (s010.trans s'), gf.few, tb, _, LitAt.shwS at_ f2, fun r H2 s2 hr2 => ⟨x, rfl, x, _, rfl, LitAt.shwS at_ f2 H2 s2, (by show 2 ≤ sizeLine; decide), fun p np => ?_⟩⟩))⟩
      have s3 := same_upd (o := .lst [.str "page", .str (litShown l)]) np
      exact told_same (s3 _ _ hr2) upd_same (by decide +kernel) sh.2 ⟨_, rfl, iteF (nn _ _ ⟨_, rfl⟩ (s2.trans s3))⟩
    rintro σ H11 ⟨y11, rfl⟩ s11
    have s011 := s010.trans s11
    -- choices
    refine seq_for_list ?_
    show tLst _ _ _ _
    refine tlst_pre (pre_at odds5 (by decide +kernel) (by simp only [odds5, tPre, tLit, tLits]; rfl) (fun xs12 H12 s12 its12 => ?_))
    have s012 := s011.trans s12
    obtain ⟨dx, t, hq, ht⟩ := id fo
    refine ⟨.ref q, rfl, q, dx, _, rfl, s012 _ _ hq, q, sg, ws, rfl, fo.same s012, fun g1 ng1 => ?_⟩
    have sg1 := same_upd (o := .lst (ws.map V.str)) ng1
    refine ⟨1, rfl, g1, _, rfl, .inl (.inl upd_same), fun g2 ng2 => ?_⟩
    have sg2 := same_upd (o := .lst (cutV (ws.map V.str) none (some 1))) ng2
    have few1 : (cutV (ws.map V.str) none (some 1)).length ≤ 1 := by
      have z : cutV (ws.map V.str) none (some ((1 : Nat) : Int)) = (ws.map V.str).take 1 := cutV_to
      show (cutV (ws.map V.str) none (some ((1 : Nat) : Int))).length ≤ 1
      rw [z, List.length_take]
      omega
    refine ⟨g2, 2, _, rfl, rfl, upd_same, by decide, by decide, ?_, fun g3 ng3 => ?_⟩
    · have : (cutV (ws.map V.str) none (some 1)).length * (2 : Int).toNat ≤ 1 * 2 := Nat.mul_le_mul few1 (by decide)
      exact Nat.le_trans this (by decide)
    obtain ⟨vals, ev⟩ : ∃ vals, vals = (List.replicate (2 : Int).toNat (cutV (ws.map V.str) none (some 1))).flatten := ⟨_, rfl⟩
    rw [← ev]
    have evs : vals ++ [V.int 5] = [V.int 5] ∨ ∃ z ∈ ws, vals ++ [V.int 5] = [V.str z, V.str z, V.int 5] := by
      have z : cutV (ws.map V.str) none (some ((1 : Nat) : Int)) = (ws.map V.str).take 1 := cutV_to
      have z' : cutV (ws.map V.str) none (some 1) = (ws.map V.str).take 1 := z
      rw [ev, z']
      cases ws with
      | nil => exact .inl rfl
      | cons y r => exact .inr ⟨y, List.mem_cons_self, rfl⟩
    have sg3 := same_upd (o := .lst vals) ng3
    refine ⟨(by show 1 ≤ sizeLine; decide), fun g4 ng4 => ?_⟩
    have sg4 := same_upd (o := .lst [V.int 5]) ng4
    have fewv : vals.length ≤ 2 := by
      rcases evs with e | ⟨z, _, e⟩
      · have q := congrArg List.length e
        rw [List.length_append] at q
        have q2 : vals.length + 1 = 1 := q
        omega
      · have q := congrArg List.length e
        rw [List.length_append] at q
        have q2 : vals.length + 1 = 3 := q
        omega
    refine ⟨g3, g4, vals, [V.int 5], rfl, rfl, sg4 _ _ upd_same, upd_same, Nat.le_of_lt (small1000 (by show vals.length + 1 ≤ 1000; omega)), fun g5 ng5 => ?_⟩
    have sg5 := same_upd (o := .lst (vals ++ [V.int 5])) ng5
    refine ⟨?_, fun g6 ng6 => ?_⟩
    · rw [List.length_append, its12.length]
      show 6 + 1 ≤ sizeLine
      decide
    have sg6 := same_upd (o := .lst (xs12 ++ [V.ref g5])) ng6
    have s126 := sg1.trans (sg2.trans (sg3.trans (sg4.trans (sg5.trans sg6))))
    have s06 := s012.trans s126
    refine ⟨g6, rfl, ⟨_, .inl (.inl upd_same)⟩, ?_⟩
    obtain ⟨Hb, eHb⟩ : ∃ Hb, Hb = upd (upd (upd (upd (upd (upd H12 g1 (.lst (ws.map V.str))) g2 (.lst (cutV (ws.map V.str) none (some 1)))) g3 (.lst vals)) g4 (.lst [V.int 5])) g5 (.lst (vals ++ [V.int 5]))) g6 (.lst (xs12 ++ [V.ref g5])) := ⟨_, rfl⟩
    have hg6 : Hb g6 = some (.lst (xs12 ++ [V.ref g5])) := by rw [eHb]; exact upd_same
    have hg5 : Hb g5 = some (.lst (vals ++ [V.int 5])) := by rw [eHb]; exact sg6 _ _ upd_same
    have sHb : Same H Hb := by rw [eHb]; exact s06
    have its12b : LitsAt Hb xs12 odds5 := by rw [eHb]; exact its12.same s126
    rw [← eHb]
    clear eHb
    have odds : ∀ x ∈ xs12 ++ [V.ref g5], Odd5 K ws Hb x := fun x hx => by
      rcases List.mem_append.mp hx with hx | hx
      · obtain ⟨l, hl, at_⟩ := its12b.mem hx
        obtain ⟨f1, f2⟩ := o5 l hl
        have lb := at_.listB (K := K) (f := choiceB ws) f1 fun t => t.choice
        rw [o5c hs gf l hl] at lb
        exact ⟨lb, _, (at_.shw (K := K) f2).2, LitAt.shwS at_ f2⟩
      · rw [List.mem_singleton.mp hx]
        rcases evs with e | ⟨z, hz, e⟩
        · rw [e] at hg5
          have lb := ListB.of (K := K) (f := choiceB ws) hg5 (by decide) (fun y hy => by rw [List.mem_singleton.mp hy]; exact .int 5)
          refine ⟨lb, _, o7.2, fun H' s' => fine_shw o7.1 (.lst (.inl (.inl (s' _ _ hg5))) (.cons (.int 5) .nil))⟩
        · rw [e] at hg5
          have l3 := (gf.words.2.1 z hz).2.1
          have lb := ListB.of (K := K) (f := choiceB ws) hg5 (by show 3 ≤ 1000; decide) (fun y hy => by
            simp only [List.mem_cons, List.not_mem_nil, or_false] at hy
            rcases hy with rfl | rfl | rfl
            · exact .str z (by omega)
            · exact .str z (by omega)
            · exact .int 5)
          have cf : choiceB ws [V.str z, V.str z, V.int 5] = false := by
            show ((isPiece ws (.str z) && (isPiece ws (.str z) && (false && true))) && _) = false
            cases isPiece ws (.str z) <;> rfl
          rw [cf] at lb
          have o := o6 sg ins z (dw z hz)
          exact ⟨lb, _, o.2, fun H' s' => fine_shw o.1 (.lst (.inl (.inl (s' _ _ hg5))) (.cons (.str z) (.cons (.str z) (.cons (.int 5) .nil))))⟩
    refine for_itW (walk_list (K := K) (a := g6) (xs := xs12 ++ [V.ref g5])) (fun i σ H5 => (∃ y2 y5, σ = [some (.ref q), some (.str sg), y2, some (.ref p3), some (.ref p5), y5]) ∧ Same Hb H5) ⟨⟨_, _, rfl⟩, fun _ _ e => e⟩ (fun i σ H5 _ z => .inl (.inl (z.2 _ _ hg6))) ?_ ?_
    · rintro i x σ H5 H6 hi ⟨⟨y2, y5, rfl⟩, s5⟩ ⟨rfl, hx⟩
      have od := (odds x (List.mem_of_getElem? hx)).same s5
      obtain ⟨lb, U, okU, shU⟩ := od
      refine ⟨(by show 2 ≤ sizeLine; decide), fun T nT => ⟨T, rfl, ⟨_, .inl (.inl upd_same)⟩, fun D nD => ?_⟩⟩
      have sT := same_upd (o := .tup [V.int 2, V.int 3]) nT
      obtain ⟨HT, eHT⟩ : ∃ HT, HT = upd H6 T (.tup [V.int 2, V.int 3]) := ⟨_, rfl⟩
      have hT : HT T = some (.tup [V.int 2, V.int 3]) := by rw [eHT]; exact upd_same
      rw [← eHT] at sT nD ⊢
      clear eHT
      refine lc_it (walk_tup (K := K) (a := T) (xs := [V.int 2, V.int 3])) (fun j H7 => Same HT H7 ∧ ∃ rs : List Addr, rs.length = j ∧ H7 D = some (.lst (rs.map V.ref)) ∧ ∀ r ∈ rs, H7 r = some (.lst [.str "pieces", .str U])) ⟨same_upd nD, [], rfl, upd_same, fun _ h => by simp at h⟩ (fun _ H7 _ z => .inl (.inl (z.1 _ _ hT))) ?_ ?_
      · rintro j y H7 H8 hj ⟨s7, rs, lr, hD, hr_⟩ ⟨rfl, hy⟩
        obtain ⟨dd, rfl, hdd⟩ : ∃ dd : Int, y = .int dd ∧ (dd = 2 ∨ dd = 3) := by
          have hj2 : j < 2 := hj
          match j, hj2 with
          | 0, _ => exact ⟨2, (Option.some.inj hy).symm, .inl rfl⟩
          | 1, _ => exact ⟨3, (Option.some.inj hy).symm, .inr rfl⟩
        have s07 := sHb.trans (s5.trans (sT.trans s7))
        refine ⟨rfl, .int dd, rfl, .ref q, rfl, x, rfl, dd, .ref q, x, rfl, .inr (.inr (.inr ⟨hdd, q, sg, ws, rfl, fo.same s07, gf, lb.same (sT.trans s7), U, fun H9 s9 => shU H9 (sT.trans (s7.trans s9)), fun r H9 s9 hr9 => ?_⟩))⟩
        have hD9 := s9 _ _ hD
        have rD : r ≠ D := fun z => by
          rw [z, hD9] at hr9
          injection hr9 with e1
          injection e1 with e2
          cases rs with
          | nil => cases e2
          | cons a b => injection e2 with e3; cases e3
        refine ⟨_, hD9, ?_, fun b o e => ?_, rs ++ [r], ?_, ?_, fun r' h' => ?_⟩
        · have hj2 : j < 2 := hj
          rw [List.length_map, lr]
          exact small1000 (by omega)
        · rw [upd_ne (ne_of_none e nD)]
          exact s9 _ _ (s7 _ _ e)
        · rw [List.length_append, lr]
          rfl
        · rw [upd_same, List.map_append]
          rfl
        · rcases List.mem_append.mp h' with h' | h'
          · have e9 := s9 _ _ (hr_ r' h')
            have ne : r' ≠ D := fun z => by
              rw [z, hD9] at e9
              injection e9 with e1
              injection e1 with e2
              cases rs with
              | nil => cases e2
              | cons a b => injection e2 with e3; cases e3
            rw [upd_ne ne]
            exact e9
          · rw [List.mem_singleton.mp h', upd_ne rD]
            exact hr9
      · rintro H7 ⟨s7, rs, lr, hD, hr_⟩
        have lr2 : rs.length = 2 := lr
        obtain ⟨r1, r2, rfl⟩ : ∃ r1 r2, rs = [r1, r2] := by
          match rs, lr2 with
          | [r1, r2], _ => exact ⟨r1, r2, rfl⟩
        have s67 := sT.trans s7
        refine ⟨x, rfl, x, U, rfl, shU H7 s67, (by show 2 ≤ sizeLine; decide), fun p np => ⟨(by show 1 ≤ sizeLine; decide), fun l1 nl1 => ⟨l1, 2, _, rfl, rfl, upd_same, by decide, by decide, (by show 1 * 2 ≤ sizeLine; decide), fun l2 nl2 => ?_⟩⟩⟩
        have sp := same_upd (o := .lst [.str "pieces", .str U]) np
        have sl1 := same_upd (o := .lst [V.ref p]) nl1
        have sl2 := same_upd (o := .lst (List.replicate (2 : Int).toNat [V.ref p]).flatten) nl2
        have sall := sp.trans (sl1.trans sl2)
        have okL : ∀ x ∈ [("pieces" : Str), U], PyData.strOk x = true := fun x hx => by
          rcases List.mem_cons.mp hx with e | e
          · rw [e]; decide +kernel
          · rw [List.mem_singleton.mp e]; exact okU
        have one : ∀ r, H7 r = some (.lst [.str "pieces", .str U]) → Dp K (upd (upd (upd H7 p (.lst [.str "pieces", .str U])) l1 (.lst [V.ref p])) l2 (.lst (List.replicate (2 : Int).toNat [V.ref p]).flatten)) (.ref r) (.list ([("pieces" : Str), U].map .str)) := fun r e => .lst (.inl (.inl (sall _ _ e))) (strs_dp [("pieces" : Str), U])
        have onep : Dp K (upd (upd (upd H7 p (.lst [.str "pieces", .str U])) l1 (.lst [V.ref p])) l2 (.lst (List.replicate (2 : Int).toNat [V.ref p]).flatten)) (.ref p) (.list ([("pieces" : Str), U].map .str)) := .lst (.inl (.inl (sl2 _ _ (sl1 _ _ upd_same)))) (strs_dp [("pieces" : Str), U])
        have lay : (PyData.list [.list ([("pieces" : Str), U].map .str), .list ([("pieces" : Str), U].map .str)]).canLay0 = true := by
          have z := lay_strs [("pieces" : Str), U] okL
          show ((PyData.canLayAll0 ([("pieces" : Str), U].map .str)) && ((PyData.canLayAll0 ([("pieces" : Str), U].map .str)) && true)) = true
          rw [z]
          rfl
        have shp : SeqAt.shaped (.list [.list ([("pieces" : Str), U].map .str), .list ([("pieces" : Str), U].map .str)]) = true := by
          unfold SeqAt.shaped
          rw [lay]
          rfl
        refine ⟨.list [.list ([("pieces" : Str), U].map .str), .list ([("pieces" : Str), U].map .str)], .list [.list ([("pieces" : Str), U].map .str), .list ([("pieces" : Str), U].map .str)], .lst (.inl (.inl (sall _ _ hD))) (.cons (one r1 (hr_ r1 (by simp))) (.cons (one r2 (hr_ r2 (by simp))) .nil)), .lst (.inl (.inl upd_same)) (.cons onep (.cons onep .nil)), shp, shp, _, rfl, ?_⟩
        rw [SeqAt.eqv_refl _ lay]
        exact iteF ⟨⟨_, _, rfl⟩, s5.trans (s67.trans sall)⟩
    · rintro σ H5 ⟨⟨y2, y5, rfl⟩, s5⟩
      exact fin H5 (sHb.trans s5)
end
end K11

namespace K11
open PySem PySem.Spec PyProof.Rows PySem.ErrX L2 Wd
def spLaw (K : PySem.W.Frag) : Sp := fun vs H Q _ => ∃ (b : Addr) (ns : List Int), vs = [.ref b] ∧ SqL K H b (ns.map V.int) ∧ ns.length ≤ 63 ∧ ∀ H', Q (.bl true) H'
section
variable {P : Program} {w : World} {K : PySem.W.Frag} {mg : Str → Option Value} {base : Heap} {a : Nat → Addr} {d : Nat → FuncData}
theorem ok_law (k : Kit K mg a d) : FnG P w K mg base CX0 12 (a i_law) (d i_law) ["_law_script"] (spLaw K) := by
  have G__law_pool := G__law_pool (P := P) (w := w) (base := base) k
  have G__law_draw := G__law_draw (P := P) (w := w) (base := base) k
  have G__law_mixed := G__law_mixed (P := P) (w := w) (base := base) k
  have G__law_line := G__law_line (P := P) (w := w) (base := base) k
  have G__law_family := G__law_family (P := P) (w := w) (base := base) k
  have G__law_is_in := G__law_is_in (P := P) (w := w) (base := base) k
  have G__law_refused := G__law_refused (P := P) (w := w) (base := base) k
  have G_Family___init__ := G_Family___init__ (P := P) (w := w) (base := base) k
  have G_Family___eq__ := G_Family___eq__ (P := P) (w := w) (base := base) k
  have G_Family_signs := G_Family_signs (P := P) (w := w) (base := base) k
  have G_Family_pieces := G_Family_pieces (P := P) (w := w) (base := base) k
  have G_Family_of := G_Family_of (P := P) (w := w) (base := base) k
  have G_Family_cut := G_Family_cut (P := P) (w := w) (base := base) k
  have G_Family_is_allowed := G_Family_is_allowed (P := P) (w := w) (base := base) k
  refine k.D_law.F.okG0 sc_law (fun vs H Q E h => ?_) (fun cdv A outer s H vs Q E hr hg h => ?_)
  · obtain ⟨b, ns, rfl, _⟩ := h
    rfl
  · obtain ⟨b, ns, rfl, hS, hlen, fin⟩ := h
    have hu := hr.units
    refine ⟨_, (pss_cons (ps_for PassesOwn.never rfl (pi_range1 (by rfl) k.z_range (pa_cons (pe_callB (call_max2 rfl) (by rfl) k.z_max Wd.boot_max (pa_cons pe_int (pa_cons (pe_callB (call_min2 rfl) (by rfl) k.z_min Wd.boot_min (pa_cons (pe_callB call_len_seq (by rfl) k.z_len PySem.boot_len (pa_cons (pv 0) pa_nil)) (pa_cons pe_int pa_nil))) pa_nil))) pa_nil)) (pg_name (i := 1) sc_law.nd rfl (Or.inl rfl)) (pss_cons (ps_set (i := 2) sc_law.nd rfl (Or.inr rfl) (k.D__law_pool.call G__law_pool (hr.mono (by decide)) (pa_cons (pv 0) (pa_cons (pv 1) pa_nil))))
      (pss_cons (ps_set (i := 3) sc_law.nd rfl (Or.inr rfl) (pe_slice sl_str pe_str po_none (po_some (pe_op op_add pe_int (k.D__law_draw.call G__law_draw (hr.mono (by decide)) (pa_cons (pv 2) (pa_cons pe_int pa_nil)))))))
      (pss_cons (ps_set (i := 4) sc_law.nd rfl (Or.inl rfl) (k.D__law_family.call G__law_family (hr.mono (by decide)) (pa_cons (pv 2) (pa_cons (pv 3) (pa_cons pe_int pa_nil)))))
      (pss_cons (ps_set (i := 5) sc_law.nd rfl (Or.inl rfl) (pe_prop (pv 4) k.Cl_Family k.P_Family_pieces (G_Family_pieces) (hr.mono (by decide)) k.b_Family_pieces .nil pass0 (by rfl)))
      (pss_cons (ps_if (PW.pt (pw_or (pt_cmpR op_ne (pe_prop (pv 4) k.Cl_Family k.P_Family_signs (G_Family_signs) (hr.mono (by decide)) k.b_Family_signs .nil pass0 (by rfl)) (pv 3) (nomark _)) (pw_or1 (pt_not (pt_cmpR (op_ownI k.q_Family___eq__ k.e_Family___eq__ G_Family___eq__ k.b_Family___eq__ (hr.mono (by decide)) pass0) (pv 4) (pe_make k.Mk_Family G_Family___init__ (hr.mono (by decide)) (by rfl) k.G_Family k.b_Family___init__ .nil passX0 (pa_cons (pv 3) (pa_cons (pv 5) pa_nil))) (nomark _)))))) (pss_one (ps_ret pe_bl)) pss_nil)
      (pss_cons (ps_if (PW.pt (pw_or (pt_cmpR (op_ownI k.q_Family___eq__ k.e_Family___eq__ G_Family___eq__ k.b_Family___eq__ (hr.mono (by decide)) pass0) (pv 4) (pe_make k.Mk_Family G_Family___init__ (hr.mono (by decide)) (by rfl) k.G_Family k.b_Family___init__ .nil passX0 (pa_cons (pe_op op_add_str (pv 3) pe_str) (pa_cons (pv 5) pa_nil))) (nomark _)) (pw_or1 (pt_cmpR (op_ownI k.q_Family___eq__ k.e_Family___eq__ G_Family___eq__ k.b_Family___eq__ (hr.mono (by decide)) pass0) (pv 4) (pv 5) (nomark _))))) (pss_one (ps_ret pe_bl)) pss_nil)
      (pss_cons (ps_for PassesOwn.never rfl (pi_range1 (by rfl) k.z_range (pa_cons pe_int pa_nil)) (pg_name (i := 6) sc_law.nd rfl (Or.inl rfl)) (pss_cons (ps_set (i := 7) sc_law.nd rfl (Or.inr rfl) (pe_callTy call_tuple_of (by rfl) k.z_tuple Wd.boot_tuple (pa_cons (pe_lc (own := [("_law_line_here", 8)]) (g := (gName 8)) (tt := tYes) rfl sc_law.nd (pi_range1 (by rfl) k.z_range (pa_cons (k.D__law_draw.call G__law_draw (hr.mono (by decide)) (pa_cons (pv 2) (pa_cons pe_int pa_nil))) pa_nil)) (blkOk_by (N := N_law) (sc := defScope s_law) (by decide +kernel)) (fun _ _ _ _ _ => (pg_name (i := 8) sc_law.nd rfl (Or.inl rfl))) (fun _ _ _ _ _ => pts_nil) (fun _ _ _ _ _ => (k.D__law_line.call G__law_line (hr.mono (by decide)) (pa_cons (pv 2) (pa_cons (pv 3) (pa_cons pe_int pa_nil)))))) pa_nil)))
      (pss_cons (ps_setLc (i := 9) (own := [("_law_piece", 10)]) (g := (gName 10)) rfl sc_law.nd rfl rfl (sw_true rfl rfl rfl (by decide +kernel)) (pi_list (pv 5)) (blkOk_by (N := N_law) (sc := defScope s_law) (by decide +kernel)) (fun _ _ _ _ _ => (pg_name (i := 10) sc_law.nd rfl (Or.inr rfl))) (fun _ _ _ _ _ => pts_one (pt_cmpR (op_neDK (K := K) rfl hu) (pe_lc (own := [("_law_line_here", 8)]) (g := (gName 8)) rfl sc_law.nd (pi_tupK (K := K) rfl (pv 7)) (blkOk_by (N := N_law) (by kernel_rfl)) (fun _ _ _ _ _ => (pg_name (i := 8) sc_law.nd rfl (Or.inl rfl))) (fun _ _ _ _ _ => pts_one (pt_val (k.D__law_is_in.call G__law_is_in (hr.mono (by decide)) (pa_cons (pv 10) (pa_cons (pv 8) pa_nil))))) (fun _ _ _ _ _ => (pv 8))) (pe_lst pa_nil) (nomark _))) (fun _ _ _ _ _ => (pv 10)))
      (pss_cons (ps_if (pt_cmpR (op_neD hu) (pe_meth (pv 4) k.Cl_Family k.M_Family_of G_Family_of (hr.mono (by decide)) k.b_Family_of .nil passX0 (pa_cons (pv 7) pa_nil)) (pv 9) (nomark _)) (pss_one (ps_ret pe_bl)) pss_nil)
      (pss_cons (ps_set (i := 11) sc_law.nd rfl (Or.inr rfl) (pe_lc (own := [("_law_piece", 10)]) (g := (gName 10)) rfl sc_law.nd (pi_list (pv 5)) (blkOk_by (N := N_law) (sc := defScope s_law) (by decide +kernel)) (fun _ _ _ _ _ => (pg_name (i := 10) sc_law.nd rfl (Or.inl rfl))) (fun _ _ _ _ _ => pts_one (pt_cmpR op_eq (k.D__law_draw.call G__law_draw (hr.mono (by decide)) (pa_cons (pv 2) (pa_cons pe_int pa_nil))) pe_int (nomark _))) (fun _ _ _ _ _ => (pv 10))))
      (pss_cons (ps_if (pt_not (pt_cmpR (op_ownI k.q_Family___eq__ k.e_Family___eq__ G_Family___eq__ k.b_Family___eq__ (hr.mono (by decide)) pass0) (pe_meth (pv 4) k.Cl_Family k.M_Family_cut G_Family_cut (hr.mono (by decide)) k.b_Family_cut .nil passX0 (pa_cons (k.D__law_mixed.call G__law_mixed (hr.mono (by decide)) (pa_cons (pv 2) (pa_cons (pv 11) pa_nil))) pa_nil)) (pe_make k.Mk_Family G_Family___init__ (hr.mono (by decide)) (by rfl) k.G_Family k.b_Family___init__ .nil passX0 (pa_cons (pv 3) (pa_cons (pv 11) pa_nil))) (nomark _))) (pss_one (ps_ret pe_bl)) pss_nil)
      (pss_one (ps_for PassesOwn.never rfl (pi_list (pe_op op_cat (pe_callTy call_list_of (by rfl) k.z_list Wd.boot_list (pa_cons (pv 7) pa_nil)) (pe_lst (pa_cons pe_str (pa_cons pe_str (pa_cons pe_non (pa_cons pe_int pa_nil))))))) (pg_name (i := 8) sc_law.nd rfl (Or.inr rfl)) (pss_cons (ps_set (i := 12) sc_law.nd rfl (Or.inl rfl) (pe_and (pe_callB call_ofStr (by rfl) k.z_isinstance PyProof.Rows.boot_isinstance (pa_cons (pv 8) (pa_cons (pe_ty k.z_str Wd.boot_str) pa_nil))) (pe_one (pe_cmpR (op_eqD hu) (pe_lc (own := [("_law_sign", 13)]) (g := (gName 13)) rfl sc_law.nd (pi_str (pv 8)) (blkOk_by (N := N_law) (sc := defScope s_law) (by decide +kernel)) (fun _ _ _ _ _ => (pg_name (i := 13) sc_law.nd rfl (Or.inl rfl))) (fun _ _ _ _ _ => pts_one (pt_cmpR op_notIn_sign (pv 13) (pv 3) (by rfl))) (fun _ _ _ _ _ => (pv 13))) (pe_lst pa_nil) (nomark _)))))
      (pss_cons (ps_if (pt_val (pv 12)) (pss_cons (ps_setLc (i := 14) (own := [("_law_piece", 10)]) (g := (gName 10)) rfl sc_law.nd rfl rfl (sw_true rfl rfl rfl (by decide +kernel)) (pi_list (pv 5)) (blkOk_by (N := N_law) (sc := defScope s_law) (by decide +kernel)) (fun _ _ _ _ _ => (pg_name (i := 10) sc_law.nd rfl (Or.inl rfl))) (fun _ _ _ _ _ => pts_one (pt_cmpR (op_notIn_seqK (K := K) rfl) (pv 10) (pv 11) (by rfl))) (fun _ _ _ _ _ => (pv 10)))
      (pss_one (ps_set (i := 12) sc_law.nd rfl (Or.inl rfl) (pe_cmpR (op_eqD hu) (pe_lc (own := [("_law_piece", 10)]) (g := (gName 10)) rfl sc_law.nd (pi_list (pv 14)) (blkOk_by (N := N_law) (sc := defScope s_law) (by decide +kernel)) (fun _ _ _ _ _ => (pg_name (i := 10) sc_law.nd rfl (Or.inl rfl))) (fun _ _ _ _ _ => pts_one (pt_val (k.D__law_is_in.call G__law_is_in (hr.mono (by decide)) (pa_cons (pv 10) (pa_cons (pv 8) pa_nil))))) (fun _ _ _ _ _ => (pv 10))) (pe_lst pa_nil) (nomark _))))) pss_nil)
      (pss_one (ps_if (pt_cmpR op_ne (pe_meth (pv 4) k.Cl_Family k.M_Family_is_allowed G_Family_is_allowed (hr.mono (by decide)) k.b_Family_is_allowed .nil passX0 (pa_cons (pv 11) (pa_cons (pv 8) pa_nil))) (pv 12) (nomark _)) (pss_one (ps_ret pe_bl)) pss_nil))))))))))))
      (pss_cons (ps_expr (pe_bm0 PySem.F.plainAttrs_list PySem.F.slot_list_clear PySem.F.type_list_clear mt_clear (pe_prop (pv 4) k.Cl_Family k.P_Family_pieces (G_Family_pieces) (hr.mono (by decide)) k.b_Family_pieces .nil pass0 (by rfl))))
      (pss_cons (ps_if (PW.pt (pw_or (pt_cmpR (op_neD hu) (pe_prop (pv 4) k.Cl_Family k.P_Family_pieces (G_Family_pieces) (hr.mono (by decide)) k.b_Family_pieces .nil pass0 (by rfl)) (pv 5) (nomark _)) (pw_or1 (pt_not (pt_val (k.D__law_refused.callG G__law_refused hg (hr.mono (by decide)) (pa_cons (pv 4) (pa_cons (pv 3) pa_nil)))))))) (pss_one (ps_ret pe_bl)) pss_nil)
      (pss_one (ps_if (PW.pt (pw_and (pt_cmpR op_gt (pe_callB call_len_seq (by rfl) k.z_len PySem.boot_len (pa_cons (pv 5) pa_nil)) pe_int (nomark _)) (pw_and1 (pt_cmpR (op_ownI k.q_Family___eq__ k.e_Family___eq__ G_Family___eq__ k.b_Family___eq__ (hr.mono (by decide)) pass0) (pv 4) (pe_make k.Mk_Family G_Family___init__ (hr.mono (by decide)) (by rfl) k.G_Family k.b_Family___init__ .nil passX0 (pa_cons (pv 3) (pa_cons (pe_revL (pv 5)) pa_nil))) (nomark _))))) (pss_one (ps_ret pe_bl)) pss_nil))))))))))))
      (pss_one (ps_ret pe_bl))), ?_⟩
    refine ⟨.ref b, rfl, b, _, rfl, .inl hS, _, _, rfl, _, _, rfl, _, rfl, ?_, ?_, for_range (lo := 0) (n := _) (fun _ σ H' => ∃ y1 y2 y3 y4 y5 y6 y7 y8 y9 y10 y11 y12 y13 y14, σ = [some (.ref b), y1, y2, y3, y4, y5, y6, y7, y8, y9, y10, y11, y12, y13, y14] ∧ Same H H')
      ⟨_, _, _, _, _, _, _, _, _, _, _, _, _, _, rfl, fun _ _ e => e⟩ ?_ ?_⟩
    · rw [List.length_map]
      have z := hlen
      split <;> split <;> omega
    · rw [List.length_map]
      have z := hlen
      split <;> split <;> omega
    · rintro i σ H1 hi ⟨y1, y2, y3, y4, y5, y6, y7, y8, y9, y10, y11, y12, y13, y14, rfl, s1⟩
      have i8 : i ≤ 1000 := by
        rw [List.length_map] at hi
        have z := hlen
        revert hi
        split <;> split <;> omega
      refine ⟨.ref b, rfl, .int (0 + (i : Int)), rfl, b, ns, _, rfl, s1.seq hS, by omega, by omega, by omega, fun H2 p g m s2 n2 hp => ?_⟩
      refine ⟨.ref p, rfl, p, 2, g, m, rfl, hp, by decide, by decide, fun r g3 m3 r0 r1 => ⟨2, r, rfl, rfl, 2 + r, rfl, "abc", rfl, by decide, ?_⟩⟩
      have pool3 : Pool (upd H2 p (.lst [.int g3, .int m3])) p := ⟨_, _, upd_same⟩
      have b3 : But p H1 (upd H2 p (.lst [.int g3, .int m3])) := (Same.but s2).trans But.upd
      obtain ⟨sg, esg, hs⟩ : ∃ sg, cutS "abc" none (some (2 + r)) = sg ∧ (sg = "ab" ∨ sg = "abc") := by
        obtain rfl | rfl : r = 0 ∨ r = 1 := by omega
        · exact ⟨_, rfl, .inl (by decide +kernel)⟩
        · exact ⟨_, rfl, .inr (by decide +kernel)⟩
      rw [esg]
      generalize upd H2 p (.lst [.int g3, .int m3]) = H3 at pool3 b3 ⊢
      have gw : GoodW sg := by
        rcases hs with rfl | rfl
        · exact goodW_ab
        · exact goodW_abc
      refine ⟨.ref p, rfl, .str sg, rfl, p, sg, 8, rfl, pool3, gw, by decide, by decide, fun q H4 ws b4 pool4 nq fo gf dw lw => ?_⟩
      refine ⟨.ref q, rfl, fo.prop ⟨q, sg, ws, rfl, fo, fun L nL => ?_⟩⟩
      have f5 : ∃ H5, H5 = upd H4 L (.lst (ws.map V.str)) := ⟨_, rfl⟩
      obtain ⟨H5, e5⟩ := f5
      have s45 : Same H4 H5 := by rw [e5]; exact same_upd nL
      have hL : H5 L = some (.lst (ws.map V.str)) := by rw [e5]; exact upd_same
      rw [← e5]
      clear e5
      have fo5 := fo.same s45
      have pool5 : Pool H5 p := let ⟨g, m, h⟩ := pool4; ⟨g, m, s45 _ _ h⟩
      have b5 : But p H1 H5 := b3.trans (b4.trans (Same.but s45))
      refine ⟨.ref q, rfl, fo5.prop ⟨q, sg, ws, rfl, fo5, .str sg, rfl, rfl, _, rfl, ?_⟩⟩
      rw [show (!decide (V.str sg = V.str sg)) = false from by rw [decide_eq_true rfl]; rfl]
      refine iteF ⟨.ref q, rfl, .str sg, rfl, .ref L, rfl, fun x6 d6 n6 m6 e6 => fam_made gf hL n6 m6 e6 fun H6 s6 f6 => (fo5.same s6).eqFam gf f6 gf k.Cl_Family k.Is_Family fun H7 s7 => ⟨_, rfl, ?_⟩⟩
      rw [decide_eq_true rfl, decide_eq_true rfl]
      refine iteF ?_
      have s57 := s6.trans s7
      have gz : GoodF (sg ++ "z") ws := gf.more (by rcases hs with rfl | rfl <;> decide +kernel)
      have nz : decide (sg = sg ++ "z") = false := by rcases hs with rfl | rfl <;> decide +kernel
      refine ⟨.ref q, rfl, .str sg, rfl, sg, "z", rfl, rfl, (by rcases hs with rfl | rfl <;> decide), .ref L, rfl, fun x8 d8 n8 m8 e8 => fam_made gz (s57 _ _ hL) n8 m8 e8 fun H8 s8 f8 => (fo5.same (s57.trans s8)).eqFam gf f8 gz k.Cl_Family k.Is_Family fun H9 s9 => ⟨_, rfl, ?_⟩⟩
      rw [nz]
      have s59 := s57.trans (s8.trans s9)
      refine iteF ⟨.ref q, rfl, .ref L, rfl, (fo5.same s59).eqList gf (s59 _ _ hL) k.i_Family_list fun H10 s10 => ⟨_, rfl, iteF ?_⟩⟩
      have s5a := s59.trans s10
      have foA := fo5.same s5a
      have poolA : Pool H10 p := let ⟨g, m, h⟩ := pool5; ⟨g, m, s5a _ _ h⟩
      have hLA := s5a _ _ hL
      have bA : But p H1 H10 := b5.trans (Same.but s5a)
      have Lp : L ≠ p := fun z => by
        obtain ⟨g, m, h⟩ := pool4
        rw [z, h] at nL
        cases nL
      clear s5a s59 s57 s10 s9 s8 s7 s6 fo5 hL pool5 b5 s45 f6 f8 gz nz
      refine next_at (seq_for ?_)
      refine ⟨5, rfl, by decide, by decide, for_range (lo := 0) (n := 5) (fun _ σ H' => ∃ y1 y6 y7 y8 y9 y10 y11 y12 y13 y14, σ = [some (.ref b), y1, some (.ref p), some (.str sg), some (.ref q), some (.ref L), y6, y7, y8, y9, y10, y11, y12, y13, y14] ∧ But p H10 H' ∧ Pool H' p)
        ⟨_, _, _, _, _, _, _, _, _, _, rfl, .refl p H10, poolA⟩ ?_ ?_⟩
      · rintro j σ H11 hj ⟨y1, y6, y7, y8, y9, y10, y11, y12, y13, y14, rfl, bB, poolB⟩
        obtain ⟨gB, mB, hpB⟩ := id poolB
        refine seq_set ?_
        refine ⟨.ref p, rfl, p, 4, gB, mB, rfl, hpB, by decide, by decide, fun n gC mC n0 n1 => ⟨n, rfl, by omega, by omega, fun D nD => ?_⟩⟩
        have pC : (upd H11 p (.lst [.int gC, .int mC])) p = some (.lst [.int gC, .int mC]) := upd_same
        have nDp : D ≠ p := fun z => by
          rw [z, pC] at nD
          cases nD
        have lsg := gw.len
        refine lc_range (lo := 0) (n := n.toNat) (fun i H12 => But p H11 H12 ∧ Pool H12 p ∧ ∃ zs : List Str, zs.length = i ∧ (∀ z ∈ zs, z.length ≤ 6 ∧ over sg z = true) ∧ H12 D = some (.lst (zs.map V.str)))
          ⟨But.upd.trans (But.of (same_upd nD)), ⟨gC, mC, by rw [upd_ne nDp.symm]; exact pC⟩, [], rfl, by simp, upd_same⟩ ?_ ?_
        · rintro i H12 hi ⟨b12, pool12, zs, lz, hz, hD⟩
          have D11 : H11 D = none := by
            rw [upd_ne nDp] at nD
            exact nD
          refine ⟨rfl, .ref p, rfl, .str sg, rfl, p, sg, 6, rfl, pool12, lsg.1, by omega, by decide, by decide, fun H13 z b13 pool13 lz6 ov => ⟨zs.map V.str, b13 _ _ nDp hD, ?_, ?_, ?_, zs ++ [z], ?_, ?_, ?_⟩⟩
          · have z1 : 1000 < sizeLine := by decide
            rw [List.length_map, lz]
            omega
          · intro c o w e
            rw [upd_ne (ne_of_none e D11)]
            exact b13 c o w (b12 c o w e)
          · obtain ⟨g, m, h⟩ := pool13
            exact ⟨g, m, by rw [upd_ne nDp.symm]; exact h⟩
          · rw [List.length_append, lz]
            rfl
          · intro y hy
            rcases List.mem_append.mp hy with h | h
            · exact hz y h
            · rw [List.mem_singleton.mp h]
              exact ⟨lz6, ov⟩
          · rw [upd_same, List.map_append]
            rfl
        rintro H12 ⟨b12, pool12, zs, lz, hz, hD⟩
        refine ⟨D, _, rfl, .inl ⟨.inl (.inl hD), fun T nT => ?_⟩⟩
        obtain ⟨H13, e13⟩ : ∃ H13, H13 = upd H12 T (.tup (zs.map V.str)) := ⟨_, rfl⟩
        have s13 : Same H12 H13 := by rw [e13]; exact same_upd nT
        have hT : H13 T = some (.tup (zs.map V.str)) := by rw [e13]; exact upd_same
        rw [← e13]
        clear e13
        have b13 : But p H10 H13 := bB.trans (b12.trans (Same.but s13))
        have pool13 : Pool H13 p := let ⟨g, m, h⟩ := pool12; ⟨g, m, s13 _ _ h⟩
        have fo13 := foA.but poolA b13
        have hL13 := b13 _ _ Lp hLA
        have lzs : zs.length ≤ 4 := by omega
        have slow := (asSigns_low gw.sg).1
        have zok : ∀ z ∈ zs, PyData.strOk z = true := fun z hz' => low_ok (over_low slow (hz z hz').2)
        have w8 := gf.words.1
        refine seq_set ?_
        refine ⟨.ref L, rfl, L, rfl, ⟨_, .inl (.inl hL13)⟩, fun D2 nD2 => ?_⟩
        refine lc_pure (walk_list (K := K) (a := L) (xs := ws.map V.str)) (fun H' s' => .inl (.inl (s' _ _ hL13))) (by rw [List.length_map]; omega) nD2 (fun y => !decide ((zs.filter fun z => hasSub z (txV y)) = [])) (fun y => y) (fun y hy H' s' KK R yes no => ?_) fun H14 s14 hD2 => ?_
        · obtain ⟨pc, hpc, rfl⟩ := List.mem_map.mp hy
          have wpc := gf.words.2.1 pc hpc
          refine ⟨rfl, .ref T, rfl, T, rfl, ⟨_, .inl (.inl (s' _ _ hT))⟩, fun D3 nD3 => ?_⟩
          refine lc_pure (walk_tup (K := K) (a := T) (xs := zs.map V.str)) (fun H'' s'' => .inl (.inl (s'' _ _ (s' _ _ hT)))) (by rw [List.length_map]; omega) nD3 (hasV pc) (fun y => y) (fun y hy H'' s'' KK' R' yes' no' => ?_) fun H5 s5 hD3 => ?_
          · obtain ⟨z, hz', rfl⟩ := List.mem_map.mp hy
            have l6 := (hz z hz').1
            refine ⟨rfl, .str pc, rfl, .str z, rfl, pc, z, rfl, wpc.1, by omega, by omega, fun H6 s6 => ⟨_, rfl, ite2 (fun e => ⟨.str z, rfl, yes' e H6 s6⟩) (fun e => no' (Bool.eq_false_iff.mpr e) H6 s6)⟩⟩
          · have e9 : (zs.map V.str).filter (hasV pc) = (zs.filter fun z => hasSub z pc).map V.str := by
              rw [List.filter_map]
              rfl
            rw [List.map_id', e9] at hD3
            refine ⟨by show 0 ≤ sizeLine; decide, fun e ne => strs_neD (ys := []) (same_upd ne _ _ hD3) upd_same (fun x hx => zok x (List.mem_filter.mp hx).1) (fun x hx => nomatch hx) ⟨_, rfl, ite2 (fun e8 => ⟨.str pc, rfl, yes e8 _ (s5.trans (same_upd ne))⟩) (fun e8 => no (Bool.eq_false_iff.mpr e8) _ (s5.trans (same_upd ne)))⟩⟩
        have ed : ((ws.map V.str).filter fun y => !decide ((zs.filter fun z => hasSub z (txV y)) = [])) = (ofPage ws (zs.map V.str)).map V.str := by
          rw [List.filter_map]
          unfold ofPage
          congr 1
          refine List.filter_congr fun p _ => any_has p zs
        rw [List.map_id', ed] at hD2
        clear ed
        have fo14 := fo13.same s14
        have hT14 := s14 _ _ hT
        refine seq_if ?_
        have tb : TupB K H14 (fun xs => xs.all (lineOver sg)) (.ref T) true := by
          have z := TupB.of (K := K) (f := fun xs => xs.all (lineOver sg)) hT14 (by rw [List.length_map]; omega) (fun y hy => by
            obtain ⟨z, hz', rfl⟩ := List.mem_map.mp hy
            have := (hz z hz').1
            exact .str z (by omega))
          have e : ((zs.map V.str).all (lineOver sg)) = true := by
            refine List.all_eq_true.mpr fun y hy => ?_
            obtain ⟨z, hz', rfl⟩ := List.mem_map.mp hy
            show (low z && over sg z) = true
            rw [(hz z hz').2, over_low slow (hz z hz').2]
            rfl
          rw [e] at z
          exact z
        have opok : ∀ x ∈ ofPage ws (zs.map V.str), PyData.strOk x = true := fun x hx => gf.oks x (List.mem_filter.mp hx).1
        refine ⟨.ref q, rfl, fo14.meth (by decide) (by decide) ⟨.ref T, rfl, q, sg, ws, .ref T, true, rfl, fo14, gf.few, tb, (fun z => nomatch z), fun _ t xs e1 e2 pR H15 s15 hR => ?_⟩⟩
        cases e1
        rw [hT14] at e2
        cases e2
        refine ⟨.ref D2, rfl, same_neD hR (s15 _ _ hD2) opok rfl ⟨_, rfl, iteF ?_⟩⟩
        have s1315 := s14.trans s15
        have b15 : But p H10 H15 := b13.trans (Same.but s1315)
        have pool15 : Pool H15 p := let ⟨g, m, h⟩ := pool13; ⟨g, m, s1315 _ _ h⟩
        have hL15 := s1315 _ _ hL13
        have hD215 := s15 _ _ hD2
        have hT15 := s15 _ _ hT14
        clear opok hR tb fo14 hT14 hD2 s14 s15 s1315 hL13 fo13 pool13 b13 hT s13
        refine next_at (seq_set ?_)
        refine ⟨.ref L, rfl, L, rfl, ⟨_, .inl (.inl hL15)⟩, fun D4 nD4 => ?_⟩
        obtain ⟨gC, mC, hpC⟩ := id pool15
        have D4p : D4 ≠ p := fun z => by
          rw [z, hpC] at nD4
          cases nD4
        refine lc_it (walk_list (K := K) (a := L) (xs := ws.map V.str)) (fun i H => But p H15 H ∧ Pool H p ∧ ∃ cs : List Str, cs.Sublist (ws.take i) ∧ H D4 = some (.lst (cs.map V.str)))
          ⟨But.of (same_upd nD4), ⟨gC, mC, same_upd nD4 _ _ hpC⟩, [], List.nil_sublist _, upd_same⟩ (fun _ H _ z => .inl (.inl (z.1 _ _ Lp hL15))) ?_ ?_
        · rintro i x H16 H17 hi ⟨b16, ⟨g, m, hp16⟩, cs, sb, hD⟩ ⟨rfl, hx⟩
          obtain ⟨pc, hpc, rfl⟩ : ∃ o, ws[i]? = some o ∧ x = .str o := by
            rw [List.getElem?_map] at hx
            cases z : ws[i]? with
            | none =>
              rw [z] at hx
              cases hx
            | some o =>
              rw [z] at hx
              exact ⟨o, rfl, (Option.some.inj hx).symm⟩
          have tk : ws.take (i + 1) = ws.take i ++ [pc] := by rw [List.take_add_one, hpc]; rfl
          refine ⟨rfl, .ref p, rfl, p, 2, g, m, rfl, hp16, by decide, by decide, fun r g5 m5 r0 r1 => ⟨rfl, _, rfl, ite2 (fun e => ⟨.str pc, rfl, cs.map V.str, ?_, ?_, ?_, ?_, cs ++ [pc], ?_, ?_⟩) (fun e => ⟨?_, ?_, cs, ?_, ?_⟩)⟩⟩
          · rw [upd_ne D4p]
            exact hD
          · have z1 : 1000 < sizeLine := by decide
            have z2 := sb.length_le
            rw [List.length_map]
            rw [List.length_take] at z2
            omega
          · intro c o w e
            rw [upd_ne (ne_of_none e nD4), upd_ne w]
            exact b16 c o w e
          · exact ⟨g5, m5, by rw [upd_ne D4p.symm]; exact upd_same⟩
          · rw [tk]
            exact sb.append (List.Sublist.refl _)
          · rw [upd_same, List.map_append]
            rfl
          · intro c o w e
            rw [upd_ne w]
            exact b16 c o w e
          · exact ⟨g5, m5, upd_same⟩
          · rw [tk]
            exact sb.trans (List.sublist_append_left _ _)
          · rw [upd_ne D4p]
            exact hD
        rintro H16 ⟨b16, pool16, cs, sb, hD4⟩
        rw [List.length_map, List.take_length] at sb
        have gc := gf.sub sb
        have efc := sub_filter sb gf.words.2.2
        have lcs : cs.length ≤ 8 := gc.words.1
        have b16' := b15.trans b16
        have fo16 := foA.but poolA b16'
        refine seq_if ?_
        refine ⟨.ref q, rfl, fo16.meth (by decide) (by decide) ⟨.ref p, rfl, .ref D4, rfl, p, D4, cs.map V.str, rfl, pool16, hD4, D4p, by rw [List.length_map]; omega, fun r H17 ys0 b17 pool17 nr hr pm => ?_⟩⟩
        obtain ⟨ys, rfl, pm2⟩ := perm_strs pm
        clear pm
        have pm := pm2
        clear pm2
        have gy := gc.perm pm
        have b17' := b16'.trans b17
        have fo17 := foA.but poolA b17'
        have lb : ListB K H17 (choiceB ws) (.ref r) true := by
          have z := ListB.of (K := K) (f := choiceB ws) hr (by rw [List.length_map]; have := gy.words.1; omega) (fun y hy => by
            obtain ⟨z, hz', rfl⟩ := List.mem_map.mp hy
            have := (gy.w3 z hz').1
            exact .str z (by omega))
          have e : choiceB ws (ys.map V.str) = true := by
            unfold choiceB
            rw [Bool.and_eq_true, nodup_strs]
            refine ⟨List.all_eq_true.mpr fun y hy => ?_, decide_eq_true gy.words.2.2⟩
            obtain ⟨z, hz', rfl⟩ := List.mem_map.mp hy
            exact isPiece_mem (sb.subset (pm.mem_iff.mp hz'))
          rw [e] at z
          exact z
        refine ⟨q, sg, ws, .ref r, true, rfl, fo17, gf, lb, (fun z => nomatch z), fun _ t zs0 e1 e2 r2 H18 s18 nr2 fo2 => ?_⟩
        cases e1
        rw [hr] at e2
        have e4 : ys.map V.str = zs0.map V.str := by injection (Option.some.inj e2)
        have e5 : ys = zs0 := List.map_inj_right (fun x y e => by injection e) |>.mp e4
        subst e5
        have efy : ws.filter (fun p => decide (p ∈ ys)) = cs := by
          rw [← efc]
          refine List.filter_congr fun x _ => decide_eq_decide.mpr ?_
          rw [pm.mem_iff]
        rw [efy] at fo2
        have hD418 := s18 _ _ (b17 _ _ D4p hD4)
        refine ⟨.str sg, rfl, .ref D4, rfl, fun x6 d6 n6 m6 e6 => fam_made gc hD418 n6 m6 e6 fun H19 s19 f19 => (fo2.same s19).eqFam gc f19 gc k.Cl_Family k.Is_Family fun H20 s20 => ⟨_, rfl, ?_⟩⟩
        rw [decide_eq_true rfl, decide_eq_true rfl]
        refine iteF ?_
        have s1820 := s19.trans s20
        have s1720 := s18.trans s1820
        have b1520 : But p H15 H20 := b16.trans (b17.trans (Same.but s1720))
        have b20 : But p H10 H20 := b15.trans b1520
        have pool20 : Pool H20 p := let ⟨g, m, h⟩ := pool17; ⟨g, m, s1720 _ _ h⟩
        have hL20 := b20 _ _ Lp hLA
        have fo20 := foA.but poolA b20
        have hD420 := s1820 _ _ hD418
        have Tp : T ≠ p := fun z => by
          rw [z, hpC] at hT15
          cases hT15
        have hT20 := b1520 _ _ Tp hT15
        clear s1820 s1720 hD418 fo2 efy lb fo17 fo16
        refine next_at (last_for_list ?_)
        refine ⟨.ref T, rfl, T, _, rfl, .inr (.inl (.inl hT20)), fun l nl => ⟨by show 4 ≤ sizeLine; decide, fun e ne => ?_⟩⟩
        have sl := same_upd (o := .lst (zs.map V.str)) nl
        have se := same_upd (o := .lst [.str "z", .str "A", .non, .int 5]) ne
        refine ⟨l, e, _, _, rfl, rfl, se _ _ upd_same, upd_same, ?_, fun c nc => ?_⟩
        · have z1 : 1000 < sizeLine := by decide
          rw [List.length_map]
          show zs.length + 4 ≤ sizeLine
          omega
        have sc := same_upd (o := .lst (zs.map V.str ++ [.str "z", .str "A", .non, .int 5])) nc
        have s20c := sl.trans (se.trans sc)
        refine ⟨c, rfl, ⟨_, .inl (.inl upd_same)⟩, ?_⟩
        obtain ⟨H21, e21⟩ : ∃ H21, H21 = upd (upd (upd H20 l (.lst (zs.map V.str))) e (.lst [.str "z", .str "A", .non, .int 5])) c (.lst (zs.map V.str ++ [.str "z", .str "A", .non, .int 5])) := ⟨_, rfl⟩
        have hc : H21 c = some (.lst (zs.map V.str ++ [.str "z", .str "A", .non, .int 5])) := by rw [e21]; exact upd_same
        rw [← e21] at s20c ⊢
        clear e21 sl se sc
        refine for_itW (walk_list (K := K) (a := c) (xs := zs.map V.str ++ [.str "z", .str "A", .non, .int 5])) (fun i σ H => ∃ y1 y8 y10 y12 y13 y14, σ = [some (.ref b), y1, some (.ref p), some (.str sg), some (.ref q), some (.ref L), some (.int (0 + (j : Int))), some (.ref T), y8, some (.ref D2), y10, some (.ref D4), y12, y13, y14] ∧ Same H21 H)
          ⟨_, _, _, _, _, _, rfl, fun _ _ e => e⟩ (fun i σ H _ z => ?_) ?_ ?_
        · obtain ⟨_, _, _, _, _, _, _, s⟩ := z
          exact .inl (.inl (s _ _ hc))
        · rintro i x σ H22 H23 hi ⟨y1, y8, y10, y12, y13, y14, rfl, s22⟩ ⟨rfl, hx⟩
          have s2022 := s20c.trans s22
          have fo22 := fo20.same s2022
          have hL22 := s2022 _ _ hL20
          have hD422 := s2022 _ _ hD420
          have lbc : ∀ H', Same H23 H' → ListB K H' (choiceB ws) (.ref D4) true := fun H' s' => by
            have z := ListB.of (K := K) (f := choiceB ws) (s' _ _ hD422) (by rw [List.length_map]; omega) (fun y hy => by
              obtain ⟨z, hz', rfl⟩ := List.mem_map.mp hy
              have := (gc.w3 z hz').1
              exact .str z (by omega))
            have e : choiceB ws (cs.map V.str) = true := by
              unfold choiceB
              rw [Bool.and_eq_true, nodup_strs]
              refine ⟨List.all_eq_true.mpr fun y hy => ?_, decide_eq_true gc.words.2.2⟩
              obtain ⟨z, hz', rfl⟩ := List.mem_map.mp hy
              exact isPiece_mem (sb.subset hz')
            rw [e] at z
            exact z
          have off : ∀ x : V, (x = .non ∨ x = .int 5) → Kind K H23 x ∧ isStr x = false ∧ allowedB sg ws cs x = false := fun x h => by
            rcases h with rfl | rfl
            · exact ⟨.non, rfl, rfl⟩
            · exact ⟨.int 5, rfl, rfl⟩
          have hxx : (∃ z, x = .str z ∧ z.length ≤ 6 ∧ PyData.strOk z = true ∧ (over sg z = true → low z = true)) ∨ x = .non ∨ x = .int 5 := by
            rcases List.mem_append.mp (List.mem_of_getElem? hx) with h | h
            · obtain ⟨z, hz', rfl⟩ := List.mem_map.mp h
              exact .inl ⟨z, rfl, (hz z hz').1, zok z hz', fun o => over_low slow o⟩
            · simp only [List.mem_cons, List.not_mem_nil, or_false] at h
              rcases h with rfl | rfl | rfl | rfl
              · exact .inl ⟨_, rfl, by decide, by decide +kernel, fun o => over_low slow o⟩
              · exact .inl ⟨_, rfl, by decide, by decide +kernel, fun o => over_low slow o⟩
              · exact .inr (.inl rfl)
              · exact .inr (.inr rfl)
          rcases hxx with ⟨z, rfl, lz6, okz, olow⟩ | hx5
          · refine seq_set ?_
            refine ⟨.str z, rfl, .str z, rfl, .str z (by omega), true, rfl, iteT ⟨.str z, rfl, z, rfl, fun D5 nD5 => ?_⟩⟩
            refine lc_pureS (by omega) nD5 (fun c => !decide (c ∈ sg.cps.toList)) (fun c => .str ⟨#[c]⟩) (fun c hc' H' s' KK R yes no => ⟨rfl, .str ⟨#[c]⟩, rfl, .str sg, rfl, c, sg, rfl, rfl, _, rfl, ite2 (fun e => ⟨.str ⟨#[c]⟩, rfl, yes e H' fun _ _ e => e⟩) (fun e => no (Bool.eq_false_iff.mpr e) H' fun _ _ e => e)⟩) fun H24 s24 hD5 => ?_
            have hD5' : H24 D5 = some (.lst (((z.cps.toList.filter fun c => !decide (c ∈ sg.cps.toList)).map sing).map V.str)) := by
              rw [hD5, List.map_map]
              rfl
            have ok5 : ∀ x ∈ (z.cps.toList.filter fun c => !decide (c ∈ sg.cps.toList)).map sing, PyData.strOk x = true := fun x hx => by
              obtain ⟨c, hc', rfl⟩ := List.mem_map.mp hx
              exact sing_okOf okz (List.mem_filter.mp hc').1
            refine ⟨by show 0 ≤ sizeLine; decide, fun e6 n6 => strs_eqD (ys := []) (same_upd n6 _ _ hD5') upd_same ok5 (fun x hx => nomatch hx) ?_⟩
            rw [over_filter]
            obtain ⟨H25, e25⟩ : ∃ H25, H25 = upd H24 e6 (.lst []) := ⟨_, rfl⟩
            have s25 : Same H23 H25 := by rw [e25]; exact s24.trans (same_upd n6)
            rw [← e25]
            clear e25 hD5 hD5' ok5
            refine seq_if ?_
            refine ⟨.bl (over sg z), rfl, _, rfl, ?_⟩
            cases ov : over sg z with
            | false =>
              have na : allowedB sg ws cs (.str z) = false := by
                show ((low z && over sg z) && _) = false
                rw [ov, Bool.and_false]
                rfl
              refine iteF (next_at ?_)
              exact t_allowed rfl rfl rfl rfl na (fo22.same s25) gf.few (lbc _ s25) (s25 _ _ hD422) (.str z (by omega)) fun H' s' => ⟨_, _, _, _, _, _, rfl, s22.trans (s25.trans s')⟩
            | true =>
              refine iteT (seq_set ?_)
              have hL25 := s25 _ _ hL22
              have hD425 := s25 _ _ hD422
              refine ⟨.ref L, rfl, L, rfl, ⟨_, .inl (.inl hL25)⟩, fun D6 nD6 => ?_⟩
              refine lc_pure (walk_list (K := K) (a := L) (xs := ws.map V.str)) (fun H' s' => .inl (.inl (s' _ _ hL25))) (by rw [List.length_map]; omega) nD6 (fun y => !decide (txV y ∈ cs)) (fun y => y) (fun y hy H' s' KK R yes no => ?_) fun H26 s26 hD6 => ?_
              · obtain ⟨pc, hpc, rfl⟩ := List.mem_map.mp hy
                refine ⟨rfl, .str pc, rfl, .ref D4, rfl, D4, cs.map V.str, rfl, .inl (.inl (.inl (s' _ _ hD425))), rfl, flat_strs cs, _, rfl, ?_⟩
                show if (!inV (.str pc) (cs.map V.str)) = true then _ else _
                rw [inV_strs]
                exact ite2 (fun e8 => ⟨.str pc, rfl, yes e8 H' fun _ _ e => e⟩) (fun e8 => no (Bool.eq_false_iff.mpr e8) H' fun _ _ e => e)
              have e9 : (ws.map V.str).filter (fun y => !decide (txV y ∈ cs)) = (ws.filter fun p => !decide (p ∈ cs)).map V.str := by
                rw [List.filter_map]
                rfl
              rw [List.map_id', e9] at hD6
              have s2326 := s25.trans s26
              refine ⟨.ref D6, rfl, D6, rfl, ⟨_, .inl (.inl hD6)⟩, fun D7 nD7 => ?_⟩
              have lrest : (ws.filter fun p => !decide (p ∈ cs)).length ≤ 8 := Nat.le_trans (List.length_filter_le _ _) w8
              refine lc_pure (walk_list (K := K) (a := D6) (xs := (ws.filter fun p => !decide (p ∈ cs)).map V.str)) (fun H' s' => .inl (.inl (s' _ _ hD6))) (by rw [List.length_map]; omega) nD7 (fun y => hasSub z (txV y)) (fun y => y) (fun y hy H' s' KK R yes no => ?_) fun H27 s27 hD7 => ?_
              · obtain ⟨pc, hpc, rfl⟩ := List.mem_map.mp hy
                have wpc := gf.words.2.1 pc (List.mem_filter.mp hpc).1
                exact ⟨rfl, .str pc, rfl, .str z, rfl, pc, z, rfl, wpc.1, by omega, by omega, fun H6 s6 => ⟨_, rfl, ite2 (fun e => ⟨.str pc, rfl, yes e H6 s6⟩) (fun e => no (Bool.eq_false_iff.mpr e) H6 s6)⟩⟩
              have e10 : ((ws.filter fun p => !decide (p ∈ cs)).map V.str).filter (fun y => hasSub z (txV y)) = ((ws.filter fun p => !decide (p ∈ cs)).filter fun p => hasSub z p).map V.str := by
                rw [List.filter_map]
                rfl
              rw [List.map_id', e10] at hD7
              refine ⟨by show 0 ≤ sizeLine; decide, fun e8 n8 => strs_eqD (ys := []) (same_upd n8 _ _ hD7) upd_same (fun x hx => gf.oks x (List.mem_filter.mp (List.mem_filter.mp hx).1).1) (fun x hx => nomatch hx) ?_⟩
              rw [rest_filter]
              have s28 := s2326.trans (s27.trans (same_upd (o := .lst []) n8))
              have na : allowedB sg ws cs (.str z) = ws.all fun p => !hasSub z p || decide (p ∈ cs) := by
                show ((low z && over sg z) && _) = _
                rw [ov, olow ov]
                rfl
              exact t_allowed rfl rfl rfl rfl na (fo22.same s28) gf.few (lbc _ s28) (s28 _ _ hD422) (.str z (by omega)) fun H' s' => ⟨_, _, _, _, _, _, rfl, s22.trans (s28.trans s')⟩
          · obtain ⟨kd, ns, na⟩ := off x hx5
            refine seq_set ?_
            refine ⟨x, rfl, x, rfl, kd, isStr x, rfl, ?_⟩
            rw [ns]
            refine iteF ?_
            refine seq_if ⟨.bl false, rfl, false, rfl, iteF (next_at ?_)⟩
            exact t_allowed rfl rfl rfl rfl na fo22 gf.few (lbc _ fun _ _ e => e) hD422 kd fun H' s' => ⟨_, _, _, _, _, _, rfl, s22.trans s'⟩
        · rintro σ H22 ⟨y1, y8, y10, y12, y13, y14, rfl, s22⟩
          have s2022 := s20c.trans s22
          exact ⟨_, _, _, _, _, _, _, _, _, _, rfl, b20.trans (Same.but s2022), let ⟨g, m, h⟩ := pool20; ⟨g, m, s2022 _ _ h⟩⟩
      · rintro σ H11 ⟨y1, y6, y7, y8, y9, y10, y11, y12, y13, y14, rfl, bB, poolB⟩
        have foB := foA.but poolA bB
        have hLB := bB _ _ Lp hLA
        have b1B : But p H1 H11 := bA.trans bB
        dsimp only
        refine seq_drop ?_
        refine ⟨.ref q, rfl, foB.prop ⟨q, sg, ws, rfl, foB, fun L2 nL2 => ⟨?_, L2, _, rfl, rfl, upd_same, ?_⟩⟩⟩
        · exact .inl ⟨rfl, _, .inl (.inl upd_same)⟩
        have sC : Same H11 (upd (upd H11 L2 (.lst (ws.map V.str))) L2 (.lst [])) := fun b o e => by
          rw [upd_ne (ne_of_none e nL2), upd_ne (ne_of_none e nL2)]
          exact e
        obtain ⟨HC, eC⟩ : ∃ HC, HC = upd (upd H11 L2 (.lst (ws.map V.str))) L2 (.lst []) := ⟨_, rfl⟩
        rw [← eC] at sC ⊢
        clear eC
        have foC := foB.same sC
        have hLC := sC _ _ hLB
        refine seq_if ?_
        refine ⟨.ref q, rfl, foC.prop ⟨q, sg, ws, rfl, foC, fun L3 nL3 => ⟨.ref L, rfl, same_neD upd_same (same_upd nL3 _ _ hLC) gf.oks rfl ⟨_, rfl, iteF ?_⟩⟩⟩⟩
        have s3 := same_upd (o := .lst (ws.map V.str)) nL3
        refine ⟨.ref q, rfl, .str sg, rfl, q, sg, ws, rfl, hs, foC.same s3, gf, dw, fun H13 s13 => ⟨_, rfl, iteF ?_⟩⟩
        have sD := sC.trans (s3.trans s13)
        have hLD := sD _ _ hLB
        have foD := foB.same sD
        have out : ∀ H', Same H13 H' → Same H H' := fun H' s' => s1.trans fun b o e => (s' _ _ (sD _ _ (b1B b o (fun z => by rw [z, n2] at e; cases e) e)))
        refine next_at (last_if ?_)
        refine ⟨.ref L, rfl, L, ws.map V.str, rfl, .inl (.inl (.inl hLD)), _, 1, rfl, rfl, _, rfl, ite2 (fun e => ?_) (fun e => ?_)⟩
        · have e1 : 1 < ws.length := by
            have z := of_decide_eq_true e
            rw [List.length_map] at z
            omega
          refine ⟨.ref q, rfl, .str sg, rfl, .ref L, rfl, L, _, rfl, .inl (.inl hLD), fun R nR => fun x6 d6 n6 m6 e6 => ?_⟩
          have hR : (upd H13 R (.lst (ws.map V.str).reverse)) R = some (.lst (ws.reverse.map V.str)) := by rw [upd_same, List.map_reverse]
          have gr := gf.perm (List.reverse_perm ws)
          refine fam_made gr hR n6 m6 e6 fun H14 s14 f14 => (foD.same ((same_upd nR).trans s14)).eqFam gf f14 gr k.Cl_Family k.Is_Family fun H15 s15 => ⟨_, rfl, ?_⟩
          rw [decide_eq_false (rev_ne gf.words.2.2 e1), Bool.and_false]
          exact iteF ⟨_, _, _, _, _, _, _, _, _, _, _, _, _, _, rfl, out _ ((same_upd nR).trans (s14.trans s15))⟩
        · exact iteF ⟨_, _, _, _, _, _, _, _, _, _, _, _, _, _, rfl, out _ fun _ _ e => e⟩
    · rintro σ H1 ⟨y1, y2, y3, y4, y5, y6, y7, y8, y9, y10, y11, y12, y13, y14, rfl, s1⟩
      exact fin H1
end
end K11

namespace K11
open PySem PySem.Spec PyProof.Rows PySem.ErrX L2
theorem all_mk {l : PySem.W.OpenLaw} {w : World} {K : PySem.W.Frag} {h : Heap} {mg : Str → Option Value} {fa p0 p1 p2 p3 p4 p5 p6 p7 p8 p9 p10 p11 p12 p13 p14 p15 p16 p17 p18 p19 p20 p21 p22 p23 p24 p25 p27 p28 p29 p30 p31 p32 p33 p34 p35 : Addr} (X : K.In h) (G : h.Ns mainGlobals mg) (hfa : mg "law" = some (.ref fa))
    {od0 an0 od1 an1 od2 an2 od3 an3 od4 an4 od5 an5 od6 an6 od7 an7 od8 an8 od9 an9 od10 an10 od11 an11 od12 an12 od13 an13 od14 an14 od15 an15 od16 an16 od17 an17 od18 an18 od19 an19 od20 an20 od21 an21 od22 an22 od23 an23 od24 an24 od25 an25 : Option Addr} {sl0 sl1 sl2 sl3 sl4 sl5 sl6 sl7 sl8 sl9 sl10 sl11 sl12 sl13 sl14 sl15 sl16 sl17 sl18 sl19 sl20 sl21 sl22 sl23 sl24 sl25 : Array (Option Value)} {oc0 kv0 dc0 pm0 cd0 ct0 oc1 kv1 dc1 pm1 cd1 ct1 oc2 kv2 dc2 pm2 cd2 ct2 oc3 kv3 dc3 pm3 cd3 ct3 oc4 kv4 dc4 pm4 cd4 ct4 oc5 kv5 dc5 pm5 cd5 ct5 oc6 kv6 dc6 pm6 cd6 ct6 oc7 kv7 dc7 pm7 cd7 ct7 oc8 kv8 dc8 pm8 cd8 ct8 oc9 kv9 dc9 pm9 cd9 ct9 oc10 kv10 dc10 pm10 cd10 ct10 oc11 kv11 dc11 pm11 cd11 ct11 oc12 kv12 dc12 pm12 cd12 ct12 oc13 kv13 dc13 pm13 cd13 ct13 oc14 kv14 dc14 pm14 cd14 ct14 oc15 kv15 dc15 pm15 cd15 ct15 oc16 kv16 dc16 pm16 cd16 ct16 oc17 kv17 dc17 pm17 cd17 ct17 oc18 kv18 dc18 pm18 cd18 ct18 oc19 kv19 dc19 pm19 cd19 ct19 oc20 kv20 dc20 pm20 cd20 ct20 oc21 kv21 dc21 pm21 cd21 ct21 oc22 kv22 dc22 pm22 cd22 ct22 oc23 kv23 dc23 pm23 cd23 ct23 oc24 kv24 dc24 pm24 cd24 ct24 oc25 kv25 dc25 pm25 cd25 ct25 : Value} {tk_LETTERS tk_MOST_SIGNS tk_MOST_IN_WORD tk_MOST_PIECES : Tok} {rest34 rest35 : List Value}
    (c_LETTERS : PySem.W.nsIn K mainGlobals "LETTERS" = some (some (.str "abcdefghijklmnopqrstuvwxyz" tk_LETTERS)))
    (c_MOST_SIGNS : PySem.W.nsIn K mainGlobals "MOST_SIGNS" = some (some (.int 6 tk_MOST_SIGNS)))
    (c_MOST_IN_WORD : PySem.W.nsIn K mainGlobals "MOST_IN_WORD" = some (some (.int 3 tk_MOST_IN_WORD)))
    (c_MOST_PIECES : PySem.W.nsIn K mainGlobals "MOST_PIECES" = some (some (.int 8 tk_MOST_PIECES)))
    (z_abs : PySem.W.nsIn K mainGlobals "abs" = some none)
    (z_all : PySem.W.nsIn K mainGlobals "all" = some none)
    (z_any : PySem.W.nsIn K mainGlobals "any" = some none)
    (z_int : PySem.W.nsIn K mainGlobals "int" = some none)
    (z_isinstance : PySem.W.nsIn K mainGlobals "isinstance" = some none)
    (z_len : PySem.W.nsIn K mainGlobals "len" = some none)
    (z_list : PySem.W.nsIn K mainGlobals "list" = some none)
    (z_max : PySem.W.nsIn K mainGlobals "max" = some none)
    (z_min : PySem.W.nsIn K mainGlobals "min" = some none)
    (z_range : PySem.W.nsIn K mainGlobals "range" = some none)
    (z_repr : PySem.W.nsIn K mainGlobals "repr" = some none)
    (z_set : PySem.W.nsIn K mainGlobals "set" = some none)
    (z_sorted : PySem.W.nsIn K mainGlobals "sorted" = some none)
    (z_str : PySem.W.nsIn K mainGlobals "str" = some none)
    (z_sum : PySem.W.nsIn K mainGlobals "sum" = some none)
    (z_tuple : PySem.W.nsIn K mainGlobals "tuple" = some none)
    (E_BadPage : ErrTxt K mg "BadPage" "value" p27 p28)
    (y_BadPage : PySem.W.typeIn K (.ref p27) = some (.type "type"))
    (E_BadPieces : ErrTxt K mg "BadPieces" "value" p29 p30)
    (y_BadPieces : PySem.W.typeIn K (.ref p29) = some (.type "type"))
    (E_BadSigns : ErrTxt K mg "BadSigns" "value" p31 p32)
    (y_BadSigns : PySem.W.typeIn K (.ref p31) = some (.type "type"))
    (s_BadPage_BadSigns : PySem.W.subIn K (.ref p27) (.ref p31) = some false)
    (s_BadPage_BadPieces : PySem.W.subIn K (.ref p27) (.ref p29) = some false)
    (s_BadPage_BadPage : PySem.W.subIn K (.ref p27) (.ref p27) = some true)
    (s_BadPieces_BadSigns : PySem.W.subIn K (.ref p29) (.ref p31) = some false)
    (s_BadPieces_BadPieces : PySem.W.subIn K (.ref p29) (.ref p29) = some true)
    (s_BadPieces_BadPage : PySem.W.subIn K (.ref p29) (.ref p27) = some false)
    (s_BadSigns_BadSigns : PySem.W.subIn K (.ref p31) (.ref p31) = some true)
    (s_BadSigns_BadPieces : PySem.W.subIn K (.ref p31) (.ref p29) = some false)
    (s_BadSigns_BadPage : PySem.W.subIn K (.ref p31) (.ref p27) = some false)
    (g_Family : PySem.W.nsIn K mainGlobals "Family" = some (some (.ref p33)))
    (Cl_Family : Cls K p33)
    (Mk_Family : Mk K p33 p18)
    (n_Family__signs : PySem.W.findIn K (.ref p33) "_signs" = some none)
    (n_Family__pieces : PySem.W.findIn K (.ref p33) "_pieces" = some none)
    (Is_Family : Iso K p33)
    (ty_Family : PySem.W.typeIn K (.ref p33) = some (.type "type"))
    (u_Family_NoneType : PySem.W.subIn K (.type "NoneType") (.ref p33) = some false)
    (u_Family_bool : PySem.W.subIn K (.type "bool") (.ref p33) = some false)
    (u_Family_int : PySem.W.subIn K (.type "int") (.ref p33) = some false)
    (u_Family_str : PySem.W.subIn K (.type "str") (.ref p33) = some false)
    (u_Family_list : PySem.W.subIn K (.type "list") (.ref p33) = some false)
    (u_Family_tuple : PySem.W.subIn K (.type "tuple") (.ref p33) = some false)
    (u_Family_dict : PySem.W.subIn K (.type "dict") (.ref p33) = some false)
    (a_is_piece : PySem.W.nsIn K mainGlobals "is_piece" = some (some (.ref p0)))
    (l_is_piece : K.lookup p0 = some ⟨oc0, od0, .func (PySem.W.fnOf "is_piece" "is_piece" (defArgs s_is_piece) (defBody s_is_piece) (defScope s_is_piece) .none kv0 dc0 pm0 an0 cd0 ct0), sl0⟩)
    (o_is_piece : PySem.W.codeIn K cd0 "is_piece" = true)
    (k_is_piece : PySem.W.keepIn K (.ref p0) = true)
    (a_is_choice : PySem.W.nsIn K mainGlobals "is_choice" = some (some (.ref p1)))
    (l_is_choice : K.lookup p1 = some ⟨oc1, od1, .func (PySem.W.fnOf "is_choice" "is_choice" (defArgs s_is_choice) (defBody s_is_choice) (defScope s_is_choice) .none kv1 dc1 pm1 an1 cd1 ct1), sl1⟩)
    (o_is_choice : PySem.W.codeIn K cd1 "is_choice" = true)
    (k_is_choice : PySem.W.keepIn K (.ref p1) = true)
    (a_is_line : PySem.W.nsIn K mainGlobals "is_line" = some (some (.ref p2)))
    (l_is_line : K.lookup p2 = some ⟨oc2, od2, .func (PySem.W.fnOf "is_line" "is_line" (defArgs s_is_line) (defBody s_is_line) (defScope s_is_line) .none kv2 dc2 pm2 an2 cd2 ct2), sl2⟩)
    (o_is_line : PySem.W.codeIn K cd2 "is_line" = true)
    (k_is_line : PySem.W.keepIn K (.ref p2) = true)
    (a_is_page : PySem.W.nsIn K mainGlobals "is_page" = some (some (.ref p3)))
    (l_is_page : K.lookup p3 = some ⟨oc3, od3, .func (PySem.W.fnOf "is_page" "is_page" (defArgs s_is_page) (defBody s_is_page) (defScope s_is_page) .none kv3 dc3 pm3 an3 cd3 ct3), sl3⟩)
    (o_is_page : PySem.W.codeIn K cd3 "is_page" = true)
    (k_is_page : PySem.W.keepIn K (.ref p3) = true)
    (a_is_signs : PySem.W.nsIn K mainGlobals "is_signs" = some (some (.ref p4)))
    (l_is_signs : K.lookup p4 = some ⟨oc4, od4, .func (PySem.W.fnOf "is_signs" "is_signs" (defArgs s_is_signs) (defBody s_is_signs) (defScope s_is_signs) .none kv4 dc4 pm4 an4 cd4 ct4), sl4⟩)
    (o_is_signs : PySem.W.codeIn K cd4 "is_signs" = true)
    (k_is_signs : PySem.W.keepIn K (.ref p4) = true)
    (a_is_word : PySem.W.nsIn K mainGlobals "is_word" = some (some (.ref p5)))
    (l_is_word : K.lookup p5 = some ⟨oc5, od5, .func (PySem.W.fnOf "is_word" "is_word" (defArgs s_is_word) (defBody s_is_word) (defScope s_is_word) .none kv5 dc5 pm5 an5 cd5 ct5), sl5⟩)
    (o_is_word : PySem.W.codeIn K cd5 "is_word" = true)
    (k_is_word : PySem.W.keepIn K (.ref p5) = true)
    (a_are_pieces : PySem.W.nsIn K mainGlobals "are_pieces" = some (some (.ref p6)))
    (l_are_pieces : K.lookup p6 = some ⟨oc6, od6, .func (PySem.W.fnOf "are_pieces" "are_pieces" (defArgs s_are_pieces) (defBody s_are_pieces) (defScope s_are_pieces) .none kv6 dc6 pm6 an6 cd6 ct6), sl6⟩)
    (o_are_pieces : PySem.W.codeIn K cd6 "are_pieces" = true)
    (k_are_pieces : PySem.W.keepIn K (.ref p6) = true)
    (a_is_over : PySem.W.nsIn K mainGlobals "is_over" = some (some (.ref p7)))
    (l_is_over : K.lookup p7 = some ⟨oc7, od7, .func (PySem.W.fnOf "is_over" "is_over" (defArgs s_is_over) (defBody s_is_over) (defScope s_is_over) .none kv7 dc7 pm7 an7 cd7 ct7), sl7⟩)
    (o_is_over : PySem.W.codeIn K cd7 "is_over" = true)
    (k_is_over : PySem.W.keepIn K (.ref p7) = true)
    (a__law_pool : PySem.W.nsIn K mainGlobals "_law_pool" = some (some (.ref p8)))
    (l__law_pool : K.lookup p8 = some ⟨oc8, od8, .func (PySem.W.fnOf "_law_pool" "_law_pool" (defArgs s__law_pool) (defBody s__law_pool) (defScope s__law_pool) .none kv8 dc8 pm8 an8 cd8 ct8), sl8⟩)
    (o__law_pool : PySem.W.codeIn K cd8 "_law_pool" = true)
    (k__law_pool : PySem.W.keepIn K (.ref p8) = true)
    (a__law_draw : PySem.W.nsIn K mainGlobals "_law_draw" = some (some (.ref p9)))
    (l__law_draw : K.lookup p9 = some ⟨oc9, od9, .func (PySem.W.fnOf "_law_draw" "_law_draw" (defArgs s__law_draw) (defBody s__law_draw) (defScope s__law_draw) .none kv9 dc9 pm9 an9 cd9 ct9), sl9⟩)
    (o__law_draw : PySem.W.codeIn K cd9 "_law_draw" = true)
    (k__law_draw : PySem.W.keepIn K (.ref p9) = true)
    (a__law_mixed : PySem.W.nsIn K mainGlobals "_law_mixed" = some (some (.ref p10)))
    (l__law_mixed : K.lookup p10 = some ⟨oc10, od10, .func (PySem.W.fnOf "_law_mixed" "_law_mixed" (defArgs s__law_mixed) (defBody s__law_mixed) (defScope s__law_mixed) .none kv10 dc10 pm10 an10 cd10 ct10), sl10⟩)
    (o__law_mixed : PySem.W.codeIn K cd10 "_law_mixed" = true)
    (k__law_mixed : PySem.W.keepIn K (.ref p10) = true)
    (a__law_line : PySem.W.nsIn K mainGlobals "_law_line" = some (some (.ref p11)))
    (l__law_line : K.lookup p11 = some ⟨oc11, od11, .func (PySem.W.fnOf "_law_line" "_law_line" (defArgs s__law_line) (defBody s__law_line) (defScope s__law_line) .none kv11 dc11 pm11 an11 cd11 ct11), sl11⟩)
    (o__law_line : PySem.W.codeIn K cd11 "_law_line" = true)
    (k__law_line : PySem.W.keepIn K (.ref p11) = true)
    (a__law_family : PySem.W.nsIn K mainGlobals "_law_family" = some (some (.ref p12)))
    (l__law_family : K.lookup p12 = some ⟨oc12, od12, .func (PySem.W.fnOf "_law_family" "_law_family" (defArgs s__law_family) (defBody s__law_family) (defScope s__law_family) .none kv12 dc12 pm12 an12 cd12 ct12), sl12⟩)
    (o__law_family : PySem.W.codeIn K cd12 "_law_family" = true)
    (k__law_family : PySem.W.keepIn K (.ref p12) = true)
    (a__law_called : PySem.W.nsIn K mainGlobals "_law_called" = some (some (.ref p13)))
    (l__law_called : K.lookup p13 = some ⟨oc13, od13, .func (PySem.W.fnOf "_law_called" "_law_called" (defArgs s__law_called) (defBody s__law_called) (defScope s__law_called) .none kv13 dc13 pm13 an13 cd13 ct13), sl13⟩)
    (o__law_called : PySem.W.codeIn K cd13 "_law_called" = true)
    (k__law_called : PySem.W.keepIn K (.ref p13) = true)
    (a__law_told : PySem.W.nsIn K mainGlobals "_law_told" = some (some (.ref p14)))
    (l__law_told : K.lookup p14 = some ⟨oc14, od14, .func (PySem.W.fnOf "_law_told" "_law_told" (defArgs s__law_told) (defBody s__law_told) (defScope s__law_told) .none kv14 dc14 pm14 an14 cd14 ct14), sl14⟩)
    (o__law_told : PySem.W.codeIn K cd14 "_law_told" = true)
    (k__law_told : PySem.W.keepIn K (.ref p14) = true)
    (a__law_is_in : PySem.W.nsIn K mainGlobals "_law_is_in" = some (some (.ref p15)))
    (l__law_is_in : K.lookup p15 = some ⟨oc15, od15, .func (PySem.W.fnOf "_law_is_in" "_law_is_in" (defArgs s__law_is_in) (defBody s__law_is_in) (defScope s__law_is_in) .none kv15 dc15 pm15 an15 cd15 ct15), sl15⟩)
    (o__law_is_in : PySem.W.codeIn K cd15 "_law_is_in" = true)
    (k__law_is_in : PySem.W.keepIn K (.ref p15) = true)
    (a__law_refused : PySem.W.nsIn K mainGlobals "_law_refused" = some (some (.ref p16)))
    (l__law_refused : K.lookup p16 = some ⟨oc16, od16, .func (PySem.W.fnOf "_law_refused" "_law_refused" (defArgs s__law_refused) (defBody s__law_refused) (defScope s__law_refused) .none kv16 dc16 pm16 an16 cd16 ct16), sl16⟩)
    (o__law_refused : PySem.W.codeIn K cd16 "_law_refused" = true)
    (k__law_refused : PySem.W.keepIn K (.ref p16) = true)
    (a_law : PySem.W.nsIn K mainGlobals "law" = some (some (.ref p17)))
    (l_law : K.lookup p17 = some ⟨oc17, od17, .func (PySem.W.fnOf "law" "law" (defArgs s_law) (defBody s_law) (defScope s_law) .none kv17 dc17 pm17 an17 cd17 ct17), sl17⟩)
    (o_law : PySem.W.codeIn K cd17 "law" = true)
    (k_law : PySem.W.keepIn K (.ref p17) = true)
    (l_Family___init__ : K.lookup p18 = some ⟨oc18, od18, .func (PySem.W.fnOf "__init__" "Family.__init__" (defArgs m_Family___init__) (defBody m_Family___init__) (defScope m_Family___init__) .none kv18 dc18 pm18 an18 cd18 ct18), sl18⟩)
    (o_Family___init__ : PySem.W.codeIn K cd18 "Family.__init__" = true)
    (k_Family___init__ : PySem.W.keepIn K (.ref p18) = true)
    (a_Family___eq__ : PySem.W.findIn K (.ref p33) "__eq__" = some (some (.ref p19)))
    (i_Family___eq__ : PySem.W.isFn K (.ref p19) = true)
    (l_Family___eq__ : K.lookup p19 = some ⟨oc19, od19, .func (PySem.W.fnOf "__eq__" "Family.__eq__" (defArgs m_Family___eq__) (defBody m_Family___eq__) (defScope m_Family___eq__) .none kv19 dc19 pm19 an19 cd19 ct19), sl19⟩)
    (o_Family___eq__ : PySem.W.codeIn K cd19 "Family.__eq__" = true)
    (k_Family___eq__ : PySem.W.keepIn K (.ref p19) = true)
    (pa_Family_signs : PySem.W.findIn K (.ref p33) "signs" = some (some (.ref p34)))
    (pg_Family_signs : PySem.W.specialIn K (.ref p34) "__get__" = some (some (.builtin "property.__get__")))
    (pt_Family_signs : PySem.W.takesIn K (.ref p34) = some true)
    (pr_Family_signs : PySem.W.recIn K p34 "property" = some (.ref p20 :: rest34))
    (l_Family_signs : K.lookup p20 = some ⟨oc20, od20, .func (PySem.W.fnOf "signs" "Family.signs" (defArgs m_Family_signs) (defBody m_Family_signs) (defScope m_Family_signs) .none kv20 dc20 pm20 an20 cd20 ct20), sl20⟩)
    (o_Family_signs : PySem.W.codeIn K cd20 "Family.signs" = true)
    (k_Family_signs : PySem.W.keepIn K (.ref p20) = true)
    (pa_Family_pieces : PySem.W.findIn K (.ref p33) "pieces" = some (some (.ref p35)))
    (pg_Family_pieces : PySem.W.specialIn K (.ref p35) "__get__" = some (some (.builtin "property.__get__")))
    (pt_Family_pieces : PySem.W.takesIn K (.ref p35) = some true)
    (pr_Family_pieces : PySem.W.recIn K p35 "property" = some (.ref p21 :: rest35))
    (l_Family_pieces : K.lookup p21 = some ⟨oc21, od21, .func (PySem.W.fnOf "pieces" "Family.pieces" (defArgs m_Family_pieces) (defBody m_Family_pieces) (defScope m_Family_pieces) .none kv21 dc21 pm21 an21 cd21 ct21), sl21⟩)
    (o_Family_pieces : PySem.W.codeIn K cd21 "Family.pieces" = true)
    (k_Family_pieces : PySem.W.keepIn K (.ref p21) = true)
    (a_Family_of : PySem.W.findIn K (.ref p33) "of" = some (some (.ref p22)))
    (i_Family_of : PySem.W.isFn K (.ref p22) = true)
    (l_Family_of : K.lookup p22 = some ⟨oc22, od22, .func (PySem.W.fnOf "of" "Family.of" (defArgs m_Family_of) (defBody m_Family_of) (defScope m_Family_of) .none kv22 dc22 pm22 an22 cd22 ct22), sl22⟩)
    (o_Family_of : PySem.W.codeIn K cd22 "Family.of" = true)
    (k_Family_of : PySem.W.keepIn K (.ref p22) = true)
    (a_Family_cut : PySem.W.findIn K (.ref p33) "cut" = some (some (.ref p23)))
    (i_Family_cut : PySem.W.isFn K (.ref p23) = true)
    (l_Family_cut : K.lookup p23 = some ⟨oc23, od23, .func (PySem.W.fnOf "cut" "Family.cut" (defArgs m_Family_cut) (defBody m_Family_cut) (defScope m_Family_cut) .none kv23 dc23 pm23 an23 cd23 ct23), sl23⟩)
    (o_Family_cut : PySem.W.codeIn K cd23 "Family.cut" = true)
    (k_Family_cut : PySem.W.keepIn K (.ref p23) = true)
    (a_Family_is_allowed : PySem.W.findIn K (.ref p33) "is_allowed" = some (some (.ref p24)))
    (i_Family_is_allowed : PySem.W.isFn K (.ref p24) = true)
    (l_Family_is_allowed : K.lookup p24 = some ⟨oc24, od24, .func (PySem.W.fnOf "is_allowed" "Family.is_allowed" (defArgs m_Family_is_allowed) (defBody m_Family_is_allowed) (defScope m_Family_is_allowed) .none kv24 dc24 pm24 an24 cd24 ct24), sl24⟩)
    (o_Family_is_allowed : PySem.W.codeIn K cd24 "Family.is_allowed" = true)
    (k_Family_is_allowed : PySem.W.keepIn K (.ref p24) = true)
    (a_Family__check_choice : PySem.W.findIn K (.ref p33) "_check_choice" = some (some (.ref p25)))
    (i_Family__check_choice : PySem.W.isFn K (.ref p25) = true)
    (l_Family__check_choice : K.lookup p25 = some ⟨oc25, od25, .func (PySem.W.fnOf "_check_choice" "Family._check_choice" (defArgs m_Family__check_choice) (defBody m_Family__check_choice) (defScope m_Family__check_choice) .none kv25 dc25 pm25 an25 cd25 ct25), sl25⟩)
    (o_Family__check_choice : PySem.W.codeIn K cd25 "Family._check_choice" = true)
    (k_Family__check_choice : PySem.W.keepIn K (.ref p25) = true)
    : ∃ fd : FuncData, (∀ (s : Shared) (v : Value), BindsTo s fd ⟨[v], []⟩ [("_law_script", v)]) ∧ ∀ base : Heap, K.In base → base.Ns mainGlobals mg → FnG l.prog w K mg base CX0 12 fa fd ["_law_script"] (spLaw K) := by
  have e := hfa.symm.trans (PySem.W.mg_of X G a_law)
  cases e
  have kit : Kit K mg (fun i => match i with | 0 => p0 | 1 => p1 | 2 => p2 | 3 => p3 | 4 => p4 | 5 => p5 | 6 => p6 | 7 => p7 | 8 => p8 | 9 => p9 | 10 => p10 | 11 => p11 | 12 => p12 | 13 => p13 | 14 => p14 | 15 => p15 | 16 => p16 | 17 => fa | 18 => p18 | 19 => p19 | 20 => p20 | 21 => p21 | 22 => p22 | 23 => p23 | 24 => p24 | 25 => p25 | 26 => fa | 27 => p27 | 28 => p28 | 29 => p29 | 30 => p30 | 31 => p31 | 32 => p32 | 33 => p33 | 34 => p34 | 35 => p35 | _ => fa) (fun i => match i with
      | 0 => PySem.W.fnOf "is_piece" "is_piece" (defArgs s_is_piece) (defBody s_is_piece) (defScope s_is_piece) .none kv0 dc0 pm0 an0 cd0 ct0
      | 1 => PySem.W.fnOf "is_choice" "is_choice" (defArgs s_is_choice) (defBody s_is_choice) (defScope s_is_choice) .none kv1 dc1 pm1 an1 cd1 ct1
      | 2 => PySem.W.fnOf "is_line" "is_line" (defArgs s_is_line) (defBody s_is_line) (defScope s_is_line) .none kv2 dc2 pm2 an2 cd2 ct2
      | 3 => PySem.W.fnOf "is_page" "is_page" (defArgs s_is_page) (defBody s_is_page) (defScope s_is_page) .none kv3 dc3 pm3 an3 cd3 ct3
      | 4 => PySem.W.fnOf "is_signs" "is_signs" (defArgs s_is_signs) (defBody s_is_signs) (defScope s_is_signs) .none kv4 dc4 pm4 an4 cd4 ct4
      | 5 => PySem.W.fnOf "is_word" "is_word" (defArgs s_is_word) (defBody s_is_word) (defScope s_is_word) .none kv5 dc5 pm5 an5 cd5 ct5
      | 6 => PySem.W.fnOf "are_pieces" "are_pieces" (defArgs s_are_pieces) (defBody s_are_pieces) (defScope s_are_pieces) .none kv6 dc6 pm6 an6 cd6 ct6
      | 7 => PySem.W.fnOf "is_over" "is_over" (defArgs s_is_over) (defBody s_is_over) (defScope s_is_over) .none kv7 dc7 pm7 an7 cd7 ct7
      | 8 => PySem.W.fnOf "_law_pool" "_law_pool" (defArgs s__law_pool) (defBody s__law_pool) (defScope s__law_pool) .none kv8 dc8 pm8 an8 cd8 ct8
      | 9 => PySem.W.fnOf "_law_draw" "_law_draw" (defArgs s__law_draw) (defBody s__law_draw) (defScope s__law_draw) .none kv9 dc9 pm9 an9 cd9 ct9
      | 10 => PySem.W.fnOf "_law_mixed" "_law_mixed" (defArgs s__law_mixed) (defBody s__law_mixed) (defScope s__law_mixed) .none kv10 dc10 pm10 an10 cd10 ct10
      | 11 => PySem.W.fnOf "_law_line" "_law_line" (defArgs s__law_line) (defBody s__law_line) (defScope s__law_line) .none kv11 dc11 pm11 an11 cd11 ct11
      | 12 => PySem.W.fnOf "_law_family" "_law_family" (defArgs s__law_family) (defBody s__law_family) (defScope s__law_family) .none kv12 dc12 pm12 an12 cd12 ct12
      | 13 => PySem.W.fnOf "_law_called" "_law_called" (defArgs s__law_called) (defBody s__law_called) (defScope s__law_called) .none kv13 dc13 pm13 an13 cd13 ct13
      | 14 => PySem.W.fnOf "_law_told" "_law_told" (defArgs s__law_told) (defBody s__law_told) (defScope s__law_told) .none kv14 dc14 pm14 an14 cd14 ct14
      | 15 => PySem.W.fnOf "_law_is_in" "_law_is_in" (defArgs s__law_is_in) (defBody s__law_is_in) (defScope s__law_is_in) .none kv15 dc15 pm15 an15 cd15 ct15
      | 16 => PySem.W.fnOf "_law_refused" "_law_refused" (defArgs s__law_refused) (defBody s__law_refused) (defScope s__law_refused) .none kv16 dc16 pm16 an16 cd16 ct16
      | 17 => PySem.W.fnOf "law" "law" (defArgs s_law) (defBody s_law) (defScope s_law) .none kv17 dc17 pm17 an17 cd17 ct17
      | 18 => PySem.W.fnOf "__init__" "Family.__init__" (defArgs m_Family___init__) (defBody m_Family___init__) (defScope m_Family___init__) .none kv18 dc18 pm18 an18 cd18 ct18
      | 19 => PySem.W.fnOf "__eq__" "Family.__eq__" (defArgs m_Family___eq__) (defBody m_Family___eq__) (defScope m_Family___eq__) .none kv19 dc19 pm19 an19 cd19 ct19
      | 20 => PySem.W.fnOf "signs" "Family.signs" (defArgs m_Family_signs) (defBody m_Family_signs) (defScope m_Family_signs) .none kv20 dc20 pm20 an20 cd20 ct20
      | 21 => PySem.W.fnOf "pieces" "Family.pieces" (defArgs m_Family_pieces) (defBody m_Family_pieces) (defScope m_Family_pieces) .none kv21 dc21 pm21 an21 cd21 ct21
      | 22 => PySem.W.fnOf "of" "Family.of" (defArgs m_Family_of) (defBody m_Family_of) (defScope m_Family_of) .none kv22 dc22 pm22 an22 cd22 ct22
      | 23 => PySem.W.fnOf "cut" "Family.cut" (defArgs m_Family_cut) (defBody m_Family_cut) (defScope m_Family_cut) .none kv23 dc23 pm23 an23 cd23 ct23
      | 24 => PySem.W.fnOf "is_allowed" "Family.is_allowed" (defArgs m_Family_is_allowed) (defBody m_Family_is_allowed) (defScope m_Family_is_allowed) .none kv24 dc24 pm24 an24 cd24 ct24
      | 25 => PySem.W.fnOf "_check_choice" "Family._check_choice" (defArgs m_Family__check_choice) (defBody m_Family__check_choice) (defScope m_Family__check_choice) .none kv25 dc25 pm25 an25 cd25 ct25
      | _ => PySem.W.fnOf "is_piece" "is_piece" (defArgs s_is_piece) (defBody s_is_piece) (defScope s_is_piece) .none kv0 dc0 pm0 an0 cd0 ct0) := by
    constructor
    · exact ⟨_, PySem.W.mg_of X G c_LETTERS⟩
    · exact ⟨_, PySem.W.mg_of X G c_MOST_SIGNS⟩
    · exact ⟨_, PySem.W.mg_of X G c_MOST_IN_WORD⟩
    · exact ⟨_, PySem.W.mg_of X G c_MOST_PIECES⟩
    · exact PySem.W.mg_none_of X G z_abs
    · exact PySem.W.mg_none_of X G z_all
    · exact PySem.W.mg_none_of X G z_any
    · exact PySem.W.mg_none_of X G z_int
    · exact PySem.W.mg_none_of X G z_isinstance
    · exact PySem.W.mg_none_of X G z_len
    · exact PySem.W.mg_none_of X G z_list
    · exact PySem.W.mg_none_of X G z_max
    · exact PySem.W.mg_none_of X G z_min
    · exact PySem.W.mg_none_of X G z_range
    · exact PySem.W.mg_none_of X G z_repr
    · exact PySem.W.mg_none_of X G z_set
    · exact PySem.W.mg_none_of X G z_sorted
    · exact PySem.W.mg_none_of X G z_str
    · exact PySem.W.mg_none_of X G z_sum
    · exact PySem.W.mg_none_of X G z_tuple
    · exact E_BadPage
    · exact y_BadPage
    · exact E_BadPieces
    · exact y_BadPieces
    · exact E_BadSigns
    · exact y_BadSigns
    · exact PySem.W.exm_ref E_BadSigns.exC E_BadSigns.hdC y_BadSigns s_BadPage_BadSigns
    · exact PySem.W.exm_ref E_BadPieces.exC E_BadPieces.hdC y_BadPieces s_BadPage_BadPieces
    · exact PySem.W.exm_ref E_BadPage.exC E_BadPage.hdC y_BadPage s_BadPage_BadPage
    · exact PySem.W.exm_ref E_BadSigns.exC E_BadSigns.hdC y_BadSigns s_BadPieces_BadSigns
    · exact PySem.W.exm_ref E_BadPieces.exC E_BadPieces.hdC y_BadPieces s_BadPieces_BadPieces
    · exact PySem.W.exm_ref E_BadPage.exC E_BadPage.hdC y_BadPage s_BadPieces_BadPage
    · exact PySem.W.exm_ref E_BadSigns.exC E_BadSigns.hdC y_BadSigns s_BadSigns_BadSigns
    · exact PySem.W.exm_ref E_BadPieces.exC E_BadPieces.hdC y_BadPieces s_BadSigns_BadPieces
    · exact PySem.W.exm_ref E_BadPage.exC E_BadPage.hdC y_BadPage s_BadSigns_BadPage
    · exact PySem.W.mg_of X G g_Family
    · exact Cl_Family
    · exact Mk_Family
    · exact n_Family__signs
    · exact n_Family__pieces
    · exact Is_Family
    · exact kit_ownT Cl_Family.hd ty_Family u_Family_NoneType
    · exact kit_ownT Cl_Family.hd ty_Family u_Family_bool
    · exact kit_ownT Cl_Family.hd ty_Family u_Family_int
    · exact kit_ownT Cl_Family.hd ty_Family u_Family_str
    · exact kit_ownT Cl_Family.hd ty_Family u_Family_list
    · exact kit_ownT Cl_Family.hd ty_Family u_Family_tuple
    · exact kit_ownT Cl_Family.hd ty_Family u_Family_dict
    · exact ⟨(fun_mk (st := s_is_piece) l_is_piece o_is_piece k_is_piece), PySem.W.mg_of X G a_is_piece, ((fun_mk (st := s_is_piece) l_is_piece o_is_piece k_is_piece).binds (ps := ["value", "pieces"]) fun _ _ _ _ _ _ us hl => match us, hl with | [_, _], _ => rfl)⟩
    · exact ⟨(fun_mk (st := s_is_choice) l_is_choice o_is_choice k_is_choice), PySem.W.mg_of X G a_is_choice, ((fun_mk (st := s_is_choice) l_is_choice o_is_choice k_is_choice).binds (ps := ["value", "pieces"]) fun _ _ _ _ _ _ us hl => match us, hl with | [_, _], _ => rfl)⟩
    · exact ⟨(fun_mk (st := s_is_line) l_is_line o_is_line k_is_line), PySem.W.mg_of X G a_is_line, ((fun_mk (st := s_is_line) l_is_line o_is_line k_is_line).binds (ps := ["value"]) fun _ _ _ _ _ _ us hl => match us, hl with | [_], _ => rfl)⟩
    · exact ⟨(fun_mk (st := s_is_page) l_is_page o_is_page k_is_page), PySem.W.mg_of X G a_is_page, ((fun_mk (st := s_is_page) l_is_page o_is_page k_is_page).binds (ps := ["value"]) fun _ _ _ _ _ _ us hl => match us, hl with | [_], _ => rfl)⟩
    · exact ⟨(fun_mk (st := s_is_signs) l_is_signs o_is_signs k_is_signs), PySem.W.mg_of X G a_is_signs, ((fun_mk (st := s_is_signs) l_is_signs o_is_signs k_is_signs).binds (ps := ["value"]) fun _ _ _ _ _ _ us hl => match us, hl with | [_], _ => rfl)⟩
    · exact ⟨(fun_mk (st := s_is_word) l_is_word o_is_word k_is_word), PySem.W.mg_of X G a_is_word, ((fun_mk (st := s_is_word) l_is_word o_is_word k_is_word).binds (ps := ["value"]) fun _ _ _ _ _ _ us hl => match us, hl with | [_], _ => rfl)⟩
    · exact ⟨(fun_mk (st := s_are_pieces) l_are_pieces o_are_pieces k_are_pieces), PySem.W.mg_of X G a_are_pieces, ((fun_mk (st := s_are_pieces) l_are_pieces o_are_pieces k_are_pieces).binds (ps := ["value", "signs"]) fun _ _ _ _ _ _ us hl => match us, hl with | [_, _], _ => rfl)⟩
    · exact ⟨(fun_mk (st := s_is_over) l_is_over o_is_over k_is_over), PySem.W.mg_of X G a_is_over, ((fun_mk (st := s_is_over) l_is_over o_is_over k_is_over).binds (ps := ["line", "signs"]) fun _ _ _ _ _ _ us hl => match us, hl with | [_, _], _ => rfl)⟩
    · exact ⟨(fun_mk (st := s__law_pool) l__law_pool o__law_pool k__law_pool), PySem.W.mg_of X G a__law_pool, ((fun_mk (st := s__law_pool) l__law_pool o__law_pool k__law_pool).binds (ps := ["_law_script", "_law_k"]) fun _ _ _ _ _ _ us hl => match us, hl with | [_, _], _ => rfl)⟩
    · exact ⟨(fun_mk (st := s__law_draw) l__law_draw o__law_draw k__law_draw), PySem.W.mg_of X G a__law_draw, ((fun_mk (st := s__law_draw) l__law_draw o__law_draw k__law_draw).binds (ps := ["_law_pool_here", "_law_many"]) fun _ _ _ _ _ _ us hl => match us, hl with | [_, _], _ => rfl)⟩
    · exact ⟨(fun_mk (st := s__law_mixed) l__law_mixed o__law_mixed k__law_mixed), PySem.W.mg_of X G a__law_mixed, ((fun_mk (st := s__law_mixed) l__law_mixed o__law_mixed k__law_mixed).binds (ps := ["_law_pool_here", "_law_things"]) fun _ _ _ _ _ _ us hl => match us, hl with | [_, _], _ => rfl)⟩
    · exact ⟨(fun_mk (st := s__law_line) l__law_line o__law_line k__law_line), PySem.W.mg_of X G a__law_line, ((fun_mk (st := s__law_line) l__law_line o__law_line k__law_line).binds (ps := ["_law_pool_here", "_law_signs", "_law_most"]) fun _ _ _ _ _ _ us hl => match us, hl with | [_, _, _], _ => rfl)⟩
    · exact ⟨(fun_mk (st := s__law_family) l__law_family o__law_family k__law_family), PySem.W.mg_of X G a__law_family, ((fun_mk (st := s__law_family) l__law_family o__law_family k__law_family).binds (ps := ["_law_pool_here", "_law_signs", "_law_most"]) fun _ _ _ _ _ _ us hl => match us, hl with | [_, _, _], _ => rfl)⟩
    · exact ⟨(fun_mk (st := s__law_called) l__law_called o__law_called k__law_called), PySem.W.mg_of X G a__law_called, ((fun_mk (st := s__law_called) l__law_called o__law_called k__law_called).binds (ps := ["_law_door", "_law_one", "_law_two"]) fun _ _ _ _ _ _ us hl => match us, hl with | [_, _, _], _ => rfl)⟩
    · exact ⟨(fun_mk (st := s__law_told) l__law_told o__law_told k__law_told), PySem.W.mg_of X G a__law_told, ((fun_mk (st := s__law_told) l__law_told o__law_told k__law_told).binds (ps := ["_law_door", "_law_one", "_law_two"]) fun _ _ _ _ _ _ us hl => match us, hl with | [_, _, _], _ => rfl)⟩
    · exact ⟨(fun_mk (st := s__law_is_in) l__law_is_in o__law_is_in k__law_is_in), PySem.W.mg_of X G a__law_is_in, ((fun_mk (st := s__law_is_in) l__law_is_in o__law_is_in k__law_is_in).binds (ps := ["_law_piece", "_law_line_here"]) fun _ _ _ _ _ _ us hl => match us, hl with | [_, _], _ => rfl)⟩
    · exact ⟨(fun_mk (st := s__law_refused) l__law_refused o__law_refused k__law_refused), PySem.W.mg_of X G a__law_refused, ((fun_mk (st := s__law_refused) l__law_refused o__law_refused k__law_refused).binds (ps := ["_law_family_here", "_law_signs"]) fun _ _ _ _ _ _ us hl => match us, hl with | [_, _], _ => rfl)⟩
    · exact ⟨(fun_mk (st := s_law) l_law o_law k_law), PySem.W.mg_of X G a_law, ((fun_mk (st := s_law) l_law o_law k_law).binds (ps := ["_law_script"]) fun _ _ _ _ _ _ us hl => match us, hl with | [_], _ => rfl)⟩
    · exact (fun_mk (st := m_Family___init__) l_Family___init__ o_Family___init__ k_Family___init__)
    · exact ((fun_mk (st := m_Family___init__) l_Family___init__ o_Family___init__ k_Family___init__).binds (ps := ["self", "signs", "pieces"]) fun _ _ _ _ _ _ us hl => match us, hl with | [_, _, _], _ => rfl)
    · exact (fun_mk (st := m_Family___eq__) l_Family___eq__ o_Family___eq__ k_Family___eq__)
    · exact ((fun_mk (st := m_Family___eq__) l_Family___eq__ o_Family___eq__ k_Family___eq__).binds (ps := ["self", "other"]) fun _ _ _ _ _ _ us hl => match us, hl with | [_, _], _ => rfl)
    · exact a_Family___eq__
    · exact i_Family___eq__
    · exact (fun_mk (st := m_Family_signs) l_Family_signs o_Family_signs k_Family_signs)
    · exact ((fun_mk (st := m_Family_signs) l_Family_signs o_Family_signs k_Family_signs).binds (ps := ["self"]) fun _ _ _ _ _ _ us hl => match us, hl with | [_], _ => rfl)
    · exact ⟨pa_Family_signs, pg_Family_signs, pt_Family_signs, ⟨_, pr_Family_signs⟩⟩
    · exact (fun_mk (st := m_Family_pieces) l_Family_pieces o_Family_pieces k_Family_pieces)
    · exact ((fun_mk (st := m_Family_pieces) l_Family_pieces o_Family_pieces k_Family_pieces).binds (ps := ["self"]) fun _ _ _ _ _ _ us hl => match us, hl with | [_], _ => rfl)
    · exact ⟨pa_Family_pieces, pg_Family_pieces, pt_Family_pieces, ⟨_, pr_Family_pieces⟩⟩
    · exact (fun_mk (st := m_Family_of) l_Family_of o_Family_of k_Family_of)
    · exact ((fun_mk (st := m_Family_of) l_Family_of o_Family_of k_Family_of).binds (ps := ["self", "page"]) fun _ _ _ _ _ _ us hl => match us, hl with | [_, _], _ => rfl)
    · exact ⟨a_Family_of, i_Family_of, k_Family_of⟩
    · exact (fun_mk (st := m_Family_cut) l_Family_cut o_Family_cut k_Family_cut)
    · exact ((fun_mk (st := m_Family_cut) l_Family_cut o_Family_cut k_Family_cut).binds (ps := ["self", "choice"]) fun _ _ _ _ _ _ us hl => match us, hl with | [_, _], _ => rfl)
    · exact ⟨a_Family_cut, i_Family_cut, k_Family_cut⟩
    · exact (fun_mk (st := m_Family_is_allowed) l_Family_is_allowed o_Family_is_allowed k_Family_is_allowed)
    · exact ((fun_mk (st := m_Family_is_allowed) l_Family_is_allowed o_Family_is_allowed k_Family_is_allowed).binds (ps := ["self", "found", "line"]) fun _ _ _ _ _ _ us hl => match us, hl with | [_, _, _], _ => rfl)
    · exact ⟨a_Family_is_allowed, i_Family_is_allowed, k_Family_is_allowed⟩
    · exact (fun_mk (st := m_Family__check_choice) l_Family__check_choice o_Family__check_choice k_Family__check_choice)
    · exact ((fun_mk (st := m_Family__check_choice) l_Family__check_choice o_Family__check_choice k_Family__check_choice).binds (ps := ["self", "value"]) fun _ _ _ _ _ _ us hl => match us, hl with | [_, _], _ => rfl)
    · exact ⟨a_Family__check_choice, i_Family__check_choice, k_Family__check_choice⟩
  exact ⟨PySem.W.fnOf "law" "law" (defArgs s_law) (defBody s_law) (defScope s_law) .none kv17 dc17 pm17 an17 cd17 ct17, fun s v => .of_eq rfl, fun base _ _ => ok_law (P := l.prog) (w := w) (base := base) kit⟩
end K11

open PySem PySem.W PyProof.Rows
set_option maxHeartbeats 0 in
theorem PySem.Challenge.cw_surelyhas_k11_families_and_pieces_holds : PySem.Challenge.rw_surelyhas_k11_families_and_pieces.Holds := by
  w_on; o_law; k_head; (case hw => w_witness2)
  k_fill
  refine L2.walk_ofG (l := PySem.Challenge.rw_surelyhas_k11_families_and_pieces) (n := 63) (k := 12) (x := "_law_script") (sp := fun w => K11.spLaw _) rfl (by decide) rfl ⟨rfl, by decide, by decide⟩ (fun w h Y => PySem.W.kIn_of Y) ?F (fun _ _ a ns hl _ hS => ⟨a, ns, rfl, hS, hl, fun _ => rfl⟩)
  case F =>
    intro w mg fa h KX G hmg
    refine' K11.all_mk KX G hmg ?c_LETTERS ?c_MOST_SIGNS ?c_MOST_IN_WORD ?c_MOST_PIECES ?z_abs ?z_all ?z_any ?z_int ?z_isinstance ?z_len ?z_list ?z_max ?z_min ?z_range ?z_repr ?z_set ?z_sorted ?z_str ?z_sum ?z_tuple ?E_BadPage ?y_BadPage ?E_BadPieces ?y_BadPieces ?E_BadSigns ?y_BadSigns ?s_BadPage_BadSigns ?s_BadPage_BadPieces ?s_BadPage_BadPage ?s_BadPieces_BadSigns ?s_BadPieces_BadPieces ?s_BadPieces_BadPage ?s_BadSigns_BadSigns ?s_BadSigns_BadPieces ?s_BadSigns_BadPage ?g_Family ?Cl_Family ?Mk_Family ?n_Family__signs ?n_Family__pieces ?Is_Family ?ty_Family ?u_Family_NoneType ?u_Family_bool ?u_Family_int ?u_Family_str ?u_Family_list ?u_Family_tuple ?u_Family_dict ?a_is_piece ?l_is_piece ?o_is_piece ?k_is_piece ?a_is_choice ?l_is_choice ?o_is_choice ?k_is_choice ?a_is_line ?l_is_line ?o_is_line ?k_is_line ?a_is_page ?l_is_page ?o_is_page ?k_is_page ?a_is_signs ?l_is_signs ?o_is_signs ?k_is_signs ?a_is_word ?l_is_word ?o_is_word ?k_is_word ?a_are_pieces ?l_are_pieces ?o_are_pieces ?k_are_pieces ?a_is_over ?l_is_over ?o_is_over ?k_is_over ?a__law_pool ?l__law_pool ?o__law_pool ?k__law_pool ?a__law_draw ?l__law_draw ?o__law_draw ?k__law_draw ?a__law_mixed ?l__law_mixed ?o__law_mixed ?k__law_mixed ?a__law_line ?l__law_line ?o__law_line ?k__law_line ?a__law_family ?l__law_family ?o__law_family ?k__law_family ?a__law_called ?l__law_called ?o__law_called ?k__law_called ?a__law_told ?l__law_told ?o__law_told ?k__law_told ?a__law_is_in ?l__law_is_in ?o__law_is_in ?k__law_is_in ?a__law_refused ?l__law_refused ?o__law_refused ?k__law_refused ?a_law ?l_law ?o_law ?k_law ?l_Family___init__ ?o_Family___init__ ?k_Family___init__ ?a_Family___eq__ ?i_Family___eq__ ?l_Family___eq__ ?o_Family___eq__ ?k_Family___eq__ ?pa_Family_signs ?pg_Family_signs ?pt_Family_signs ?pr_Family_signs ?l_Family_signs ?o_Family_signs ?k_Family_signs ?pa_Family_pieces ?pg_Family_pieces ?pt_Family_pieces ?pr_Family_pieces ?l_Family_pieces ?o_Family_pieces ?k_Family_pieces ?a_Family_of ?i_Family_of ?l_Family_of ?o_Family_of ?k_Family_of ?a_Family_cut ?i_Family_cut ?l_Family_cut ?o_Family_cut ?k_Family_cut ?a_Family_is_allowed ?i_Family_is_allowed ?l_Family_is_allowed ?o_Family_is_allowed ?k_Family_is_allowed ?a_Family__check_choice ?i_Family__check_choice ?l_Family__check_choice ?o_Family__check_choice ?k_Family__check_choice
    (case c_LETTERS => k_is)
    (case c_MOST_SIGNS => k_is)
    (case c_MOST_IN_WORD => k_is)
    (case c_MOST_PIECES => k_is)
    (case z_abs => k_is)
    (case z_all => k_is)
    (case z_any => k_is)
    (case z_int => k_is)
    (case z_isinstance => k_is)
    (case z_len => k_is)
    (case z_list => k_is)
    (case z_max => k_is)
    (case z_min => k_is)
    (case z_range => k_is)
    (case z_repr => k_is)
    (case z_set => k_is)
    (case z_sorted => k_is)
    (case z_str => k_is)
    (case z_sum => k_is)
    (case z_tuple => k_is)
    (case E_BadPage => refine' L2.mk_err KX G (.inl rfl) ?aC ?ini ?over ?sa ?ga ?gg ?noN ?noT ?iC ?tC ?kC ?exC ?hdC ?clC ?obC ?spC ?taC ?lf ?cf; (case aC => k_is); (case ini => kx_is); (case over => kx_is); (case sa => k_is); (case ga => k_is); (case gg => k_is); (case noN => k_is); (case noT => k_is); (case iC => k_is); (case tC => k_is); (case kC => k_is); (case exC => k_is); (case hdC => k_is); (case clC => k_is); (case obC => k_is); (case spC => k_is); (case taC => k_is); (case lf => k_is); (case cf => k_is))
    (case y_BadPage => k_is)
    (case E_BadPieces => refine' L2.mk_err KX G (.inl rfl) ?aC ?ini ?over ?sa ?ga ?gg ?noN ?noT ?iC ?tC ?kC ?exC ?hdC ?clC ?obC ?spC ?taC ?lf ?cf; (case aC => k_is); (case ini => kx_is); (case over => kx_is); (case sa => k_is); (case ga => k_is); (case gg => k_is); (case noN => k_is); (case noT => k_is); (case iC => k_is); (case tC => k_is); (case kC => k_is); (case exC => k_is); (case hdC => k_is); (case clC => k_is); (case obC => k_is); (case spC => k_is); (case taC => k_is); (case lf => k_is); (case cf => k_is))
    (case y_BadPieces => k_is)
    (case E_BadSigns => refine' L2.mk_err KX G (.inl rfl) ?aC ?ini ?over ?sa ?ga ?gg ?noN ?noT ?iC ?tC ?kC ?exC ?hdC ?clC ?obC ?spC ?taC ?lf ?cf; (case aC => k_is); (case ini => kx_is); (case over => kx_is); (case sa => k_is); (case ga => k_is); (case gg => k_is); (case noN => k_is); (case noT => k_is); (case iC => k_is); (case tC => k_is); (case kC => k_is); (case exC => k_is); (case hdC => k_is); (case clC => k_is); (case obC => k_is); (case spC => k_is); (case taC => k_is); (case lf => k_is); (case cf => k_is))
    (case y_BadSigns => k_is)
    (case s_BadPage_BadSigns => k_is)
    (case s_BadPage_BadPieces => k_is)
    (case s_BadPage_BadPage => k_is)
    (case s_BadPieces_BadSigns => k_is)
    (case s_BadPieces_BadPieces => k_is)
    (case s_BadPieces_BadPage => k_is)
    (case s_BadSigns_BadSigns => k_is)
    (case s_BadSigns_BadPieces => k_is)
    (case s_BadSigns_BadPage => k_is)
    (case g_Family => k_is)
    (case Cl_Family => refine' L2.mk_cls ?pg ?hd ?po ?sa; (case pg => k_is); (case hd => k_is); (case po => k_is); (case sa => k_is))
    (case Mk_Family => refine' L2.mk_mk ?m ?i ?n ?k; (case m => k_is); (case i => k_is); (case n => k_is); (case k => k_is))
    (case n_Family__signs => k_is)
    (case n_Family__pieces => k_is)
    (case Is_Family => refine' L2.mk_iso ?i1 ?i2 ?i3 ?i4; (case i1 => k_is); (case i2 => k_is); (case i3 => k_is); (case i4 => k_is))
    (case ty_Family => k_is)
    (case u_Family_NoneType => k_is)
    (case u_Family_bool => k_is)
    (case u_Family_int => k_is)
    (case u_Family_str => k_is)
    (case u_Family_list => k_is)
    (case u_Family_tuple => k_is)
    (case u_Family_dict => k_is)
    (case a_is_piece => k_is)
    (case l_is_piece => k_is)
    (case o_is_piece => k_is)
    (case k_is_piece => k_is)
    (case a_is_choice => k_is)
    (case l_is_choice => k_is)
    (case o_is_choice => k_is)
    (case k_is_choice => k_is)
    (case a_is_line => k_is)
    (case l_is_line => k_is)
    (case o_is_line => k_is)
    (case k_is_line => k_is)
    (case a_is_page => k_is)
    (case l_is_page => k_is)
    (case o_is_page => k_is)
    (case k_is_page => k_is)
    (case a_is_signs => k_is)
    (case l_is_signs => k_is)
    (case o_is_signs => k_is)
    (case k_is_signs => k_is)
    (case a_is_word => k_is)
    (case l_is_word => k_is)
    (case o_is_word => k_is)
    (case k_is_word => k_is)
    (case a_are_pieces => k_is)
    (case l_are_pieces => k_is)
    (case o_are_pieces => k_is)
    (case k_are_pieces => k_is)
    (case a_is_over => k_is)
    (case l_is_over => k_is)
    (case o_is_over => k_is)
    (case k_is_over => k_is)
    (case a__law_pool => k_is)
    (case l__law_pool => k_is)
    (case o__law_pool => k_is)
    (case k__law_pool => k_is)
    (case a__law_draw => k_is)
    (case l__law_draw => k_is)
    (case o__law_draw => k_is)
    (case k__law_draw => k_is)
    (case a__law_mixed => k_is)
    (case l__law_mixed => k_is)
    (case o__law_mixed => k_is)
    (case k__law_mixed => k_is)
    (case a__law_line => k_is)
    (case l__law_line => k_is)
    (case o__law_line => k_is)
    (case k__law_line => k_is)
    (case a__law_family => k_is)
    (case l__law_family => k_is)
    (case o__law_family => k_is)
    (case k__law_family => k_is)
    (case a__law_called => k_is)
    (case l__law_called => k_is)
    (case o__law_called => k_is)
    (case k__law_called => k_is)
    (case a__law_told => k_is)
    (case l__law_told => k_is)
    (case o__law_told => k_is)
    (case k__law_told => k_is)
    (case a__law_is_in => k_is)
    (case l__law_is_in => k_is)
    (case o__law_is_in => k_is)
    (case k__law_is_in => k_is)
    (case a__law_refused => k_is)
    (case l__law_refused => k_is)
    (case o__law_refused => k_is)
    (case k__law_refused => k_is)
    (case a_law => k_is)
    (case l_law => k_is)
    (case o_law => k_is)
    (case k_law => k_is)
    (case l_Family___init__ => k_is)
    (case o_Family___init__ => k_is)
    (case k_Family___init__ => k_is)
    (case a_Family___eq__ => k_is)
    (case i_Family___eq__ => k_is)
    (case l_Family___eq__ => k_is)
    (case o_Family___eq__ => k_is)
    (case k_Family___eq__ => k_is)
    (case pa_Family_signs => k_is)
    (case pg_Family_signs => k_is)
    (case pt_Family_signs => k_is)
    (case pr_Family_signs => k_is)
    (case l_Family_signs => k_is)
    (case o_Family_signs => k_is)
    (case k_Family_signs => k_is)
    (case pa_Family_pieces => k_is)
    (case pg_Family_pieces => k_is)
    (case pt_Family_pieces => k_is)
    (case pr_Family_pieces => k_is)
    (case l_Family_pieces => k_is)
    (case o_Family_pieces => k_is)
    (case k_Family_pieces => k_is)
    (case a_Family_of => k_is)
    (case i_Family_of => k_is)
    (case l_Family_of => k_is)
    (case o_Family_of => k_is)
    (case k_Family_of => k_is)
    (case a_Family_cut => k_is)
    (case i_Family_cut => k_is)
    (case l_Family_cut => k_is)
    (case o_Family_cut => k_is)
    (case k_Family_cut => k_is)
    (case a_Family_is_allowed => k_is)
    (case i_Family_is_allowed => k_is)
    (case l_Family_is_allowed => k_is)
    (case o_Family_is_allowed => k_is)
    (case k_Family_is_allowed => k_is)
    (case a_Family__check_choice => k_is)
    (case i_Family__check_choice => k_is)
    (case l_Family__check_choice => k_is)
    (case o_Family__check_choice => k_is)
    (case k_Family__check_choice => k_is)
