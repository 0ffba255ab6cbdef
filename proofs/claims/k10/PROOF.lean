import PyProof.Rows.All
import Wide.All
import OpenK.AllK
import Wide.FinOn
import PySem.Challenge.RW_surelyhas_k10_classes_of_errors
import PyProof.EqAt
import KE.KExcIs
import KE.KExcInit
import KE.KExcLine
import HandS.ForMost
import HandS.Exc
import HandS.IsInst
import HandS.ExcInit
import HandS.ExcValue
import HandS.SetFor
import HandS.TupLe
import HandS.Walk
set_option Elab.async false
set_option linter.all false
set_option maxRecDepth 100000
set_option maxHeartbeats 2000000
/-! The classes of the errors: made by position and by name, kept in their fields, told apart. A promise for each def of the law, over the modules HandS. -/
namespace PySem
namespace ErrX
open PySem.W PySem.Calls PyProof.Rows PySem.HandSPX Builtin Builtin.ObjectAttr
section
variable {M : Model} {A : Around} {E : Value → Shared → Prop} {hp : Heap} {gs : Array GenState} {dr : Drawn} {tk : Nat} {os : OsState}
variable {nm q : Str} {C N : Addr} {bs bm bmB : List Value} {hdct : Bool} {sn : List Str} {sub : List Value} {ab : Bool} {col : Option Bool} {dd : Option Addr} {k0 k1 k2 k3 k5 : Option Value} {B newId initId : String}
/-- the check ahead of the base's __new__, keywords among what it is handed -/
theorem chk_new (F : ExcBaseFacts B newId initId bmB) (hT : ∀ X : String, bm.contains (.type X) = bmB.contains (.type X)) {zs : List Value} {kw : List (Str × Value)} {Q : Unit → Shared → Prop}
    (cC : hp.get? C = some (excClassObj nm q C N bs bm hdct sn sub ab col dd k0 k1 k2 k3 k5 newId)) (fin : Q () ⟨hp, gs, dr, tk, os⟩) : wpAny M A (checkBuiltinCall newId ⟨.ref C :: zs, kw⟩) Q E ⟨hp, gs, dr, tk, os⟩ := by
  have inB : (Value.ref C :: bm).contains (.type B) = true := by rw [List.contains_cons, hT, F.hasB, Bool.or_true]
  have nst := F.noStar
  simp only [checkBuiltinCall, F.newKind, F.newSplit, F.newRow]
  repeat (first | refine wpAny_loadPart_at cC ?_ | (refine wpAny_isSubtype_exc cC ?_; rw [inB]) | refine wpAny_staticBase_exc cC ?_ | refine wpAny_madeBy_exc cC ?_ | simp only [bne_self_eq_false, Bool.false_eq_true, if_false] | wp_step)
  exact fin
end
section
variable {prog : Program} {w : World} {A : Around} {E : Value → Shared → Prop} {R : Result → Shared → Prop} {hp : Heap} {gs : Array GenState} {dr : Drawn} {tk : Nat} {os : OsState}
variable {nm q : Str} {C N : Addr} {bs bm bmB : List Value} {hdct : Bool} {sn : List Str} {sub : List Value} {ab : Bool} {col : Option Bool} {dd : Option Addr} {k0 k1 k2 k3 k5 : Option Value} {B newId initId : String}
/-- the base's __new__ of such a class, keywords let alone -/
theorem base_new (F : ExcBaseFacts B newId initId bmB) (hT : ∀ X : String, bm.contains (.type X) = bmB.contains (.type X)) {zs : List Value} {kw : List (Str × Value)}
    (cC : hp.get? C = some (excClassObj nm q C N bs bm hdct sn sub ab col dd k0 k1 k2 k3 k5 newId)) (lz : zs.length ≤ sizeLine)
    (fin : R (.ok (.ret (.ref (hp.objs.size + 1)))) ⟨(hp.push (W.kdv_tup zs)).push (excO C hp.objs.size), gs, dr, tk, os⟩) :
    codeAny (model prog w) A (.builtin newId ⟨.ref C :: zs, kw⟩) R ⟨hp, gs, dr, tk, os⟩ := by
  have nds := F.ends
  have inB : (Value.ref C :: bm).contains (.type B) = true := by rw [List.contains_cons, hT, F.hasB, Bool.or_true]
  have noA : (Value.ref C :: bm).contains (.type "AttributeError") = false := by rw [List.contains_cons, hT, F.noAttr]; rfl
  have noN : (Value.ref C :: bm).contains (.type "NameError") = false := by rw [List.contains_cons, hT, F.noName]; rfl
  refine codeAny_builtinAt F.entry ?_
  unfold Builtin.«BaseException.__new__»
  refine wpAt_bind ?_
  show wpAt _ _ _ (stack >>= _) _ _ _
  refine wpAt_bind (wpAt_stack fun _ _ => wpAt_of_wpAny ?_)
  wp_walk
  refine wpAt_of_wpAny ?_
  rw [F.owner]
  repeat (first | with_reducible refine wpAny_madeHere_exc F.canon cC ?_ | with_reducible refine wpAny_loadPart_at cC ?_ | (with_reducible refine wpAny_isSubtype_exc cC ?_; first | rw [inB] | rw [noA] | rw [noN]) | wp_step)
  show R _ _
  rw [Heap.size_push]
  exact fin
/-- type.__call__ of it: __new__, then its own __init__, with the same values and keywords -/
theorem type_call (F : ExcBaseFacts B newId initId bmB) (hT : ∀ X : String, bm.contains (.type X) = bmB.contains (.type X)) {zs : List Value} {kw : List (Str × Value)} {fI : Addr} {Q : Fin → Shared → Prop}
    (cC : hp.get? C = some (excClassObj nm q C N bs bm hdct sn sub ab col dd k0 k1 k2 k3 k5 newId))
    (hi : W.Looks (model prog w) hp (typeLookup (.ref C) "__init__") (some (.ref fI))) (hb : ∀ z, W.Looks (model prog w) hp (bindSpecial (.ref fI) z) (.ref fI, [z])) (lz : zs.length ≤ sizeLine)
    (fin : codeAny (model prog w) A (.call (.ref fI) ⟨.ref (hp.objs.size + 1) :: zs, kw⟩)
      (fun r s' => match r with | .ok (.ret v) => v = .none ∧ Q (.done (.ret (.ref (hp.objs.size + 1)))) s' | .ok _ => False | .error e => E e s')
      ⟨(hp.push (W.kdv_tup zs)).push (excO C hp.objs.size), gs, dr, tk, os⟩) :
    wpAny (model prog w) A (Builtin.«type.__call__» ⟨.ref C :: zs, kw⟩) Q E ⟨hp, gs, dr, tk, os⟩ := by
  repeat (first | with_reducible refine wpAny_loadPart_at cC ?_ | with_reducible refine wpAny_madeBy_exc cC ?_ | wp_step)
  refine codeAny_call_builtin_code (Code.quiet_builtin _ F.quiet) (chk_new F hT cC (base_new F hT cC lz ?_))
  show wpAny _ _ _ _ _ _
  have kp : ∀ b o, hp.get? b = some o → ((hp.push (W.kdv_tup zs)).push (excO C hp.objs.size)).get? b = some o := fun b o z => Heap.get?_push_of_some _ (Heap.get?_push_of_some _ z)
  have cC1 := kp _ _ cC
  have at1 : ((hp.push (W.kdv_tup zs)).push (excO C hp.objs.size)).get? (hp.objs.size + 1) = some (excO C hp.objs.size) := by heap_get
  have inC : (Value.ref C :: bm).contains (.ref C) = true := by simp
  have hi1 := hi.keeps kp
  have hb1 := (hb (.ref (hp.objs.size + 1))).keeps kp
  unfold isInstance
  repeat (first | with_reducible refine wpAny_loadPart_at at1 ?_ | (with_reducible refine wpAny_isSubtype_exc cC1 ?_; rw [inC]) | wp_step)
  show wpAny _ _ (typeLookup (.ref C) _) _ _ _
  refine hi1.at (wpAny_holding (wpAny_bind (hb1.at (wpAny_bind (wpAny_call (codeAny_mono fin fun r s' z => ?_))))))
  rcases r with e | (v | _ | _ | _) <;> first | exact z | exact z.elim | skip
  obtain ⟨rfl, z⟩ := z
  first | exact wpAny_pure (wpAny_pure z) | (wp_walk; exact z)
/-- X(..), X(f=..), X an own exception class with an __init__ of its own -/
theorem call_cls (F : ExcBaseFacts B newId initId bmB) (hT : ∀ X : String, bm.contains (.type X) = bmB.contains (.type X)) {zs : List Value} {kw : List (Str × Value)} {fI : Addr}
    (cC : hp.get? C = some (excClassObj nm q C N bs bm hdct sn sub ab col dd k0 k1 k2 k3 k5 newId))
    (hi : W.Looks (model prog w) hp (typeLookup (.ref C) "__init__") (some (.ref fI))) (hb : ∀ z, W.Looks (model prog w) hp (bindSpecial (.ref fI) z) (.ref fI, [z])) (lz : zs.length ≤ sizeLine)
    (fin : codeAny (model prog w) (A.under (.builtin "type.__call__" ⟨.ref C :: zs, kw⟩)) (.call (.ref fI) ⟨.ref (hp.objs.size + 1) :: zs, kw⟩) (W.InitBack (hp.objs.size + 1) R)
      ⟨(hp.push (W.kdv_tup zs)).push (excO C hp.objs.size), gs, dr, tk, os⟩) :
    codeAny (model prog w) A (.call (.ref C) ⟨zs, kw⟩) R ⟨hp, gs, dr, tk, os⟩ := by
  have look := tc_lookup
  have bnd := tc_bind (.ref C)
  have ty : (⟨hp, gs, dr, tk, os⟩ : Shared).TypeIs (.ref C) "type" := ⟨_, cC, rfl⟩
  refine codeAny_of_tree ?_
  show wpAny _ _ (callAny (.ref C) _) _ _ _
  repeat (any_goals (first | assumption | with_reducible refine wpAny_loadPart_at cC ?_ | wp_step))
  refine ⟨rfl, codeAny_call_builtin_at (Code.quiet_builtin _ (by decide +kernel)) entry_typeCall (wpAny_check_type_call_sub cC (type_call F hT cC hi hb lz ?_))⟩
  refine codeAny_mono fin fun r s' z => ?_
  rcases r with e | (v | _ | _ | _) <;> exact z
end
end ErrX
end PySem

namespace PySem
namespace ErrX
open PySem.W PySem.Calls PyProof.Rows PySem.HandSPX Builtin Builtin.ObjectAttr
abbrev exTail : List Value := [.type "Exception", .type "BaseException", .type "object"]
/-- def __init__(self, f): self.f = f, as it stands in the text -/
def iArgs (f : Str) (p1 p2 : Pos) : Arguments := { posonlyargs := [], args := [{ arg := "self", annotation := none, pos := p1 }, { arg := f, annotation := none, pos := p2 }], vararg := none, kwonlyargs := [], kw_defaults := [], kwarg := none, defaults := [] }
def iBody (f : Str) (q1 q2 q3 q4 : Pos) : List Stmt := [.Assign [.Attribute (.Name "self" q1) f q2] (.Name f q3) q4]
def iScope (f : Str) : Scope := { kind := .function, names := [(PySem.Str.ofString "self", .local), (f, .local)], isGenerator := false, isCoroutine := false, more := [] }
/-- the fields' names -/
def Fld (f : Str) : Prop := f = "value" ∨ f = "name" ∨ f = "at" ∨ f = "number" ∨ f = "line"
/-- what the written part says of an error's class, at C, and of its __init__, at fI -/
structure ErrTxt (K : Frag) (mg : Str → Option Value) (nm f : Str) (C fI : Addr) : Prop where
  fld : Fld f
  gC : mg nm = some (.ref C)
  ini : excInitIn K C exTail "Exception.__new__" = true
  over : excOver K C exTail = true
  sa : findIn K (.ref C) "__setattr__" = some (some (.builtin "object.__setattr__"))
  ga : findIn K (.ref C) "__getattribute__" = some (some (.builtin "BaseException.__getattribute__"))
  gg : findIn K (.ref C) "__getattr__" = some none
  noN : findIn K (.ref C) f = some none
  noT : takerIn K C f = some none
  iC : findIn K (.ref C) "__init__" = some (some (.ref fI))
  tC : typeIn K (.ref fI) = some (.type "function")
  kC : keepIn K (.ref C) = true
  exC : subIn K (.ref C) (.type "BaseException") = some true
  hdC : hasDictIn K C = true
  clC : findIn K (.ref C) "__class__" = some (some (.builtin "object.__class__"))
  obC : mroIn K C (.type "object") = some true
  spC : specialIn K (.builtin "object.__class__") "__get__" = some (some (.builtin "getset_descriptor.__get__"))
  taC : takesIn K (.builtin "object.__class__") = some true
  fn : ∃ (oc : Value) (od : Option Addr) (qual : Str) (doc pm : Value) (an : Option Addr) (cdv ct : Value) (osl : Array (Option Value)) (p1 p2 q1 q2 q3 q4 : Pos),
    K.lookup fI = some ⟨oc, od, .func (fnOf "__init__" qual (iArgs f p1 p2) (iBody f q1 q2 q3 q4) (iScope f) .none .none doc pm an cdv ct), osl⟩ ∧ codeIn K cdv qual = true
theorem err_one (v : Value) : [v].length ≤ sizeLine := by
  rw [sizeLine_eq]
  exact (by decide : 1 ≤ 16777216)
section
variable {prog : Program} {w : World} {A : Around} {E : Value → Shared → Prop} {R : Result → Shared → Prop} {s : Shared} {K : Frag} {mg : Str → Option Value} {nm f : Str} {C fI : Addr}
/-- a first store on an exception that has no dict yet -/
theorem first_store {x t0 : Addr} {tk : Tok} {v : Value} (T : ErrTxt K mg nm f C fI) (X : K.In s.heap) (hx : s.heap.get? x = some (excO C t0))
    (fin : ∀ h' tk' dx, (∀ b o, b ≠ x → s.heap.get? b = some o → h'.get? b = some o) → s.heap.objs.size ≤ dx → dx ≠ x → h'.get? x = some { cls := .ref C, dict := some dx, data := .fields #[.ref t0, .none, .none, .none, .bool false, .none] } →
      h'.Ns1 dx (fun y => if y = f then some v else none) → R (.ok (.ret .none)) { s with heap := h', toks := tk' }) :
    codeAny (model prog w) A (.call (.builtin "object.__setattr__") ⟨[.ref x, .str f tk, v], []⟩) R s := by
  have I : W.InstAt s.heap x (excO C t0) C none := ⟨hx, rfl, rfl, trivial⟩
  obtain ⟨cd, hcd, hh⟩ := any_some T.hdC
  have far : x ≠ s.heap.objs.size := Nat.ne_of_lt (Heap.lt_size hx)
  have lk : W.Looks (model prog w) s.heap (classData C) cd := W.looks_clsIn X hcd
  refine osa_openX F.store_Exception X I T.over T.noT fun b => ?_
  show wpAny _ _ (storeInOwnDict (.ref x) (.ref C) (.str f tk) f v b) _ _ _
  obtain ⟨hp, g, d, t, os⟩ := s
  obtain ⟨cn, cb, cm, cns, cq, chd, csn, csb, cab, ccol, cdel⟩ := cd
  dsimp only at hh
  subst hh
  unfold storeInOwnDict ownDictForStores
  cases b <;>
  · repeat (first | with_reducible refine store_in_new ?_ ?_ | with_reducible refine wpAny_loadPart_at hx ?_ | with_reducible refine lk.at ?_ | wp_step)
    · exact ⟨_, #[], _, (Heap.get?_update_ne _ _ _ _ far.symm).trans (Heap.get?_push_at rfl rfl), rfl, fun e he => absurd he (by simp), fun _ => rfl⟩
    · intro h' tk' hn' hs
      have hx1 : (hp.push { cls := .type "dict", data := .dict #[] }).get? x = some (excO C t0) := Heap.get?_push_of_some _ hx
      refine fin h' tk' hp.objs.size (fun b o hb ho => ?_) (Nat.le_refl _) far.symm ?_ hn'
      · exact (hs.2 b (Nat.ne_of_lt (Heap.lt_size ho))).trans ((Heap.get?_update_ne _ _ _ _ hb).trans (Heap.get?_push_of_some _ ho))
      · exact (hs.2 x far).trans (Heap.get?_update_self _ hx1 rfl)
end
end ErrX
end PySem

namespace PySem
namespace ErrX
open PySem.W PySem.Calls PyProof.Rows PySem.HandSPX Builtin Builtin.ObjectAttr
theorem keeps_except {K : Frag} {h h' : Heap} {x : Addr} (X : K.In h) (hx : K.lookup x = none) (k : ∀ b o, b ≠ x → h.get? b = some o → h'.get? b = some o) : K.In h' :=
  fun a o e => k a o (fun z => by rw [z, hx] at e; cases e) (X a o e)
theorem load_loc {M : Model} {s : Shared} {qual : Str} {scope : Scope} {L a : Addr} {cd : Value} {m : Str → Option Value} {x : Str} {pos : Pos} {v : Value} {Q : Value → Shared → Prop} {A : Around} {E : Value → Shared → Prop} (hn : s.heap.Ns L m) (hv : m x = some v) (h : Q v s)
    (hk : scope.kind = .function) (hl : (envOfC qual scope L a cd).kindOf x = some .local) (hd : (x == ("__debug__" : Str)) = false) :
    wpAny M A (eval (.Name x pos) (envOfC qual scope L a cd)) Q E s := wpAny_Name (wpAny_loadName_local hk hl hn hv h) hd
/-- a made error at e: its own dict d holds the field; what stood before stands -/
structure ErrMade (h h' : Heap) (e C d : Addr) (f : Str) (v : Value) : Prop where
  keep : ∀ b o, h.get? b = some o → h'.get? b = some o
  new : h.objs.size ≤ e
  obj : ∃ t0, h'.get? e = some { cls := .ref C, dict := some d, data := .fields #[.ref t0, .none, .none, .none, .bool false, .none] }
  dnew : h.objs.size ≤ d
  dne : d ≠ e
  ns : h'.Ns1 d (fun y => if y = f then some v else none)
/-- how the call hands the value: by position, or by the field's name -/
def handed (f : Str) (v : Value) (byName : Bool) : List Value × List (Str × Value) := if byName then ([], [(f, v)]) else ([v], [])
section
variable {prog : Program} {w : World} {A : Around} {E : Value → Shared → Prop} {R : Result → Shared → Prop} {s : Shared} {K : Frag} {mg : Str → Option Value} {nm f : Str} {C fI : Addr}
theorem err_init (T : ErrTxt K mg nm f C fI) {x t0 : Addr} {v : Value} {byName : Bool} (X : K.In s.heap) (hlim : s.heap.NoLimit) (hx : s.heap.get? x = some (excO C t0)) (hnx : K.lookup x = none) (hroom : A.depth < recursionLimit)
    (fin : ∀ h' tk dx, (∀ b o, b ≠ x → s.heap.get? b = some o → h'.get? b = some o) → s.heap.objs.size ≤ dx → dx ≠ x → h'.get? x = some { cls := .ref C, dict := some dx, data := .fields #[.ref t0, .none, .none, .none, .bool false, .none] } →
      h'.Ns1 dx (fun y => if y = f then some v else none) → R (.ok (.ret .none)) { s with heap := h', toks := tk }) :
    codeAny (model prog w) A (.call (.ref fI) ⟨.ref x :: (handed f v byName).1, (handed f v byName).2⟩) R s := by
  obtain ⟨oc, od, qual, doc, pm, an, cdv, ct, osl, p1, p2, q1, q2, q3, q4, ho, hcd⟩ := T.fn
  have bnd : BindsTo s (fnOf "__init__" qual (iArgs f p1 p2) (iBody f q1 q2 q3 q4) (iScope f) .none .none doc pm an cdv ct) ⟨.ref x :: (handed f v byName).1, (handed f v byName).2⟩ [("self", .ref x), (f, v)] := by
    rcases T.fld with rfl | rfl | rfl | rfl | rfl <;> cases byName <;> exact BindsTo.of_eq (by first | rfl | with_unfolding_all rfl)
  have kS : (iScope f).names.lookup ("self" : Str) = some .local ∧ (iScope f).names.lookup f = some .local ∧ (f == ("__debug__" : Str)) = false ∧ f ≠ ("self" : Str) := by
    rcases T.fld with rfl | rfl | rfl | rfl | rfl <;> exact ⟨by decide +kernel, by decide +kernel, by decide +kernel, by decide +kernel⟩
  refine Att.call_fn (binds := [("self", .ref x), (f, v)]) X hlim ho hcd hroom bnd ?_ (fun s1 IC => ?_) rfl rfl rfl
  · rcases T.fld with rfl | rfl | rfl | rfl | rfl <;> first | rfl | decide | with_unfolding_all rfl
  obtain ⟨h1, tk1, rfl⟩ := IC.toInCall.same
  have k1 : ∀ b o, s.heap.get? b = some o → h1.get? b = some o := IC.toInCall.keep
  have hn := IC.toInCall.ns
  have X1 : K.In h1 := X.keeps k1
  have hx1 := k1 _ _ hx
  show wpAny _ _ (execs _ _) _ _ _
  refine wpAny_execs_cons (plainObj_wpAny_Assign_Attribute ?_ ?sw)
  case sw => rcases T.fld with rfl | rfl | rfl | rfl | rfl <;> rfl
  refine load_loc (v := v) hn ?m1 (load_loc (v := .ref x) hn ?m2 ?_ rfl ?k2 rfl) rfl ?k1 kS.2.2.1
  case m1 => rcases T.fld with rfl | rfl | rfl | rfl | rfl <;> first | rfl | with_unfolding_all rfl | kernel_rfl
  case m2 => rcases T.fld with rfl | rfl | rfl | rfl | rfl <;> first | rfl | with_unfolding_all rfl | kernel_rfl
  case k1 => rcases T.fld with rfl | rfl | rfl | rfl | rfl <;> rfl
  case k2 => rcases T.fld with rfl | rfl | rfl | rfl | rfl <;> rfl
  refine set_plain X1 (ox := excO C t0) (od := none) ⟨hx1, rfl, rfl, trivial⟩ T.sa ?_
  refine first_store T X1 hx1 fun h3 tk3 dx k3 dn dne hx3 hn3 => ?_
  show wpAny _ _ (execs _ _) _ _ _
  have lt1 : s.heap.objs.size < h1.objs.size := hn.lt
  exact wpAny_execs_nil (fin h3 tk3 dx (fun b o hb z => k3 b o hb (k1 b o z)) (Nat.le_of_lt (Nat.lt_of_lt_of_le lt1 dn)) dne hx3 hn3)
theorem err_made (T : ErrTxt K mg nm f C fI) {v : Value} {byName : Bool} (X : K.In s.heap) (hlim : s.heap.NoLimit) (hroom : A.depth + 1 < recursionLimit)
    (fin : ∀ h' tk e d, ErrMade s.heap h' e C d f v → R (.ok (.ret (.ref e))) { s with heap := h', toks := tk }) :
    codeAny (model prog w) A (.call (.ref C) ⟨(handed f v byName).1, (handed f v byName).2⟩) R s := by
  obtain ⟨mn, N, q, bs, bm, hdct, sn, sub, ab, col, dd, k0, k1, k2, k3, k5, hC, hT⟩ := excInit_of X T.ini
  obtain ⟨hp, g, dr, tk, os⟩ := s
  have lz : (handed f v byName).1.length ≤ sizeLine := by
    cases byName
    · exact err_one v
    · exact Nat.zero_le _
  have kp : ∀ b o, hp.get? b = some o → ((hp.push (W.kdv_tup (handed f v byName).1)).push (excO C hp.objs.size)).get? b = some o := fun b o e => Heap.get?_push_of_some _ (Heap.get?_push_of_some _ e)
  have hget : ((hp.push (W.kdv_tup (handed f v byName).1)).push (excO C hp.objs.size)).get? (hp.objs.size + 1) = some (excO C hp.objs.size) := by heap_get
  have hnx : K.lookup (hp.objs.size + 1) = none := by
    cases e : K.lookup (hp.objs.size + 1) with
    | none => rfl
    | some o =>
      have z : hp.get? (hp.objs.size + 1) = some o := X _ _ e
      exact absurd (Nat.lt_of_succ_lt (Heap.lt_size z)) (Nat.lt_irrefl _)
  refine call_cls F.excBase_Exception hT hC (looks_findIn X T.iC) (fun z => bind_fn X z T.tC) lz ?_
  refine err_init (s := ⟨(hp.push (W.kdv_tup (handed f v byName).1)).push (excO C hp.objs.size), g, dr, tk, os⟩) T (X.keeps kp) (hlim.keeps kp) hget hnx ?_ fun h' tk' dx k' dn dne hx hns => ?_
  · have e : (A.under (.builtin "type.__call__" ⟨.ref C :: (handed f v byName).1, (handed f v byName).2⟩)).depth = A.depth + 1 := by
      first | rfl | simp [Around.under, Code.weight, Code.isCreation, Code.isGuard, Code.isCaller, Code.frames, Code.isFrame, guardIds]
    rw [e]
    exact hroom
  · have old : ∀ b o, hp.get? b = some o → h'.get? b = some o := fun b o e => k' b o (Nat.ne_of_lt (Nat.lt_succ_of_lt (Heap.lt_size e))) (kp b o e)
    have z : hp.objs.size ≤ dx := by
      have q := dn
      rw [Heap.size_push, Heap.size_push] at q
      omega
    exact ⟨rfl, fin h' tk' (hp.objs.size + 1) dx ⟨old, Nat.le_succ _, ⟨_, hx⟩, z, dne, hns⟩⟩
end
end ErrX
end PySem

namespace L2
open PySem PySem.Spec PyProof.Rows PySem.ErrX
section
variable {X : Cx} {C fI : Addr} {nm f : Str} {a : Expr} {ta : TA} {p pos pos2 kpos : Pos}
theorem relO_one {v : V} {v' : Value} (r : RelV v v') (f g : Str) : RelO (List.lookup g [(f, v)]) (if g = f then some v' else none) := by
  by_cases h : g = f
  · subst h
    rw [if_pos rfl]
    have q : List.lookup g [(g, v)] = some v := by simp [List.lookup]
    rw [q]
    exact r
  · rw [if_neg h]
    have q1 : (g == f) = false := by simpa using h
    have q : List.lookup g [(f, v)] = none := by simp [List.lookup, q1]
    rw [q]
    trivial
/-- one value is handed -/
def tOne (ta : TA) : TE := fun σ H Q => ta σ H fun vs H1 => ∃ v, vs = [v] ∧ Q v H1
/-- a made error and its dict, tracked -/
def tErr (C : Addr) (f : Str) (ta : TA) : TE := fun σ H Q => ta σ H fun vs H1 => ∃ v, vs = [v] ∧
  ∀ e d, H1 e = none → H1 d = none → d ≠ e → Q (.ref e) (upd (upd H1 d (.xd [(f, v)])) e (exo e C (some d)))
/-- the call itself, its value in hand -/
theorem err_call {k : Nat} {byName : Bool} {v' : Value} {s1 : Shared} {E : Value → Shared → Prop} {Q : Value → Shared → Prop} {pins : List (Addr × Obj)} {σ : St} {H1 : Hp} (T : ErrTxt X.K X.mg nm f C fI) (hr : Room k X.A) (I1 : Inv X pins σ H1 s1)
    (h : ∀ h' tk e d, ErrMade s1.heap h' e C d f v' → Q (.ref e) { s1 with heap := h', toks := tk }) :
    wpAny (model X.prog X.w) X.A (call (.ref C) (handed f v' byName).1 (handed f v' byName).2) Q E s1 :=
  wpAny_call (err_made T I1.kIn I1.nolimit (by have := hr.dp; omega) fun h' tk e d M => h h' tk e d M)
/-- what a made error's field reads -/
theorem err_get {v' : Value} {s1 : Shared} {E : Value → Shared → Prop} {Q : Value → Shared → Prop} {pins : List (Addr × Obj)} {σ : St} {H1 : Hp} {h' : Heap} {e d : Addr} {tk : Nat} {b : Bool} (T : ErrTxt X.K X.mg nm f C fI) (I1 : Inv X pins σ H1 s1) (M : ErrMade s1.heap h' e C d f v')
    (hv : PySem.W.handedIn v' = true) (h : ∀ tk', Q v' { s1 with heap := h', toks := tk' }) :
    wpAny (model X.prog X.w) X.A (getAttr (.ref e) f b) Q E { s1 with heap := h', toks := tk } := by
  obtain ⟨t0, he⟩ := M.obj
  obtain ⟨od, ho, hl⟩ := lookIn_ns M.ns
  have J : PySem.W.InstAt h' e _ C (some od) := ⟨he, rfl, rfl, ho⟩
  have KI : X.K.In h' := I1.kIn.keeps M.keep
  exact PySem.HandSPX.exc_get KI J T.ga T.gg T.exC (PySem.W.findObj_own T.hdC T.noN rfl (by rw [hl]; simp)) hv (h _)
/-- the made error and its dict, tracked from here on -/
theorem err_laid {v : V} {v' : Value} {s1 : Shared} {pins : List (Addr × Obj)} {σ : St} {H1 : Hp} {h' : Heap} {e d : Addr} {tk : Nat} (I1 : Inv X pins σ H1 s1) (rv : RelV v v') (M : ErrMade s1.heap h' e C d f v') :
    H1 e = none ∧ H1 d = none ∧ Inv X pins σ (upd (upd H1 d (.xd [(f, v)])) e (exo e C (some d))) { s1 with heap := h', toks := tk } := by
  obtain ⟨t0, he⟩ := M.obj
  obtain ⟨G, g1, g2⟩ := restrict h' fun b => decide (b ≠ e)
  have gk : ∀ b, b ≠ e → G.get? b = h'.get? b := fun b hb => g1 b (decide_eq_true hb)
  have ge : G.get? e = none := g2 e (by simp)
  have old : ∀ b o, s1.heap.get? b = some o → G.get? b = some o := fun b o q => (gk b (Nat.ne_of_lt (Nat.lt_of_lt_of_le (Heap.lt_size q) M.new))).trans (M.keep b o q)
  have back : ∀ b o, G.get? b = some o → h'.get? b = some o := fun b o q => by
    by_cases z : b = e
    · rw [z, ge] at q
      cases q
    · rw [← gk b z]
      exact q
  have n1 : H1 e = none := I1.hok.fresh M.new
  have n2 : H1 d = none := I1.hok.fresh M.dnew
  have o1 : ObjOk X.prog X.w (upd H1 d (.xd [(f, v)])) G d (.xd [(f, v)]) := ⟨_, M.ns.at (fun o q => (gk d M.dne).trans q), fun g => relO_one rv f g⟩
  have J1 : Inv X pins σ (upd H1 d (.xd [(f, v)])) { s1 with heap := G, toks := tk } := I1.laid (t' := tk) old M.dnew o1
  have n3 : upd H1 d (.xd [(f, v)]) e = none := by
    rw [upd_ne (fun z => M.dne z.symm)]
    exact n1
  exact ⟨n1, n2, J1.laidN (h' := h') (t' := tk) back ge n3 (exo_ok he)⟩
theorem pe_errGet {k : Nat} (T : ErrTxt X.K X.mg nm f C fI) (hr : Room k X.A) (ha : PA X [a] ta) (hg : Gl X nm := by rfl) (hdb : (nm == ("__debug__" : Str)) = false := by decide)
    (hb : attributeBase (.Call (.Name nm p) [a] [] pos) f X.env (eval (.Call (.Name nm p) [a] [] pos) X.env) = eval (.Call (.Name nm p) [a] [] pos) X.env := by rfl)
    (he : starEach (a :: []) X.env = (false, eval a X.env) :: starEach [] X.env := by rfl) (hpl : (backTo pos (starEach [] X.env)).any (·.1) = false := by rfl) :
    PE X (.Attribute (.Call (.Name nm p) [a] [] pos) f pos2) (tOne ta) := by
  refine ⟨fun pins s σ H Q I h => attr_of hb ?_⟩
  refine wpAny_Call_Name_kw (ld_glob I hg T.gC ?_ hdb)
  refine PySem.W.callWith_K (h₀ := X.base) I.ok.mod.kin T.kC (thn (ha.run pos pins s σ H _ I h) fun us s1 hh => ?_) he hpl
  obtain ⟨vs, H1, I1, r1, v, ev, q1⟩ := hh
  subst ev
  refine ⟨I1.kIn, ?_⟩
  cases r1 with
  | cons rv rn =>
    rename_i v' us'
    cases rn
    show wpAny _ _ (call (.ref C) [v']) _ _ _
    exact err_call (byName := false) T hr I1 fun h' tk e d M => err_get T I1 M (handed_of rv) fun tk' => ⟨v, H1, I1.kept M.keep, rv, q1⟩
theorem pe_errGetK {k : Nat} (T : ErrTxt X.K X.mg nm f C fI) (hr : Room k X.A) (ha : PK X [⟨some f, a, kpos⟩] ta) (hg : Gl X nm := by rfl) (hdb : (nm == ("__debug__" : Str)) = false := by decide)
    (hb : attributeBase (.Call (.Name nm p) [] [⟨some f, a, kpos⟩] pos) f X.env (eval (.Call (.Name nm p) [] [⟨some f, a, kpos⟩] pos) X.env) = eval (.Call (.Name nm p) [] [⟨some f, a, kpos⟩] pos) X.env := by rfl)
    (hall : (backToKw pos (keywordEach [⟨some f, a, kpos⟩] X.env)).all (·.1.isSome) = true := by rfl) (hks : (backToKw pos (keywordEach [⟨some f, a, kpos⟩] X.env)).filterMap (·.1) = [f] := by rfl)
    (hpl : ((backTo pos (starEach [] X.env)).any (·.1) || (backToKw pos (keywordEach [⟨some f, a, kpos⟩] X.env)).any (·.1.isNone)) = false := by rfl) :
    PE X (.Attribute (.Call (.Name nm p) [] [⟨some f, a, kpos⟩] pos) f pos2) (tOne ta) := by
  refine ⟨fun pins s σ H Q I h => attr_of hb ?_⟩
  refine wpAny_Call_Name_kw (ld_glob I hg T.gC ?_ hdb)
  refine PySem.W.callWith_KW0 (h₀ := X.base) I.ok.mod.kin T.kC hall (thn (ha.run pos pins s σ H _ I h) fun us s1 hh => ?_) hpl
  obtain ⟨vs, H1, I1, r1, v, ev, q1⟩ := hh
  subst ev
  refine ⟨I1.kIn, ?_⟩
  rw [hks]
  cases r1 with
  | cons rv rn =>
    rename_i v' us'
    cases rn
    show wpAny _ _ (call (.ref C) [] [(f, v')]) _ _ _
    exact err_call (byName := true) T hr I1 fun h' tk e d M => err_get T I1 M (handed_of rv) fun tk' => ⟨v, H1, I1.kept M.keep, rv, q1⟩
theorem pe_errMake {k : Nat} (T : ErrTxt X.K X.mg nm f C fI) (hr : Room k X.A) (ha : PA X [a] ta) (hg : Gl X nm := by rfl) (hdb : (nm == ("__debug__" : Str)) = false := by decide)
    (he : starEach (a :: []) X.env = (false, eval a X.env) :: starEach [] X.env := by rfl) (hpl : (backTo pos (starEach [] X.env)).any (·.1) = false := by rfl) :
    PE X (.Call (.Name nm p) [a] [] pos) (tErr C f ta) := by
  refine ⟨fun pins s σ H Q I h => ?_⟩
  refine wpAny_Call_Name_kw (ld_glob I hg T.gC ?_ hdb)
  refine PySem.W.callWith_K (h₀ := X.base) I.ok.mod.kin T.kC (thn (ha.run pos pins s σ H _ I h) fun us s1 hh => ?_) he hpl
  obtain ⟨vs, H1, I1, r1, v, ev, q1⟩ := hh
  subst ev
  refine ⟨I1.kIn, ?_⟩
  cases r1 with
  | cons rv rn =>
    rename_i v' us'
    cases rn
    show wpAny _ _ (call (.ref C) [v']) _ _ _
    refine err_call (byName := false) T hr I1 fun h' tk e d M => ?_
    obtain ⟨n1, n2, J⟩ := err_laid (tk := tk) I1 rv M
    exact ⟨.ref e, _, J, rfl, q1 e d n1 n2 M.dne⟩
/-- isinstance of a made error -/
def rIsErr (K : PySem.W.Frag) : List V → Hp → VK → Prop := fun xs H Q => ∃ (e C d : Addr) (f : Str) (v c : V) (u : Value) (b : Bool), xs = [.ref e, c] ∧ ClsV c u ∧ H e = some (exo e C (some d)) ∧ H d = some (.xd [(f, v)]) ∧
  (∃ mg nm g fI, ErrTxt K mg nm g C fI) ∧ PySem.W.kitOne K (.ref C) u = some b ∧ Q (.bl b) H
theorem call_isErr : CallR X (.builtin "isinstance") (rIsErr X.K) := by
  intro pins s σ H xs us Q I r h
  obtain ⟨e, C, d, f, v, c, u, b, rfl, kc, he, hd, ⟨mg, nm, g, fI, T⟩, ek, q⟩ := h
  obtain ⟨u1, u2, rfl, r1, r2⟩ := vals2 r
  have e2 := kc.eq r2
  subst e2
  cases (show u1 = Value.ref e from r1)
  obtain ⟨t1, hx⟩ := exo_at I.hok he
  obtain ⟨mA, hns, _⟩ := (show ObjOk X.prog X.w H s.heap d (.xd [(f, v)]) from I.hok d _ hd)
  obtain ⟨od, ho, _⟩ := lookIn_ns hns
  have J : PySem.W.InstAt s.heap e _ C (some od) := ⟨hx, rfl, rfl, ho⟩
  have hcl : (PySem.W.clsIn X.K C).isSome = true := by
    obtain ⟨cd, hc, _⟩ := PySem.W.any_some T.hdC
    rw [hc]
    rfl
  exact PySem.W.kia_one (PySem.W.kitx_exc hcl T.ga T.gg T.exC T.clC T.spC T.taC T.obC) I.kIn J ek (fun z => nomatch z) fun tk => ⟨.bl b, H, I.tok tk, rfl, q⟩
end
end L2

namespace L2
open PySem PySem.Spec PyProof.Rows PySem.ErrX
section
variable {X : Cx}
/-- list.count of a flat value, over flat items -/
def rCntF (K : PySem.W.Frag) : V → List V → Hp → VK → Prop := fun x xs H Q => ∃ (p : Addr) (ys : List V) (y : V), x = .ref p ∧ xs = [y] ∧ SqL K H p ys ∧ flatV y = true ∧ ys.all flatV = true ∧ Q (.int (ys.countP (fun z => eqV z y) : Nat)) H
theorem count_eqU {y : V} : ∀ {ys : List V} {us : List Value}, Vals ys us → ys.all flatV = true → us.countP (eqU y) = ys.countP (fun z => eqV z y)
  | _, _, .nil, _ => rfl
  | z :: ys, u :: us, .cons r t, f => by
    rw [List.all_cons, Bool.and_eq_true] at f
    rw [List.countP_cons, List.countP_cons, count_eqU t f.2, eqU_of r f.1]
theorem mt_countF : MtR X "list.count" (rCntF X.K) := by
  intro pins s σ H x xs v us Q I rx rxs h
  obtain ⟨p, ys, y, rfl, rfl, hs, fy, fys, q⟩ := h
  cases rx
  obtain ⟨u, rfl, ru⟩ := rxs.one
  obtain ⟨its, rv, ⟨⟨cls, dd, data, sl⟩, n, ho, hc, hdn, hd⟩, hlen⟩ := I.list hs
  simp only at hc hd
  subst hc hd
  refine call_meets PySem.F.slot_list_count ⟨_, ho, rfl⟩ PySem.F.entry_list_count (PySem.F.args_list_count_2 _ _)
    (SeqAt.list_countAt p its.toArray n dd sl u (eqU y)) ⟨ho, fun z hz => mem_eqAt ru fy rv fys z (by simpa using hz), ?_⟩
  refine ⟨.int (ys.countP (fun z => eqV z y) : Nat), H, I.tok _, ⟨s.toks, ?_⟩, q⟩
  rw [← count_eqU rv fys]
/-- what repr tells of a value -/
inductive Shw (K : PySem.W.Frag) (H : Hp) : V → Str → Prop
  | non : Shw K H .non "None"
  | int (i : Int) (h : i.natAbs.log2 < 1920) : Shw K H (.int i) (toString i)
  | str (x : Str) (h : (reprText x).length ≤ sizeLine) : Shw K H (.str x) (reprText x)
  | seq (a : Addr) (d : PyData) (h : Dp K H (.ref a) d) (hs : d.showable = true) (hd : d.hasDict = false) (hp : d.depth ≤ 64) (hz : d.shown.length ≤ sizeLine) : Shw K H (.ref a) d.shown
  | emp (a : Addr) (h : H a = some (.dK [])) : Shw K H (.ref a) "{}"
def rShw (K : PySem.W.Frag) : List V → Hp → VK → Prop := fun xs H Q => ∃ v T, xs = [v] ∧ Shw K H v T ∧ Q (.str T) H
theorem call_repr_shw {k : Nat} (hg : X.A.guards = some []) (hr : Room k X.A) : CallR X (.builtin "repr") (rShw X.K) := by
  intro pins s σ H xs us Q I r h
  obtain ⟨v, T, rfl, sh, q⟩ := h
  obtain ⟨u, rfl, ru⟩ := vals1 r
  have un := hr.un
  cases sh with
  | non => cases (show u = Value.none from ru); exact PySem.P.repr_of_none ⟨.str _, H, I.tok _, ⟨_, rfl⟩, q⟩
  | int i hi => obtain ⟨t, rfl⟩ := (show ∃ t, u = Value.int i t from ru); exact PySem.P.repr_of_int hi ⟨.str _, H, I.tok _, ⟨_, rfl⟩, q⟩
  | str x hx => obtain ⟨t, rfl⟩ := (show ∃ t, u = Value.str x t from ru); exact PySem.P.repr_of_str (h := ⟨.str _, H, I.tok _, ⟨_, rfl⟩, q⟩) hx
  | seq a d hd hs hno hp hz =>
    cases (show u = Value.ref a from ru)
    obtain ⟨as, rd⟩ := Dp.reads I d _ _ hd rfl
    exact PySem.repr_of_reads' rd hs (fun z => by rw [hno] at z; cases z) hg (by omega) (fun _ _ z => z) (fun h' u tk kp => ⟨.str _, H, I.kept kp, ⟨_, rfl⟩, q⟩) hz
  | emp a ha =>
    cases (show u = Value.ref a from ru)
    obtain ⟨_, ns, vs, kv, o, es, ep, h1, h2, h3, _, h5, _⟩ := (show ObjOk X.prog X.w H s.heap a (.dK []) from I.hok a _ ha)
    cases kv
    have e0 : es.toList = [] := List.eq_nil_of_length_eq_zero h5.length
    have rd : Reads s.heap (.ref a) (.dict []) (a :: [] ++ []) := .dict (kvs := []) h1 h2.1 h3 (by rw [e0]; exact .nil) (by rw [e0]; exact .nil)
    have far : sysModules ∉ (a :: [] ++ [] : List Addr) := fun z => by
      have z1 : sysModules = a := by simpa using z
      rw [z1] at ns
      simp at ns
    have sh : (PyData.dict []).shown = ("{}" : Str) := by decide +kernel
    exact PySem.repr_of_reads' rd (by decide +kernel) (fun _ => far) hg (by show X.A.units + ((PyData.dict []).depth + 1) < cLine; have : (PyData.dict []).depth ≤ 64 := by decide +kernel
                                                                            omega) (fun _ _ z => z) (fun h' u tk kp => ⟨.str _, H, I.kept kp, ⟨_, by rw [sh]⟩, q⟩) (by rw [sh]; decide +kernel)
end
end L2

namespace L2
open PySem PySem.Spec PyProof.Rows PySem.ErrX
/-- a def's promise where no repr is under way (the machine's stack of such is known to be empty) -/
structure FnG (P : Program) (w : World) (K : PySem.W.Frag) (mg : Str → Option Value) (base : Heap) (CX : CXT) (k : Nat) (f : Addr) (fd : FuncData) (ps : List Str) (sp : Sp) : Prop where
  len : ∀ vs H Q E, sp vs H Q E → vs.length = ps.length
  run : ∀ (A : Around), A.guards = some [] → ∀ (outer : List Env) (s : Shared) (H : Hp) (args : Args) (us : List Value) (vs : List V) (Q : VK) (E : XK),
    Room k A → Env0 P w K mg base A outer s H → BindsTo s fd args (ps.zip us) → Vals vs us → sp vs H Q E → codeAny (model P w) A (.call (.ref f) args) (CR CX outer P w H s Q E) s
theorem FnOk.toG {P : Program} {w : World} {K : PySem.W.Frag} {mg : Str → Option Value} {base : Heap} {CX : CXT} {k : Nat} {f : Addr} {fd : FuncData} {ps : List Str} {sp : Sp} (F : FnOk P w K mg base CX k f fd ps sp) : FnG P w K mg base CX k f fd ps sp :=
  ⟨F.len, fun A _ outer s H args us vs Q E hr he hb hv hs => F.run A outer s H args us vs Q E hr he hb hv hs⟩
section
variable {P : Program} {w : World} {K : PySem.W.Frag} {mg : Str → Option Value} {base : Heap}
/-- such a def by its body -/
theorem Fun.okG {CX : CXT} {x qual : Str} {st : Stmt} {f : Addr} {fd : FuncData} {N ps : List Str} {k : Nat} {sp : Sp} (F : Fun K x qual st f fd) (S : FnScope N ps (defScope st)) (len : ∀ vs H Q E, sp vs H Q E → vs.length = ps.length)
    (body : ∀ (cdv : Value) (A : Around) (outer : List Env) (s : Shared) (H : Hp) (vs : List V) (Q : VK) (E : XK), Room k (A.deeper (envOfC qual (defScope st) s.heap.objs.size f cdv)) →
      (A.deeper (envOfC qual (defScope st) s.heap.objs.size f cdv)).guards = some [] → sp vs H Q E →
      ∃ t, PSs (cxOf CX P w K mg base N qual (defScope st) f cdv A outer s H E) (defBody st) t ∧ t { nx := fun _ H' => Q .non H', rt := Q } (start N vs) H) : FnG P w K mg base CX (k + 1) f fd ps sp := by
  obtain ⟨oc, od, kV, doc, pm, an, cdv, ct, osl, rfl, lk, hcd⟩ := F.ex
  refine ⟨len, fun A gA outer s H args us vs Q E room env bnd rel prom => ?_⟩
  have lv := len _ _ _ _ prom
  have kin : K.In s.heap := env.mod.kin.keeps fun b o z => (env.bs b o z).1
  have lim : s.heap.NoLimit := env.mod.nolimit.keeps fun b o z => (env.bs b o z).1
  refine codeAny_call_function room.depth (kin _ _ lk) rfl S.co S.gen rfl (PySem.W.codeRec_of kin hcd) (bnd _ _ _ _ (wpAny_newFunctionEnv_cells S.kind (fun y hy => ?_) fun e1 he s1 x1 => ?_))
  · obtain ⟨n, v⟩ := y
    rcases S.par n (List.of_mem_zip hy).1 with z | z
    · exact .inl z
    · exact .inr ⟨z, PySem.W.cellsFrom_some _ _ _ (.inl z)⟩
  subst he
  refine ⟨lim.keeps x1.toInCall.keep, codeAny_func ?_⟩
  obtain ⟨t, ht, hq⟩ := body cdv A outer s H vs Q E (room.deeper _) gA prom
  have inv : Inv (cxOf CX P w K mg base N qual (defScope st) f cdv A outer s H E) [] (start N vs) H s1 := inv_start S room.hd env lv rel x1
  refine wpAny_mono (ht.run [] s1 _ H _ inv hq) (fun fl s2 hs => ?_) fun _ _ z => z
  cases fl with
  | ret u =>
    obtain ⟨v, σ2, H2, J, rv, q⟩ := hs
    exact ⟨v, H2, J.os, J.bare, J.base, J.hok, rv, q⟩
  | next =>
    obtain ⟨σ2, H2, J, q⟩ := hs
    exact ⟨.non, H2, J.os, J.bare, J.base, J.hok, rfl, q⟩
  | brk => exact (hs.elim fun _ z => z.elim fun _ z => z.2).elim
  | cont => exact (hs.elim fun _ z => z.elim fun _ z => z.2).elim
/-- the same where nothing that is raised leaves the def -/
theorem Fun.okG0 {x qual : Str} {st : Stmt} {f : Addr} {fd : FuncData} {N ps : List Str} {k : Nat} {sp : Sp} (F : Fun K x qual st f fd) (S : FnScope N ps (defScope st)) (len : ∀ vs H Q E, sp vs H Q E → vs.length = ps.length)
    (body : ∀ (cdv : Value) (A : Around) (outer : List Env) (s : Shared) (H : Hp) (vs : List V) (Q : VK) (E : XK), Room k (A.deeper (envOfC qual (defScope st) s.heap.objs.size f cdv)) →
      (A.deeper (envOfC qual (defScope st) s.heap.objs.size f cdv)).guards = some [] → sp vs H Q E →
      ∃ t, PSs (cxOf CX0 P w K mg base N qual (defScope st) f cdv A outer s H E).nox (defBody st) t ∧ t { nx := fun _ H' => Q .non H', rt := Q } (start N vs) H) : FnG P w K mg base CX0 (k + 1) f fd ps sp :=
  F.okG S len fun cdv A outer s H vs Q E room g prom => by
    obtain ⟨t, ht, q⟩ := body cdv A outer s H vs Q E room g prom
    exact ⟨t, ht.nox, q⟩
/-- the law's call from the machine's outermost place, over one abstract heap -/
theorem top_run {CX : CXT} {mb : Str → Option Value} {k : Nat} {fa a : Addr} {fd : FuncData} {x : Str} {sp : Sp} {s₁ : Shared} {vs : List Value} {ns : List Int} (H : Hp)
    (KX : K.In s₁.heap) (nsG : s₁.heap.Ns mainGlobals mg) (nsB : s₁.heap.Ns builtinsNs mb) (same : ∀ x : Str, x ≠ "__name__" → mb x = bootBuiltins x) (lim : s₁.heap.NoLimit) (gen : s₁.gens = #[])
    (at_ : s₁.heap.get? a = some { cls := .type "list", data := .seq vs.toArray }) (room : Room k callerA) (F : ∀ base : Heap, K.In base → base.Ns mainGlobals mg → FnG P w K mg base CX k fa fd [x] sp) (bnd : ∀ (s : Shared) (u : Value), BindsTo s fd ⟨[u], []⟩ [(x, u)])
    (noX : ∀ H e s', CX [] H s₁ (fun _ _ _ => False) e s' → False) (only : Only H) (prom : sp [.ref a] H (fun v _ => v = .bl true) fun _ _ _ => False) (ok : HOk P w H s₁.heap) (lone : ∀ b, H b ≠ none → b = a) (free : H a ≠ none → K.lookup a = none) :
    codeAny (model P w) callerA (.call (.ref fa) ⟨[.ref a], []⟩) (fun r s' => r = .ok (.ret (.bool true)) ∧ OldK s₁.heap s'.heap ∧ s'.os = s₁.os ∧ AllBare s'.gens) s₁ := by
  have dictFree : ∀ {b : Addr} {o : Obj} {es : Array DictEntry} {ep : Nat}, s₁.heap.get? b = some o → o.data = .dict es ep → H b = none := fun {b o es ep} z1 z2 => by
    by_cases z : H b = none
    · exact z
    · rw [lone b z, at_] at z1
      cases z1
      exact nomatch z2
  have hidN : ∀ {b : Addr} {m : Str → Option Value}, s₁.heap.Ns b m → (hidT s₁.heap H).Ns b m := fun ⟨o, es, ep, z1, z2, z3⟩ => ⟨o, es, ep, hidT_get z1 (dictFree z1 z2), z2, z3⟩
  have hidK : K.In (hidT s₁.heap H) := fun b o z => hidT_get (KX b o z) (by
    by_cases y : H b = none
    · exact y
    · have y2 := lone b y
      subst y2
      rw [free y] at z
      cases z)
  obtain ⟨mc, l1, l2⟩ := lim
  have env : Env0 P w K mg (hidT s₁.heap H) callerA [] s₁ H :=
    { frames := rfl, mod := ⟨hidK, hidN nsG, ⟨mb, hidN nsB, same⟩, ⟨mc, hidN l1, l2⟩⟩, bs := fun b o z => of_hidT z, bsz := Nat.le_of_eq (hidT_size _ _), funs := trivial, frf := fun b z => (List.not_mem_nil z).elim, hok := ok, bare := .of_eq gen }
  refine codeAny_mono ((F _ hidK (hidN nsG)).run callerA rfl [] s₁ H ⟨[.ref a], []⟩ [.ref a] [.ref a] _ _ room env (bnd s₁ (.ref a)) (.cons rfl .nil) prom) fun r s' z => ?_
  have leave : ∀ u, r = .ok (.ret u) → CE [] P w H s₁ (fun v _ => v = .bl true) u s' → r = .ok (.ret (.bool true)) ∧ OldK s₁.heap s'.heap ∧ s'.os = s₁.os ∧ AllBare s'.gens := fun u er ⟨v, H', os, bare, un, ok', rv, q⟩ => by
    cases (show v = V.bl true from q)
    cases (show u = Value.bool true from rv)
    refine ⟨er, OldK.of_keep fun b o z => ?_, os, bare⟩
    rcases only b with y | ⟨ob, xs, y⟩
    · exact un.keep b o z y (fun i => (List.not_mem_nil i).elim) (fun i => (List.not_mem_nil i).elim)
    · obtain ⟨g1, _⟩ := ok b _ y
      obtain ⟨g2, _⟩ := ok' b _ (un.frzs b ob _ y)
      rw [z] at g1
      cases g1
      exact g2
  match r, z, leave with
  | .error e, z, _ => exact (noX H e s' z).elim
  | .ok (.ret u), z, leave => exact leave u rfl z
/-- the law's promise at the heap behind the top -/
theorem top_call {CX : CXT} {mb : Str → Option Value} {k : Nat} {fa a : Addr} {fd : FuncData} {x : Str} {sp : Sp} {s₁ : Shared} {vs : List Value} {ns : List Int}
    (KX : K.In s₁.heap) (nsG : s₁.heap.Ns mainGlobals mg) (nsB : s₁.heap.Ns builtinsNs mb) (same : ∀ x : Str, x ≠ "__name__" → mb x = bootBuiltins x) (lim : s₁.heap.NoLimit) (gen : s₁.gens = #[])
    (at_ : s₁.heap.get? a = some { cls := .type "list", data := .seq vs.toArray }) (iv : IntsAre vs ns) (small : ns.length ≤ sizeLine) (room : Room k callerA) (F : ∀ base : Heap, K.In base → base.Ns mainGlobals mg → FnG P w K mg base CX k fa fd [x] sp) (bnd : ∀ (s : Shared) (u : Value), BindsTo s fd ⟨[u], []⟩ [(x, u)])
    (noX : ∀ H e s', CX [] H s₁ (fun _ _ _ => False) e s' → False) (prom : ∀ H : Hp, Only H → SqL K H a (ns.map V.int) → sp [.ref a] H (fun v _ => v = .bl true) fun _ _ _ => False) :
    codeAny (model P w) callerA (.call (.ref fa) ⟨[.ref a], []⟩) (fun r s' => r = .ok (.ret (.bool true)) ∧ OldK s₁.heap s'.heap ∧ s'.os = s₁.os ∧ AllBare s'.gens) s₁ := by
  have rv := vals_ints iv
  cases hk : K.lookup a with
  | some o =>
    have z := KX a o hk
    rw [at_] at z
    cases z
    have sq : SqL K (fun _ => none) a (ns.map V.int) := .inr ⟨_, vs.toArray, _, hk, rfl, rfl, rfl, by rw [List.size_toArray, iv.length]; exact small, by simpa using rv⟩
    exact top_run (ns := ns) (fun _ => none) KX nsG nsB same lim gen at_ room F bnd noX (fun _ => .inl rfl) (prom _ (fun _ => .inl rfl) sq) (fun b u z => by have y : (none : Option HO) = some u := z; cases y) (fun b z => absurd rfl z) fun z => absurd rfl z
  | none =>
    obtain ⟨Hs, e1⟩ : ∃ Hs : Hp, Hs = fun b => if b = a then some (.frz { cls := .type "list", data := .seq vs.toArray } (.lst (ns.map V.int))) else none := ⟨_, rfl⟩
    have hit : Hs a = some (.frz { cls := .type "list", data := .seq vs.toArray } (.lst (ns.map V.int))) := by rw [e1]; exact if_pos rfl
    have miss : ∀ b, b ≠ a → Hs b = none := fun b z => by rw [e1]; exact if_neg z
    have only : Only Hs := fun b => by
      by_cases z : b = a
      · exact .inr ⟨_, _, by rw [z]; exact hit⟩
      · exact .inl (miss b z)
    refine top_run (ns := ns) Hs KX nsG nsB same lim gen at_ room F bnd noX only (prom _ only (.inl (.inr ⟨_, hit⟩))) (fun b u z => ?_) (fun b z => ?_) fun _ => hk
    · by_cases y : b = a
      · subst y
        rw [hit] at z
        cases z
        exact ⟨at_, by rw [List.length_map]; exact small, vs, _, rv, at_⟩
      · rw [miss b y] at z
        cases z
    · by_cases y : b = a
      · exact y
      · exact absurd (miss b y) z
end
/-- the law row's end, from such a promise of the law's def -/
theorem walk_ofG {l : PySem.W.OpenLaw} {n k : Nat} {q : Program} {loose : List Str} {XP : (Str → Option Value) → Heap → Prop} {YP : World → Heap → Prop} {d : DefRec} {K : Params → PySem.W.Frag} {sp : World → Sp} {x : Str}
    (most : l.most = some n) (fits : n ≤ sizeLine) (plain : d.params.defaults = []) (room : Room k callerA) (there : ∀ (w : World) (h : Heap), YP w h → (K w.params).In h)
    (F : ∀ (w : World) (mg : Str → Option Value) (fa : Addr) (h : Heap), (K w.params).In h → h.Ns mainGlobals mg → mg d.name = some (.ref fa) →
      ∃ fd : FuncData, (∀ (s : Shared) (u : Value), BindsTo s fd ⟨[u], []⟩ [(x, u)]) ∧ ∀ base : Heap, (K w.params).In base → base.Ns mainGlobals mg → FnG l.prog w (K w.params) mg base CX0 k fa fd [x] (sp w))
    (prom : ∀ (w : World) (H : Hp) (a : Addr) (ns : List Int), ns.length ≤ n → Only H → SqL (K w.params) H a (ns.map V.int) → sp w [.ref a] H (fun v _ => v = .bl true) fun _ _ _ => False) :
    PySem.W.WalkO q loose XP YP l.row.toRowW d [] (fun f vs => PySem.call f vs) := by
  refine Att.attach_call most plain fun w s₀ s₁ mg mb fa o pm cd doc a vs ns G Y _ _ _ hmg at_ iv len gen => ?_
  have KX := there w _ Y
  obtain ⟨fd, bnd, f1⟩ := F w mg fa _ KX G.T.g hmg
  exact top_call KX G.T.g G.T.b G.T.builtins G.T.nolimit gen at_ iv (Nat.le_trans len fits) room f1 bnd (fun _ _ _ z => z) fun H o s => prom w H a ns len o s
end L2

namespace K10
open PySem PySem.Spec PyProof.Rows PySem.ErrX L2
/-! ### the text -/
def topS (i : Nat) : Stmt := PySem.Challenge.pw_surelyhas_k10_classes_of_errors.main.body.getD i (.Pass ⟨0, 0, 0, 0⟩)
abbrev sPool : Stmt := topS 18
abbrev sDraw : Stmt := topS 19
abbrev sPos : Stmt := topS 20
abbrev sName : Stmt := topS 21
abbrev sWhich : Stmt := topS 22
abbrev sMade : Stmt := topS 23
abbrev sLaw : Stmt := topS 24
/-- the errors' names and fields, in the text's order -/
def nms : List Str := ["BadArgument", "BadLine", "BadPage", "BadPieces", "BadName", "BadSigns", "BadQuestion", "BadPrice", "BadDepth", "UnknownName", "NameTaken", "BadPattern", "BadText", "LimitExceeded", "BadCommand"]
def fds : List Str := ["value", "value", "value", "value", "value", "value", "value", "value", "value", "name", "name", "at", "at", "number", "line"]
/-- what the top has written of the errors -/
structure Txt (K : PySem.W.Frag) (mg : Str → Option Value) (C I : Nat → Addr) (Cs : Addr) : Prop where
  e0 : ErrTxt K mg "BadArgument" "value" (C 0) (I 0)
  e1 : ErrTxt K mg "BadLine" "value" (C 1) (I 1)
  e2 : ErrTxt K mg "BadPage" "value" (C 2) (I 2)
  e3 : ErrTxt K mg "BadPieces" "value" (C 3) (I 3)
  e4 : ErrTxt K mg "BadName" "value" (C 4) (I 4)
  e5 : ErrTxt K mg "BadSigns" "value" (C 5) (I 5)
  e6 : ErrTxt K mg "BadQuestion" "value" (C 6) (I 6)
  e7 : ErrTxt K mg "BadPrice" "value" (C 7) (I 7)
  e8 : ErrTxt K mg "BadDepth" "value" (C 8) (I 8)
  e9 : ErrTxt K mg "UnknownName" "name" (C 9) (I 9)
  e10 : ErrTxt K mg "NameTaken" "name" (C 10) (I 10)
  e11 : ErrTxt K mg "BadPattern" "at" (C 11) (I 11)
  e12 : ErrTxt K mg "BadText" "at" (C 12) (I 12)
  e13 : ErrTxt K mg "LimitExceeded" "number" (C 13) (I 13)
  e14 : ErrTxt K mg "BadCommand" "line" (C 14) (I 14)
theorem same_upd {H : Hp} {p : Addr} {o : HO} (h : H p = none) : Same H (upd H p o) := fun b x e => by
  rw [upd_ne (ne_of_none e h)]
  exact e
theorem scP : FnScope ["_law_a", "_law_found"] ["_law_a"] (defScope sPos) := ⟨rfl, rfl, rfl, by decide +kernel, rfl, by decide +kernel, by decide +kernel⟩
theorem scN : FnScope ["_law_a", "_law_found"] ["_law_a"] (defScope sName) := ⟨rfl, rfl, rfl, by decide +kernel, rfl, by decide +kernel, by decide +kernel⟩
section
variable {P : Program} {w : World} {K : PySem.W.Frag} {mg : Str → Option Value} {base : Heap} {C I : Nat → Addr} {Cs : Addr}
/-- the value fifteen times, in a new list -/
def spBy : Sp := fun vs H Q _ => ∃ x, vs = [x] ∧ ∀ H' p, Same H H' → H p = none → H' p = some (.lst (List.replicate 15 x)) → Q (.ref p) H'
/-- three readings of the argument -/
abbrev tThree : TE := tLst (tCons (tOne (tCons (tVar 0) tNil)) (tCons (tOne (tCons (tVar 0) tNil)) (tCons (tOne (tCons (tVar 0) tNil)) tNil)))
theorem cat3 {x : V} {p : Addr} {H : Hp} {ys : List V} {D : Ends} (hp : H p = some (.lst ys)) (hl : ys.length ≤ 100) (h : ∀ p' H', Same H H' → H p' = none → H' p' = some (.lst (ys ++ [x, x, x])) → D.nx [some x, some (.ref p')] H') :
    tAsg (tOp rCat (tVar 1) tThree) (gName 1) D [some x, some (.ref p)] H := by
  refine ⟨.ref p, rfl, x, rfl, x, rfl, x, rfl, x, rfl, x, rfl, x, rfl, (by show 3 ≤ sizeLine; decide), fun pb nb => ⟨p, pb, ys, [x, x, x], rfl, rfl, ?_, upd_same, ?_, fun p2 n2 => ?_⟩⟩
  · rw [upd_ne (ne_of_none hp nb)]
    exact hp
  · have z : 200 ≤ sizeLine := by decide
    show ys.length + 3 ≤ sizeLine
    omega
  · have n3 : H p2 = none := by
      by_cases z : p2 = pb
      · rw [z]
        exact nb
      · rw [upd_ne z] at n2
        exact n2
    exact h p2 _ ((same_upd nb).trans (same_upd n2)) n3 upd_same
theorem all3 {x : V} {H : Hp} {Q : VK} (q : ∀ (H' : Hp) (p : Addr), Same H H' → H p = none → H' p = some (.lst (List.replicate 15 x)) → Q (.ref p) H') :
    tSeq (tAsg tThree (gName 1)) (tSeq (tAsg (tOp rCat (tVar 1) tThree) (gName 1)) (tSeq (tAsg (tOp rCat (tVar 1) tThree) (gName 1)) (tSeq (tAsg (tOp rCat (tVar 1) tThree) (gName 1)) (tSeq (tAsg (tOp rCat (tVar 1) tThree) (gName 1)) (tRet (tVar 1))))))
      { nx := fun _ H' => Q .non H', rt := Q } (start ["_law_a", "_law_found"] [x]) H := by
  refine ⟨x, rfl, x, rfl, x, rfl, x, rfl, x, rfl, x, rfl, (by show 3 ≤ sizeLine; decide), fun p1 n1 => ?_⟩
  refine cat3 (x := x) (ys := [x, x, x]) upd_same (by simp) fun p2 H2 s2 n2 l2 => ?_
  refine cat3 (x := x) l2 (by simp) fun p3 H3 s3 n3 l3 => ?_
  refine cat3 (x := x) l3 (by simp) fun p4 H4 s4 n4 l4 => ?_
  refine cat3 (x := x) l4 (by simp) fun p5 H5 s5 n5 l5 => ?_
  have sm : Same H H4 := (same_upd n1).trans (s2.trans (s3.trans s4))
  have nn : H p5 = none := by
    cases z : H p5 with
    | none => rfl
    | some o =>
      rw [sm _ _ z] at n5
      cases n5
  exact ⟨.ref p5, rfl, q H5 p5 (sm.trans s5) nn l5⟩
theorem ok_pos {f : Addr} {fd : FuncData} (F : Fun K "_law_by_position" "_law_by_position" sPos f fd) (T : Txt K mg C I Cs) : FnOk P w K mg base CX0 3 f fd ["_law_a"] spBy := by
  refine F.ok scP (fun vs H Q E h => ?_) (fun cdv A outer s H vs Q E hr h => ?_)
  · obtain ⟨x, rfl, _⟩ := h
    rfl
  · obtain ⟨x, rfl, q⟩ := h
    refine ⟨_, pss_cons (ps_set (i := 1) scP.nd rfl (.inl rfl) (pe_lst (pa_cons (pe_errGet T.e0 hr (pa_cons (pv 0) pa_nil)) (pa_cons (pe_errGet T.e1 hr (pa_cons (pv 0) pa_nil)) (pa_cons (pe_errGet T.e2 hr (pa_cons (pv 0) pa_nil)) pa_nil)))))
      (pss_cons (ps_set (i := 1) scP.nd rfl (.inl rfl) (pe_op op_cat (pv 1) (pe_lst (pa_cons (pe_errGet T.e3 hr (pa_cons (pv 0) pa_nil)) (pa_cons (pe_errGet T.e4 hr (pa_cons (pv 0) pa_nil)) (pa_cons (pe_errGet T.e5 hr (pa_cons (pv 0) pa_nil)) pa_nil))))))
      (pss_cons (ps_set (i := 1) scP.nd rfl (.inl rfl) (pe_op op_cat (pv 1) (pe_lst (pa_cons (pe_errGet T.e6 hr (pa_cons (pv 0) pa_nil)) (pa_cons (pe_errGet T.e7 hr (pa_cons (pv 0) pa_nil)) (pa_cons (pe_errGet T.e8 hr (pa_cons (pv 0) pa_nil)) pa_nil))))))
      (pss_cons (ps_set (i := 1) scP.nd rfl (.inl rfl) (pe_op op_cat (pv 1) (pe_lst (pa_cons (pe_errGet T.e9 hr (pa_cons (pv 0) pa_nil)) (pa_cons (pe_errGet T.e10 hr (pa_cons (pv 0) pa_nil)) (pa_cons (pe_errGet T.e11 hr (pa_cons (pv 0) pa_nil)) pa_nil))))))
      (pss_cons (ps_set (i := 1) scP.nd rfl (.inl rfl) (pe_op op_cat (pv 1) (pe_lst (pa_cons (pe_errGet T.e12 hr (pa_cons (pv 0) pa_nil)) (pa_cons (pe_errGet T.e13 hr (pa_cons (pv 0) pa_nil)) (pa_cons (pe_errGet T.e14 hr (pa_cons (pv 0) pa_nil)) pa_nil))))))
      (pss_one (ps_ret (pv 1))))))), ?_⟩
    exact all3 q
theorem ok_name {f : Addr} {fd : FuncData} (F : Fun K "_law_by_name" "_law_by_name" sName f fd) (T : Txt K mg C I Cs) : FnOk P w K mg base CX0 3 f fd ["_law_a"] spBy := by
  refine F.ok scN (fun vs H Q E h => ?_) (fun cdv A outer s H vs Q E hr h => ?_)
  · obtain ⟨x, rfl, _⟩ := h
    rfl
  · obtain ⟨x, rfl, q⟩ := h
    refine ⟨_, pss_cons (ps_set (i := 1) scN.nd rfl (.inl rfl) (pe_lst (pa_cons (pe_errGetK T.e0 hr (pk_cons (pv 0) pk_nil)) (pa_cons (pe_errGetK T.e1 hr (pk_cons (pv 0) pk_nil)) (pa_cons (pe_errGetK T.e2 hr (pk_cons (pv 0) pk_nil)) pa_nil)))))
      (pss_cons (ps_set (i := 1) scN.nd rfl (.inl rfl) (pe_op op_cat (pv 1) (pe_lst (pa_cons (pe_errGetK T.e3 hr (pk_cons (pv 0) pk_nil)) (pa_cons (pe_errGetK T.e4 hr (pk_cons (pv 0) pk_nil)) (pa_cons (pe_errGetK T.e5 hr (pk_cons (pv 0) pk_nil)) pa_nil))))))
      (pss_cons (ps_set (i := 1) scN.nd rfl (.inl rfl) (pe_op op_cat (pv 1) (pe_lst (pa_cons (pe_errGetK T.e6 hr (pk_cons (pv 0) pk_nil)) (pa_cons (pe_errGetK T.e7 hr (pk_cons (pv 0) pk_nil)) (pa_cons (pe_errGetK T.e8 hr (pk_cons (pv 0) pk_nil)) pa_nil))))))
      (pss_cons (ps_set (i := 1) scN.nd rfl (.inl rfl) (pe_op op_cat (pv 1) (pe_lst (pa_cons (pe_errGetK T.e9 hr (pk_cons (pv 0) pk_nil)) (pa_cons (pe_errGetK T.e10 hr (pk_cons (pv 0) pk_nil)) (pa_cons (pe_errGetK T.e11 hr (pk_cons (pv 0) pk_nil)) pa_nil))))))
      (pss_cons (ps_set (i := 1) scN.nd rfl (.inl rfl) (pe_op op_cat (pv 1) (pe_lst (pa_cons (pe_errGetK T.e12 hr (pk_cons (pv 0) pk_nil)) (pa_cons (pe_errGetK T.e13 hr (pk_cons (pv 0) pk_nil)) (pa_cons (pe_errGetK T.e14 hr (pk_cons (pv 0) pk_nil)) pa_nil))))))
      (pss_one (ps_ret (pv 1))))))), ?_⟩
    exact all3 q
end
/-! ### errors made and told apart -/
/-- at e a made error of the class at C -/
def ErrAt (H : Hp) (e C : Addr) : Prop := ∃ d f v, H e = some (exo e C (some d)) ∧ H d = some (.xd [(f, v)])
theorem ErrAt.same {H H' : Hp} {e C : Addr} (s : Same H H') : ErrAt H e C → ErrAt H' e C := fun ⟨d, f, v, h1, h2⟩ => ⟨d, f, v, s _ _ h1, s _ _ h2⟩
def Errs (C : Nat → Addr) (H : Hp) : Nat → List Addr → Prop
  | _, [] => True
  | i, e :: es => ErrAt H e (C i) ∧ Errs C H (i + 1) es
theorem Errs.same {C : Nat → Addr} {H H' : Hp} (s : Same H H') : ∀ {i : Nat} {es : List Addr}, Errs C H i es → Errs C H' i es
  | _, [], _ => trivial
  | _, _ :: _, ⟨h1, h2⟩ => ⟨h1.same s, Errs.same s h2⟩
theorem Errs.append {C : Nat → Addr} {H : Hp} : ∀ {i : Nat} {es zs : List Addr}, Errs C H i es → Errs C H (i + es.length) zs → Errs C H i (es ++ zs)
  | _, [], _, _, h => h
  | i, e :: es, zs, ⟨h1, h2⟩, h => ⟨h1, Errs.append h2 (by
      have z : i + 1 + es.length = i + (e :: es).length := by
        rw [List.length_cons]
        omega
      rw [z]
      exact h)⟩
theorem Errs.get {C : Nat → Addr} {H : Hp} : ∀ {i : Nat} {es : List Addr} {j : Nat} {e : Addr}, Errs C H i es → es[j]? = some e → ErrAt H e (C (i + j))
  | _, [], _, _, _, h => by simp at h
  | i, a :: es, 0, e, ⟨h1, _⟩, h => by
    have z : a = e := Option.some.inj h
    rw [← z]
    exact h1
  | i, a :: es, j + 1, e, ⟨_, h2⟩, h => by
    have z := Errs.get h2 (j := j) (e := e) h
    rw [show i + (j + 1) = i + 1 + j by omega]
    exact z
theorem made_in {H : Hp} {e d C : Addr} {f : Str} {v : V} (he : H e = none) (hd : H d = none) (ne : d ≠ e) : Same H (upd (upd H d (.xd [(f, v)])) e (exo e C (some d))) ∧ ErrAt (upd (upd H d (.xd [(f, v)])) e (exo e C (some d))) e C := by
  have n2 : upd H d (.xd [(f, v)]) e = none := by
    rw [upd_ne (fun z => ne z.symm)]
    exact he
  refine ⟨(same_upd hd).trans (same_upd n2), d, f, v, upd_same, ?_⟩
  rw [upd_ne ne]
  exact upd_same
abbrev tMk3 (C1 C2 C3 : Addr) (f1 f2 f3 : Str) : TE := tLst (tCons (tErr C1 f1 (tCons (tVar 0) tNil)) (tCons (tErr C2 f2 (tCons (tVar 0) tNil)) (tCons (tErr C3 f3 (tCons (tVar 0) tNil)) tNil)))
theorem make3 {C : Nat → Addr} {i : Nat} {f1 f2 f3 : Str} {x : V} {H : Hp} {Q : VK} {σ : L2.St} (h : ∀ es p H', es.length = 3 → Same H H' → H p = none → H' p = some (.lst (es.map V.ref)) → Errs C H' i es → Q (.ref p) H') :
    tMk3 (C i) (C (i + 1)) (C (i + 2)) f1 f2 f3 (some x :: σ) H Q := by
  refine ⟨x, rfl, x, rfl, fun e1 d1 he1 hd1 ne1 => ⟨x, rfl, x, rfl, fun e2 d2 he2 hd2 ne2 => ⟨x, rfl, x, rfl, fun e3 d3 he3 hd3 ne3 => ⟨(by show 3 ≤ sizeLine; decide), fun p np => ?_⟩⟩⟩⟩
  obtain ⟨s1, a1⟩ := made_in (f := f1) (v := x) (C := C i) he1 hd1 ne1
  obtain ⟨s2, a2⟩ := made_in (f := f2) (v := x) (C := C (i + 1)) he2 hd2 ne2
  obtain ⟨s3, a3⟩ := made_in (f := f3) (v := x) (C := C (i + 2)) he3 hd3 ne3
  have s4 := same_upd (o := .lst [.ref e1, .ref e2, .ref e3]) np
  have nn : H p = none := by
    cases z : H p with
    | none => rfl
    | some o =>
      rw [s3 _ _ (s2 _ _ (s1 _ _ z))] at np
      cases np
  exact h [e1, e2, e3] p _ rfl (s1.trans (s2.trans (s3.trans s4))) nn upd_same ⟨a1.same (s2.trans (s3.trans s4)), a2.same (s3.trans s4), a3.same s4, trivial⟩
theorem firstM {C : Nat → Addr} {i : Nat} {f1 f2 f3 : Str} {x : V} {H : Hp} {D : Ends} (h : ∀ es p H', es.length = 3 → Same H H' → H p = none → H' p = some (.lst (es.map V.ref)) → Errs C H' i es → D.nx [some x, some (.ref p)] H') :
    tAsg (tMk3 (C i) (C (i + 1)) (C (i + 2)) f1 f2 f3) (gName 1) D [some x, none] H := make3 (C := C) (i := i) (f1 := f1) (f2 := f2) (f3 := f3) (x := x) (H := H) (σ := [none]) (Q := fun y H1 => gName 1 y [some x, none] H1 D.nx) fun es p H1 a b c d e => h es p H1 a b c d e
theorem catM {C : Nat → Addr} {i : Nat} {f1 f2 f3 : Str} {x : V} {H : Hp} {p : Addr} {es : List Addr} {D : Ends} (hp : H p = some (.lst (es.map V.ref))) (he : Errs C H 0 es) (hi : es.length = i) (hl : i ≤ 100)
    (h : ∀ zs p' H', zs.length = i + 3 → Same H H' → H p' = none → H' p' = some (.lst (zs.map V.ref)) → Errs C H' 0 zs → D.nx [some x, some (.ref p')] H') :
    tAsg (tOp rCat (tVar 1) (tMk3 (C i) (C (i + 1)) (C (i + 2)) f1 f2 f3)) (gName 1) D [some x, some (.ref p)] H := by
  refine ⟨.ref p, rfl, make3 (C := C) fun zs pb H1 lz s1 nb hb hz => ⟨p, pb, es.map V.ref, zs.map V.ref, rfl, rfl, s1 _ _ hp, hb, ?_, fun p2 n2 => ?_⟩⟩
  · have z : 200 ≤ sizeLine := by decide
    rw [List.length_map, List.length_map]
    omega
  · have s2 := same_upd (o := .lst (es.map V.ref ++ zs.map V.ref)) n2
    have n3 : H p2 = none := by
      cases z : H p2 with
      | none => rfl
      | some o =>
        rw [s1 _ _ z] at n2
        cases n2
    refine h (es ++ zs) p2 _ (by rw [List.length_append]; omega) (s1.trans s2) n3 (by rw [upd_same, List.map_append]) (Errs.append (he.same (s1.trans s2)) ?_)
    rw [hi, Nat.zero_add]
    exact hz.same s2
section
variable {P : Program} {w : World} {K : PySem.W.Frag} {mg : Str → Option Value} {base : Heap} {C I : Nat → Addr} {Cs : Addr}
/-- all fifteen, made anew, in a new list -/
def spMade (C : Nat → Addr) : Sp := fun vs H Q _ => ∃ x, vs = [x] ∧ ∀ H' p es, es.length = 15 → Same H H' → H p = none → H' p = some (.lst (es.map V.ref)) → Errs C H' 0 es → Q (.ref p) H'
theorem scM : FnScope ["_law_a", "_law_found"] ["_law_a"] (defScope sMade) := ⟨rfl, rfl, rfl, by decide +kernel, rfl, by decide +kernel, by decide +kernel⟩
theorem ok_made {f : Addr} {fd : FuncData} (F : Fun K "_law_made" "_law_made" sMade f fd) (T : Txt K mg C I Cs) : FnOk P w K mg base CX0 3 f fd ["_law_a"] (spMade C) := by
  refine F.ok scM (fun vs H Q E h => ?_) (fun cdv A outer s H vs Q E hr h => ?_)
  · obtain ⟨x, rfl, _⟩ := h
    rfl
  · obtain ⟨x, rfl, q⟩ := h
    refine ⟨_, pss_cons (ps_set (i := 1) scM.nd rfl (.inl rfl) (pe_lst (pa_cons (pe_errMake T.e0 hr (pa_cons (pv 0) pa_nil)) (pa_cons (pe_errMake T.e1 hr (pa_cons (pv 0) pa_nil)) (pa_cons (pe_errMake T.e2 hr (pa_cons (pv 0) pa_nil)) pa_nil)))))
      (pss_cons (ps_set (i := 1) scM.nd rfl (.inl rfl) (pe_op op_cat (pv 1) (pe_lst (pa_cons (pe_errMake T.e3 hr (pa_cons (pv 0) pa_nil)) (pa_cons (pe_errMake T.e4 hr (pa_cons (pv 0) pa_nil)) (pa_cons (pe_errMake T.e5 hr (pa_cons (pv 0) pa_nil)) pa_nil))))))
      (pss_cons (ps_set (i := 1) scM.nd rfl (.inl rfl) (pe_op op_cat (pv 1) (pe_lst (pa_cons (pe_errMake T.e6 hr (pa_cons (pv 0) pa_nil)) (pa_cons (pe_errMake T.e7 hr (pa_cons (pv 0) pa_nil)) (pa_cons (pe_errMake T.e8 hr (pa_cons (pv 0) pa_nil)) pa_nil))))))
      (pss_cons (ps_set (i := 1) scM.nd rfl (.inl rfl) (pe_op op_cat (pv 1) (pe_lst (pa_cons (pe_errMake T.e9 hr (pa_cons (pv 0) pa_nil)) (pa_cons (pe_errMake T.e10 hr (pa_cons (pv 0) pa_nil)) (pa_cons (pe_errMake T.e11 hr (pa_cons (pv 0) pa_nil)) pa_nil))))))
      (pss_cons (ps_set (i := 1) scM.nd rfl (.inl rfl) (pe_op op_cat (pv 1) (pe_lst (pa_cons (pe_errMake T.e12 hr (pa_cons (pv 0) pa_nil)) (pa_cons (pe_errMake T.e13 hr (pa_cons (pv 0) pa_nil)) (pa_cons (pe_errMake T.e14 hr (pa_cons (pv 0) pa_nil)) pa_nil))))))
      (pss_one (ps_ret (pv 1))))))), ?_⟩
    refine firstM (C := C) (i := 0) fun es1 p1 H1 z1 s1 n1 l1 g1 => ?_
    refine catM (C := C) (i := 3) l1 g1 z1 (by decide) fun es2 p2 H2 z2 s2 n2 l2 g2 => ?_
    refine catM (C := C) (i := 6) l2 g2 z2 (by decide) fun es3 p3 H3 z3 s3 n3 l3 g3 => ?_
    refine catM (C := C) (i := 9) l3 g3 z3 (by decide) fun es4 p4 H4 z4 s4 n4 l4 g4 => ?_
    refine catM (C := C) (i := 12) l4 g4 z4 (by decide) fun es5 p5 H5 z5 s5 n5 l5 g5 => ?_
    have sm : Same H H4 := s1.trans (s2.trans (s3.trans s4))
    have nn : H p5 = none := by
      cases z : H p5 with
      | none => rfl
      | some o =>
        rw [sm _ _ z] at n5
        cases n5
    exact ⟨.ref p5, rfl, q H5 p5 es5 z5 (sm.trans s5) nn l5 g5⟩
end
end K10

namespace K10
open PySem PySem.Spec PyProof.Rows PySem.ErrX L2
section
variable {P : Program} {w : World} {K : PySem.W.Frag} {mg : Str → Option Value} {base : Heap} {C I : Nat → Addr} {Cs : Addr}
theorem Txt.err (T : Txt K mg C I Cs) : ∀ i, i < 15 → ∃ nm f fI, ErrTxt K mg nm f (C i) fI
  | 0, _ => ⟨_, _, _, T.e0⟩
  | 1, _ => ⟨_, _, _, T.e1⟩
  | 2, _ => ⟨_, _, _, T.e2⟩
  | 3, _ => ⟨_, _, _, T.e3⟩
  | 4, _ => ⟨_, _, _, T.e4⟩
  | 5, _ => ⟨_, _, _, T.e5⟩
  | 6, _ => ⟨_, _, _, T.e6⟩
  | 7, _ => ⟨_, _, _, T.e7⟩
  | 8, _ => ⟨_, _, _, T.e8⟩
  | 9, _ => ⟨_, _, _, T.e9⟩
  | 10, _ => ⟨_, _, _, T.e10⟩
  | 11, _ => ⟨_, _, _, T.e11⟩
  | 12, _ => ⟨_, _, _, T.e12⟩
  | 13, _ => ⟨_, _, _, T.e13⟩
  | 14, _ => ⟨_, _, _, T.e14⟩
  | n + 15, h => by omega
/-- how isinstance answers of an error of the class C i -/
structure Kit (K : PySem.W.Frag) (C : Nat → Addr) (Cs : Addr) : Prop where
  own : ∀ i, i < 15 → ∀ j, j < 15 → PySem.W.kitOne K (.ref (C i)) (.ref (C j)) = some (decide (i = j))
  base : ∀ i, i < 15 → PySem.W.kitOne K (.ref (C i)) (.ref Cs) = some true
  lookup : ∀ i, i < 15 → PySem.W.kitOne K (.ref (C i)) (.type "LookupError") = some false
  value : ∀ i, i < 15 → PySem.W.kitOne K (.ref (C i)) (.type "ValueError") = some false
  type : ∀ i, i < 15 → PySem.W.kitOne K (.ref (C i)) (.type "TypeError") = some false
/-- isinstance of an error against a class -/
theorem isErr {H : Hp} {e : Addr} {i : Nat} (T : Txt K mg C I Cs) (hi : i < 15) (he : ErrAt H e (C i)) {c : V} {u : Value} {b : Bool} (hc : ClsV c u) (hk : PySem.W.kitOne K (.ref (C i)) u = some b) {Q : VK} (h : Q (.bl b) H) : rIsErr K [.ref e, c] H Q := by
  obtain ⟨d, f, v, h1, h2⟩ := he
  obtain ⟨nm, f2, fI, t⟩ := T.err i hi
  exact ⟨e, C i, d, f, v, c, u, b, rfl, hc, h1, h2, ⟨mg, nm, f2, fI, t⟩, hk, h⟩
/-- isinstance(x, the class at c), x in slot 0 -/
abbrev tIs (K : PySem.W.Frag) (c : Addr) : TE := tCB (rIsErr K) (tCons (tVar 0) (tCons (tC (.ref c)) tNil))
abbrev tIs3 (K : PySem.W.Frag) (c1 c2 c3 : Addr) : TE := tLst (tCons (tIs K c1) (tCons (tIs K c2) (tCons (tIs K c3) tNil)))
def hit (i j : Nat) : V := .bl (decide (i = j))
theorem is3 {H : Hp} {e : Addr} {i : Nat} (T : Txt K mg C I Cs) (Z : Kit K C Cs) (hi : i < 15) (he : ErrAt H e (C i)) (j : Nat) (hj : j + 2 < 15) {σ : L2.St} {Q : VK} (h : ∀ p, H p = none → Q (.ref p) (upd H p (.lst [hit i j, hit i (j + 1), hit i (j + 2)]))) :
    tIs3 K (C j) (C (j + 1)) (C (j + 2)) (some (.ref e) :: σ) H Q := by
  obtain ⟨d, f, v, h1, h2⟩ := he
  obtain ⟨nm, g, fI, t⟩ := T.err i hi
  refine ⟨.ref e, rfl, e, C i, d, f, v, _, _, _, rfl, .own _, h1, h2, ⟨mg, nm, g, fI, t⟩, Z.own i hi j (by omega), ?_⟩
  refine ⟨.ref e, rfl, e, C i, d, f, v, _, _, _, rfl, .own _, h1, h2, ⟨mg, nm, g, fI, t⟩, Z.own i hi (j + 1) (by omega), ?_⟩
  refine ⟨.ref e, rfl, e, C i, d, f, v, _, _, _, rfl, .own _, h1, h2, ⟨mg, nm, g, fI, t⟩, Z.own i hi (j + 2) (by omega), ?_⟩
  exact ⟨(by show 3 ≤ sizeLine; decide), fun p np => h p np⟩
/-- an error's class by its name -/
theorem pe_cls {X : Cx} {nm f : Str} {D fI : Addr} {pos : Pos} (t : ErrTxt X.K X.mg nm f D fI) (hg : Gl X nm := by rfl) (hdb : (nm == ("__debug__" : Str)) = false := by decide) : PE X (.Name nm pos) (tC (.ref D)) :=
  pe_glob (v := .ref D) hg t.gC rfl hdb
theorem whichF {H : Hp} {e : Addr} {i : Nat} (T : Txt K mg C I Cs) (Z : Kit K C Cs) (hi : i < 15) (he : ErrAt H e (C i)) {D : Ends} (h : ∀ p H', Same H H' → H p = none → H' p = some (.lst [hit i 0, hit i 1, hit i 2]) → D.nx [some (.ref e), some (.ref p)] H') :
    tAsg (tIs3 K (C 0) (C 1) (C 2)) (gName 1) D [some (.ref e), none] H :=
  is3 T Z hi he 0 (by omega) (Q := fun y H1 => gName 1 y [some (.ref e), none] H1 D.nx) fun p np => h p _ (same_upd np) np upd_same
theorem whichM {H : Hp} {e : Addr} {i : Nat} (T : Txt K mg C I Cs) (Z : Kit K C Cs) (hi : i < 15) (he : ErrAt H e (C i)) (j : Nat) (hj : j + 2 < 15) {p : Addr} {ys : List V} {D : Ends} (hp : H p = some (.lst ys)) (hl : ys.length ≤ 100)
    (h : ∀ p' H', Same H H' → H p' = none → H' p' = some (.lst (ys ++ [hit i j, hit i (j + 1), hit i (j + 2)])) → D.nx [some (.ref e), some (.ref p')] H') :
    tAsg (tOp rCat (tVar 1) (tIs3 K (C j) (C (j + 1)) (C (j + 2)))) (gName 1) D [some (.ref e), some (.ref p)] H := by
  refine ⟨.ref p, rfl, is3 T Z hi he j hj fun pb nb => ⟨p, pb, ys, [hit i j, hit i (j + 1), hit i (j + 2)], rfl, rfl, ?_, upd_same, ?_, fun p2 n2 => ?_⟩⟩
  · rw [upd_ne (ne_of_none hp nb)]
    exact hp
  · have z : 200 ≤ sizeLine := by decide
    show ys.length + 3 ≤ sizeLine
    omega
  · have n3 : H p2 = none := by
      by_cases z : p2 = pb
      · rw [z]
        exact nb
      · rw [upd_ne z] at n2
        exact n2
    exact h p2 _ ((same_upd nb).trans (same_upd n2)) n3 upd_same
def hits (i : Nat) : List V := [hit i 0, hit i 1, hit i 2] ++ [hit i 3, hit i 4, hit i 5] ++ [hit i 6, hit i 7, hit i 8] ++ [hit i 9, hit i 10, hit i 11] ++ [hit i 12, hit i 13, hit i 14]
/-- which class an error is of -/
def spWhich (C : Nat → Addr) : Sp := fun vs H Q _ => ∃ e i, vs = [.ref e] ∧ i < 15 ∧ ErrAt H e (C i) ∧ ∀ H' p, Same H H' → H p = none → H' p = some (.lst (hits i)) → Q (.ref p) H'
theorem scW : FnScope ["_law_error", "_law_found"] ["_law_error"] (defScope sWhich) := ⟨rfl, rfl, rfl, by decide +kernel, rfl, by decide +kernel, by decide +kernel⟩
theorem ok_which {f : Addr} {fd : FuncData} (F : Fun K "_law_which" "_law_which" sWhich f fd) (T : Txt K mg C I Cs) (Z : Kit K C Cs) (mi : mg "isinstance" = none) : FnOk P w K mg base CX0 3 f fd ["_law_error"] (spWhich C) := by
  refine F.ok scW (fun vs H Q E h => ?_) (fun cdv A outer s H vs Q E hr h => ?_)
  · obtain ⟨e, i, rfl, _⟩ := h
    rfl
  · obtain ⟨e, i, rfl, hi, he, q⟩ := h
    refine ⟨_, pss_cons (ps_set (i := 1) scW.nd rfl (.inl rfl) (pe_lst (pa_cons (pe_callB call_isErr (by rfl) mi PyProof.Rows.boot_isinstance (pa_cons (pv 0) (pa_cons (pe_cls T.e0) pa_nil))) (pa_cons (pe_callB call_isErr (by rfl) mi PyProof.Rows.boot_isinstance (pa_cons (pv 0) (pa_cons (pe_cls T.e1) pa_nil))) (pa_cons (pe_callB call_isErr (by rfl) mi PyProof.Rows.boot_isinstance (pa_cons (pv 0) (pa_cons (pe_cls T.e2) pa_nil))) pa_nil)))))
      (pss_cons (ps_set (i := 1) scW.nd rfl (.inl rfl) (pe_op op_cat (pv 1) (pe_lst (pa_cons (pe_callB call_isErr (by rfl) mi PyProof.Rows.boot_isinstance (pa_cons (pv 0) (pa_cons (pe_cls T.e3) pa_nil))) (pa_cons (pe_callB call_isErr (by rfl) mi PyProof.Rows.boot_isinstance (pa_cons (pv 0) (pa_cons (pe_cls T.e4) pa_nil))) (pa_cons (pe_callB call_isErr (by rfl) mi PyProof.Rows.boot_isinstance (pa_cons (pv 0) (pa_cons (pe_cls T.e5) pa_nil))) pa_nil))))))
      (pss_cons (ps_set (i := 1) scW.nd rfl (.inl rfl) (pe_op op_cat (pv 1) (pe_lst (pa_cons (pe_callB call_isErr (by rfl) mi PyProof.Rows.boot_isinstance (pa_cons (pv 0) (pa_cons (pe_cls T.e6) pa_nil))) (pa_cons (pe_callB call_isErr (by rfl) mi PyProof.Rows.boot_isinstance (pa_cons (pv 0) (pa_cons (pe_cls T.e7) pa_nil))) (pa_cons (pe_callB call_isErr (by rfl) mi PyProof.Rows.boot_isinstance (pa_cons (pv 0) (pa_cons (pe_cls T.e8) pa_nil))) pa_nil))))))
      (pss_cons (ps_set (i := 1) scW.nd rfl (.inl rfl) (pe_op op_cat (pv 1) (pe_lst (pa_cons (pe_callB call_isErr (by rfl) mi PyProof.Rows.boot_isinstance (pa_cons (pv 0) (pa_cons (pe_cls T.e9) pa_nil))) (pa_cons (pe_callB call_isErr (by rfl) mi PyProof.Rows.boot_isinstance (pa_cons (pv 0) (pa_cons (pe_cls T.e10) pa_nil))) (pa_cons (pe_callB call_isErr (by rfl) mi PyProof.Rows.boot_isinstance (pa_cons (pv 0) (pa_cons (pe_cls T.e11) pa_nil))) pa_nil))))))
      (pss_cons (ps_set (i := 1) scW.nd rfl (.inl rfl) (pe_op op_cat (pv 1) (pe_lst (pa_cons (pe_callB call_isErr (by rfl) mi PyProof.Rows.boot_isinstance (pa_cons (pv 0) (pa_cons (pe_cls T.e12) pa_nil))) (pa_cons (pe_callB call_isErr (by rfl) mi PyProof.Rows.boot_isinstance (pa_cons (pv 0) (pa_cons (pe_cls T.e13) pa_nil))) (pa_cons (pe_callB call_isErr (by rfl) mi PyProof.Rows.boot_isinstance (pa_cons (pv 0) (pa_cons (pe_cls T.e14) pa_nil))) pa_nil))))))
      (pss_one (ps_ret (pv 1))))))), ?_⟩
    refine whichF T Z hi he fun p1 H1 s1 n1 l1 => ?_
    refine whichM T Z hi (he.same s1) 3 (by omega) l1 (by simp) fun p2 H2 s2 n2 l2 => ?_
    have t2 := s1.trans s2
    refine whichM T Z hi (he.same t2) 6 (by omega) l2 (by simp) fun p3 H3 s3 n3 l3 => ?_
    have t3 := t2.trans s3
    refine whichM T Z hi (he.same t3) 9 (by omega) l3 (by simp) fun p4 H4 s4 n4 l4 => ?_
    have t4 := t3.trans s4
    refine whichM T Z hi (he.same t4) 12 (by omega) l4 (by simp) fun p5 H5 s5 n5 l5 => ?_
    have nn : H p5 = none := by
      cases z : H p5 with
      | none => rfl
      | some o =>
        rw [t4 _ _ z] at n5
        cases n5
    exact ⟨.ref p5, rfl, q H5 p5 (t4.trans s5) nn l5⟩
end
end K10

namespace K10
open PySem PySem.Spec PyProof.Rows PySem.ErrX L2
section
variable {P : Program} {w : World} {K : PySem.W.Frag} {mg : Str → Option Value} {base : Heap}
/-- the built-in names that the law's helpers ask stand free -/
structure Blt (mg : Str → Option Value) : Prop where
  sum : mg "sum" = none
  len : mg "len" = none
  abs : mg "abs" = none
  int : mg "int" = none
theorem nz1 : (2147483629 : Int) ≠ 0 := by decide
theorem nz2 : (2147483647 : Int) ≠ 0 := by decide
theorem bit_small (b : Bool) : -(2 ^ 64) < (if b = true then (1 : Int) else 0) ∧ (if b = true then (1 : Int) else 0) < 2 ^ 64 := by cases b <;> decide
theorem mod_small (x : Int) : -(2 ^ 64) < x.fmod 2147483647 ∧ x.fmod 2147483647 < 2 ^ 64 := by
  have h1 := Int.fmod_nonneg_of_pos x (show (0 : Int) < 2147483647 by decide)
  have h2 := Int.fmod_lt_of_pos x (show (0 : Int) < 2147483647 by decide)
  omega
/-- a pool: two ints in a new list -/
def spPool (K : PySem.W.Frag) : Sp := fun vs H Q _ => ∃ (a : Addr) (ns : List Int) (k : Int), vs = [.ref a, .int k] ∧ SqL K H a (ns.map V.int) ∧ ns.length ≤ 1000 ∧ 0 ≤ k ∧ k ≤ 1000 ∧ ∀ H' p g m, Same H H' → H p = none → H' p = some (.lst [.int g, .int m]) → Q (.ref p) H'
theorem scO : FnScope ["_law_script", "_law_k", "_law_cell", "_law_great", "_law_small", "_law_mixed"] ["_law_script", "_law_k"] (defScope sPool) := ⟨rfl, rfl, rfl, by decide +kernel, rfl, by decide +kernel, by decide +kernel⟩
theorem ok_pool {f : Addr} {fd : FuncData} (F : Fun K "_law_pool" "_law_pool" sPool f fd) (T : Blt mg) : FnOk P w K mg base CX0 1 f fd ["_law_script", "_law_k"] (spPool K) := by
  refine F.ok scO (fun vs H Q E h => ?_) (fun cdv A outer s H vs Q E hr h => ?_)
  · obtain ⟨a, ns, k, rfl, _⟩ := h
    rfl
  · obtain ⟨a, ns, k, rfl, hS, hlen, k0, k1, q⟩ := h
    refine ⟨_, pss_cons (ps_set (i := 2) scO.nd rfl (.inl rfl) (pe_op op_add (pe_op op_mul pe_int (pe_callB (cr_sum rfl) (by rfl) T.sum (by decide +kernel) (pa_cons (pe_slice sl_list (pv 0) po_none (po_some pe_int)) pa_nil))) (pv 1)))
      (pss_cons (ps_if (pt_cmpR op_lt (pv 1) (pe_callB call_len_seq (by rfl) T.len PySem.boot_len (pa_cons (pv 0) pa_nil)) (nomark _)) (pss_one (ps_set (i := 2) scO.nd rfl (.inl rfl) (pe_ix ix_list (pv 0) (pv 1) (fun _ _ => rfl)))) pss_nil)
      (pss_cons (ps_set (i := 3) scO.nd rfl (.inl rfl) (pe_callB call_abs (by rfl) T.abs (by decide +kernel) (pa_cons (pe_callTy call_int1 (by rfl) T.int (by decide +kernel) (pa_cons (pv 2) pa_nil)) pa_nil)))
      (pss_cons (ps_set (i := 4) scO.nd rfl (.inl rfl) (pe_op op_modN (pe_callTy call_int1 (by rfl) T.int (by decide +kernel) (pa_cons (pv 3) pa_nil)) pe_int))
      (pss_cons (ps_set (i := 5) scO.nd rfl (.inl rfl) (pe_op op_modN (pe_callTy call_int1 (by rfl) T.int (by decide +kernel) (pa_cons (pe_op op_mul (pe_op op_add (pe_op op_add (pe_op op_add (pv 4) (pe_op op_mul (pe_op op_mul pe_int (pv 1)) (pv 1))) (pe_op op_mul pe_int (pv 1))) pe_int) pe_int) pa_nil)) pe_int))
      (pss_one (ps_ret (pe_lst (pa_cons (pe_op op_mul (pv 3) (pe_callTy call_int1 (by rfl) T.int (by decide +kernel) (pa_cons (pe_cmpR op_ge (pv 3) (pe_op op_pow pe_int pe_int) (nomark _)) pa_nil))) (pa_cons (pe_op op_modN (pe_callTy call_int1 (by rfl) T.int (by decide +kernel) (pa_cons (pe_op op_mul (pv 5) (pv 5)) pa_nil)) pe_int) pa_nil))))))))), ?_⟩
    refine ⟨.ref a, rfl, 63, rfl, a, ns.map V.int, rfl, hS, fun c nc => ?_⟩
    have nn : Same H (upd H c (.lst (cutV (ns.map V.int) none (some 63)))) := same_upd nc
    obtain ⟨ms, em⟩ : ∃ ms : List Int, cutV (ns.map V.int) none (some 63) = ms.map V.int := ⟨_, by unfold cutV; rw [← List.map_drop, ← List.map_take]⟩
    have hs : SqL K (upd H c (.lst (cutV (ns.map V.int) none (some 63)))) c (ms.map V.int) := .inl (.inl (by rw [upd_same, em]))
    have item : (decide (k < ((ns.map V.int).length : Int))) = true → atI (ns.map V.int) k = some (.int (ns.getD k.toNat 0)) := fun e => by
      have e1 := of_decide_eq_true e
      rw [List.length_map] at e1
      have e2 : k.toNat < ns.length := by omega
      have e3 : k = (k.toNat : Int) := by omega
      rw [e3]
      refine atI_nat ?_
      rw [List.getElem?_map, List.getElem?_eq_getElem e2, Int.toNat_natCast, List.getD_eq_getElem?_getD, List.getElem?_eq_getElem e2]
      rfl
    refine ⟨c, ms, rfl, hs, 11, ms.sum, rfl, rfl, .inl ⟨by decide, by decide⟩, .int k, rfl, _, _, rfl, rfl, ?_⟩
    refine ⟨.int k, rfl, .ref a, rfl, a, ns.map V.int, rfl, .inl (nn.seq hS), _, _, rfl, rfl, _, rfl, ite2 (fun e => ⟨.ref a, rfl, .int k, rfl, a, _, k, _, rfl, rfl, nn.seq hS, item e, ?_⟩) (fun e => ?_)⟩
    all_goals
      refine ⟨_, rfl, .inl ⟨_, rfl, _, rfl, ?_⟩⟩
      refine ⟨_, rfl, .inl ⟨_, rfl, _, _, rfl, rfl, nz1, ?_⟩⟩
      refine ⟨_, rfl, _, rfl, _, _, rfl, rfl, .inl ⟨by decide, by decide⟩, _, rfl, _, _, rfl, rfl, .inr ⟨by omega, by omega⟩, _, _, rfl, rfl, _, rfl, _, _, rfl, rfl, .inl ⟨by decide, by decide⟩, _, _, rfl, rfl, _, _, rfl, rfl, _, _, rfl, rfl, .inr ⟨by decide, by decide⟩, .inl ⟨_, rfl, _, _, rfl, rfl, nz2, ?_⟩⟩
      refine ⟨_, rfl, _, rfl, _, _, rfl, rfl, ⟨by decide, by decide, by decide⟩, _, _, rfl, rfl, .inr ⟨_, rfl, _, _, rfl, rfl, .inr (bit_small _), _, rfl, _, rfl, _, _, rfl, rfl, .inl (mod_small _), .inl ⟨_, rfl, _, _, rfl, rfl, nz1, ?_⟩⟩⟩
      refine ⟨(by show 2 ≤ sizeLine; decide), fun p np => ?_⟩
      have n0 : H p = none := by
        cases z : H p with
        | none => rfl
        | some o =>
          rw [nn _ _ z] at np
          cases np
      exact q _ p _ _ (nn.trans (same_upd np)) n0 upd_same
/-- a draw below many: the pool goes on -/
def spDraw : Sp := fun vs H Q _ => ∃ (p : Addr) (many g m : Int), vs = [.ref p, .int many] ∧ H p = some (.lst [.int g, .int m]) ∧ 0 < many ∧ many < 1073741824 ∧ ∀ r g' m', 0 ≤ r → r < many → Q (.int r) (upd H p (.lst [.int g', .int m']))
theorem scD : FnScope ["_law_pool_here", "_law_many", "_law_found"] ["_law_pool_here", "_law_many"] (defScope sDraw) := ⟨rfl, rfl, rfl, by decide +kernel, rfl, by decide +kernel, by decide +kernel⟩
theorem ok_draw {f : Addr} {fd : FuncData} (F : Fun K "_law_draw" "_law_draw" sDraw f fd) (T : Blt mg) : FnOk P w K mg base CX0 1 f fd ["_law_pool_here", "_law_many"] spDraw := by
  refine F.ok scD (fun vs H Q E h => ?_) (fun cdv A outer s H vs Q E hr h => ?_)
  · obtain ⟨p, many, g, m, rfl, _⟩ := h
    rfl
  · obtain ⟨p, many, g, m, rfl, hp, m0, m1, q⟩ := h
    refine ⟨_, pss_cons (ps_if (pt_cmpR op_gt (pe_ix ix_list (pv 0) pe_int (fun _ _ => rfl)) pe_int (nomark _))
        (pss_cons (ps_set (i := 2) scD.nd rfl (.inl rfl) (pe_op op_modN (pe_callTy call_int1 (by rfl) T.int (by decide +kernel) (pa_cons (pe_ix ix_list (pv 0) pe_int (fun _ _ => rfl)) pa_nil)) (pv 1)))
        (pss_cons (ps_asg (pe_op op_fdivN (pe_ix ix_list (pv 0) pe_int (fun _ _ => rfl)) (pv 1)) (pg_sub (pv 0) pe_int set_list))
        (pss_one (ps_ret (pv 2))))) pss_nil)
      (pss_cons (ps_asg (pe_op op_modN (pe_callTy call_int1 (by rfl) T.int (by decide +kernel) (pa_cons (pe_op op_add (pe_op op_mul (pe_ix ix_list (pv 0) pe_int (fun _ _ => rfl)) pe_int) pe_int) pa_nil)) pe_int) (pg_sub (pv 0) pe_int set_list))
      (pss_one (ps_ret (pe_op op_modN (pe_callTy call_int1 (by rfl) T.int (by decide +kernel) (pa_cons (pe_op op_fdiv (pe_op op_modN (pe_callTy call_int1 (by rfl) T.int (by decide +kernel) (pa_cons (pe_op op_mul (pe_ix ix_list (pv 0) pe_int (fun _ _ => rfl)) (pe_ix ix_list (pv 0) pe_int (fun _ _ => rfl))) pa_nil)) pe_int) pe_int) pa_nil)) (pv 1))))), ?_⟩
    have sq : SqL K H p [.int g, .int m] := .inl (.inl hp)
    have nz : many ≠ 0 := by omega
    have lo : ∀ x : Int, 0 ≤ x.fmod many ∧ x.fmod many < many := fun x => ⟨Int.fmod_nonneg_of_pos x m0, Int.fmod_lt_of_pos x m0⟩
    refine ⟨.ref p, rfl, p, _, 0, .int g, rfl, rfl, sq, atI_nat (j := 0) rfl, _, _, rfl, rfl, _, rfl, ite2 (fun e => ?_) (fun e => ?_)⟩
    · refine ⟨.ref p, rfl, p, _, 0, .int g, rfl, rfl, sq, atI_nat (j := 0) rfl, .inl ⟨_, rfl, .int many, rfl, _, _, rfl, rfl, nz, ?_⟩⟩
      refine ⟨.ref p, rfl, p, _, 0, .int g, rfl, rfl, sq, atI_nat (j := 0) rfl, .int many, rfl, _, _, rfl, rfl, ⟨nz, by omega⟩, .ref p, rfl, p, _, _, 0, rfl, rfl, hp, rfl, ?_⟩
      exact ⟨_, rfl, q _ _ _ (lo g).1 (lo g).2⟩
    · refine ⟨.ref p, rfl, p, _, 1, .int m, rfl, rfl, sq, atI_nat (j := 1) rfl, _, _, rfl, rfl, .inr ⟨by decide, by decide⟩, _, _, rfl, rfl, .inl ⟨_, rfl, _, _, rfl, rfl, nz2, .ref p, rfl, p, _, _, 1, rfl, rfl, hp, rfl, ?_⟩⟩
      refine ⟨.ref p, rfl, p, _, 1, _, rfl, rfl, .inl (.inl upd_same), atI_nat (j := 1) rfl, .ref p, rfl, p, _, 1, _, rfl, rfl, .inl (.inl upd_same), atI_nat (j := 1) rfl, _, _, rfl, rfl, .inl (mod_small _), .inl ⟨_, rfl, _, _, rfl, rfl, nz1, _, _, rfl, rfl, ⟨by decide, by decide⟩, .inl ⟨_, rfl, .int many, rfl, _, _, rfl, rfl, nz, ?_⟩⟩⟩
      exact q _ _ _ (lo _).1 (lo _).2
end
end K10

namespace K10
open PySem PySem.Spec PyProof.Rows PySem.ErrX L2
/-- the law's six values, and what repr tells of them -/
inductive Val6 (H : Hp) : V → Str → Prop
  | non : Val6 H .non "None"
  | int (i : Int) (h0 : 0 ≤ i) (h1 : i < 99) : Val6 H (.int i) (toString i)
  | str : Val6 H (.str "x") (reprText "x")
  | tup (a : Addr) (h : H a = some (.tup [.int 1, .int 2])) : Val6 H (.ref a) (PyData.tuple [.int 1, .int 2]).shown
  | lst (a : Addr) (h : H a = some (.lst [.str "y"])) : Val6 H (.ref a) (PyData.list [.str "y"]).shown
  | emp (a : Addr) (h : H a = some (.dK [])) : Val6 H (.ref a) "{}"
theorem Val6.same {H H' : Hp} {v : V} {T : Str} (s : Same H H') : Val6 H v T → Val6 H' v T
  | .non => .non
  | .int i h0 h1 => .int i h0 h1
  | .str => .str
  | .tup a h => .tup a (s _ _ h)
  | .lst a h => .lst a (s _ _ h)
  | .emp a h => .emp a (s _ _ h)
theorem small_log {i : Int} (h0 : 0 ≤ i) (h1 : i < 99) : i.natAbs.log2 < 1920 := by
  have a : i.natAbs < 99 := by omega
  have b : ∀ n : Nat, n < 99 → n.log2 < 1920 := by decide +kernel
  exact b _ a
theorem Val6.shw {K : PySem.W.Frag} {H : Hp} {v : V} {T : Str} : Val6 H v T → Shw K H v T
  | .non => .non
  | .int i h0 h1 => .int i (small_log h0 h1)
  | .str => .str _ (by decide +kernel)
  | .tup a h => .seq a (.tuple [.int 1, .int 2]) (.tup (.inl (.inl h)) (.cons (.int 1) (.cons (.int 2) .nil))) (by decide +kernel) (by decide +kernel) (by decide +kernel) (by decide +kernel)
  | .lst a h => .seq a (.list [.str "y"]) (.lst (.inl (.inl h)) (.cons (.str "y") .nil)) (by decide +kernel) (by decide +kernel) (by decide +kernel) (by decide +kernel)
  | .emp a h => .emp a h
theorem call_repr_in {X : Cx} {K : PySem.W.Frag} {k : Nat} (hK : X.K = K) (hg : X.A.guards = some []) (hr : Room k X.A) : CallR X (.builtin "repr") (rShw K) := hK ▸ call_repr_shw hg hr
theorem boot_rep : bootBuiltins "repr" = some (.builtin "repr") := by decide +kernel
theorem hits_count : ∀ i : Nat, i < 15 → (hits i).countP (fun z => eqV z (.bl true)) = 1 := by decide +kernel
theorem hits_flat (i : Nat) : (hits i).all flatV = true := rfl
theorem hits_at : ∀ i : Nat, i < 15 → (hits i)[i]? = some (.bl true) := by decide +kernel
theorem strs_dp {K : PySem.W.Frag} {H : Hp} {T : Str} : ∀ n : Nat, DpAll K H (List.replicate n (.str T)) (List.replicate n (.str T))
  | 0 => .nil
  | n + 1 => .cons (.str T) (strs_dp n)
section
variable {P : Program} {w : World} {K : PySem.W.Frag} {mg : Str → Option Value} {base : Heap} {C I : Nat → Addr} {Cs : Addr}
theorem num_ok : ∀ n : Nat, n < 99 → PyData.strOk (toString (n : Int) : Str) = true := by decide +kernel
theorem Val6.ok {H : Hp} {v : V} {U : Str} : Val6 H v U → PyData.strOk U = true
  | .non => by decide +kernel
  | .int i h0 h1 => by
    have e : i = (i.toNat : Int) := by omega
    rw [e]
    exact num_ok _ (by omega)
  | .str => by decide +kernel
  | .tup _ _ => by decide +kernel
  | .lst _ _ => by decide +kernel
  | .emp _ _ => by decide +kernel
theorem lay15 {U : Str} (h : PyData.strOk U = true) : (PyData.list (List.replicate 15 (.str U))).canLay0 = true := by
  simp [List.replicate, PyData.canLay0, PyData.canLayAll0, h]
theorem shaped15 {U : Str} (h : PyData.strOk U = true) : SeqAt.shaped (PyData.list (List.replicate 15 (.str U))) = true := by
  unfold SeqAt.shaped
  rw [lay15 h]
  simp [List.replicate, PyData.depth, PyData.depthAll]
/-- the law's first two tests: repr of what comes back is repr of what went in, fifteen times -/
theorem same15 {K : PySem.W.Frag} {a p : Addr} {x : V} {U : Str} {y3 y4 y5 y6 : Option V} {D : Ends} {H : Hp} (vU : Val6 H x U) (h : ∀ H', Same H H' → D.nx [some (.ref a), some (.ref p), some x, y3, y4, y5, y6] H') :
    tIfS (tTest (tOp (rNeD K) (tLc (iList K (tCall spBy [] E0 (tCons (tVar 2) tNil))) (gName 6) tYes (tCB (rShw K) (tCons (tVar 6) tNil)) [6]) (tOp rRep (tLst (tCons (tCB (rShw K) (tCons (tVar 2) tNil)) tNil)) (tC (.int 15))))) (tRet (tC (.bl false))) tNext
      D [some (.ref a), some (.ref p), some x, y3, y4, y5, y6] H := by
  refine ⟨x, rfl, x, rfl, fun H4 b s4 nb hb => ⟨b, rfl, ⟨_, .inl (.inl hb)⟩, fun Dd nD => ?_⟩⟩
  refine lc_list (K := K) (a := b) (xs := List.replicate 15 x) (fun i H5 => Same H4 H5 ∧ H5 Dd = some (.lst (List.replicate i (.str U)))) ⟨same_upd nD, upd_same⟩ (fun i H5 _ hi => .inl (.inl (hi.1 _ _ hb))) ?_ ?_
  · rintro i y H5 hy ⟨s5, hD⟩
    obtain ⟨hlt, hyx⟩ := List.getElem?_eq_some_iff.mp hy
    rw [List.getElem_replicate] at hyx
    subst hyx
    rw [List.length_replicate] at hlt
    refine ⟨rfl, x, rfl, x, U, rfl, (vU.same (s4.trans s5)).shw, _, hD, ?_, fun c o e => ?_, ?_⟩
    · have z : 200 ≤ sizeLine := by decide
      rw [List.length_replicate]
      omega
    · rw [upd_ne (ne_of_none e nD)]
      exact s5 _ _ e
    · rw [upd_same, List.replicate_succ']
  · rintro H5 ⟨s5, hD⟩
    rw [List.length_replicate] at hD
    refine ⟨x, rfl, x, U, rfl, (vU.same (s4.trans s5)).shw, (by show 1 ≤ sizeLine; decide), fun c nc => ⟨c, 15, _, rfl, rfl, upd_same, by decide, by decide, (by show 1 * 15 ≤ sizeLine; decide), fun e ne => ?_⟩⟩
    have sc := same_upd (o := .lst [.str U]) nc
    have se := same_upd (o := .lst (List.replicate (15 : Int).toNat [V.str U]).flatten) ne
    refine ⟨.list (List.replicate 15 (.str U)), .list (List.replicate 15 (.str U)), .lst (.inl (.inl (se _ _ (sc _ _ hD)))) (strs_dp 15), .lst (.inl (.inl upd_same)) (strs_dp 15), shaped15 vU.ok, shaped15 vU.ok, _, rfl, ?_⟩
    have eq : PyData.eqv (.list (List.replicate 15 (.str U))) (.list (List.replicate 15 (.str U))) = true := SeqAt.eqv_refl _ (lay15 vU.ok)
    rw [eq]
    exact h _ (s4.trans (s5.trans (sc.trans se)))
theorem scL : FnScope ["_law_script", "_law_pool_here", "_law_a", "_law_spot", "_law_error", "_law_found", "_law_one"] ["_law_script"] (defScope sLaw) := ⟨rfl, rfl, rfl, by decide +kernel, rfl, by decide +kernel, by decide +kernel⟩
def spLaw (K : PySem.W.Frag) : Sp := fun vs H Q _ => ∃ (a : Addr) (ns : List Int), vs = [.ref a] ∧ SqL K H a (ns.map V.int) ∧ ns.length ≤ 63 ∧ ∀ H', Q (.bl true) H'
/-- the names that the law itself asks -/
structure Own (mg : Str → Option Value) (Cs : Addr) : Prop where
  repr : mg "repr" = none
  enum : mg "enumerate" = none
  isi : mg "isinstance" = none
  base : mg "HasError" = some (.ref Cs)
  lookup : mg "LookupError" = none
  value : mg "ValueError" = none
  type : mg "TypeError" = none
theorem ok_law {f fO fD fP fN fW fM : Addr} {fd fdO fdD fdP fdN fdW fdM : FuncData} (F : Fun K "law" "law" sLaw f fd) (T : Txt K mg C I Cs) (Z : Kit K C Cs) (B : Blt mg) (N : Own mg Cs)
    (FO : Fun K "_law_pool" "_law_pool" sPool fO fdO) (bO : Binds K fdO ["_law_script", "_law_k"] []) (gO : mg "_law_pool" = some (.ref fO))
    (FD : Fun K "_law_draw" "_law_draw" sDraw fD fdD) (bD : Binds K fdD ["_law_pool_here", "_law_many"] []) (gD : mg "_law_draw" = some (.ref fD))
    (FP : Fun K "_law_by_position" "_law_by_position" sPos fP fdP) (bP : Binds K fdP ["_law_a"] []) (gP : mg "_law_by_position" = some (.ref fP))
    (FN : Fun K "_law_by_name" "_law_by_name" sName fN fdN) (bN : Binds K fdN ["_law_a"] []) (gN : mg "_law_by_name" = some (.ref fN))
    (FW : Fun K "_law_which" "_law_which" sWhich fW fdW) (bW : Binds K fdW ["_law_error"] []) (gW : mg "_law_which" = some (.ref fW))
    (FM : Fun K "_law_made" "_law_made" sMade fM fdM) (bM : Binds K fdM ["_law_a"] []) (gM : mg "_law_made" = some (.ref fM)) : FnG P w K mg base CX0 5 f fd ["_law_script"] (spLaw K) := by
  have GO : FnOk P w K mg base CX0 1 fO fdO ["_law_script", "_law_k"] (spPool K) := ok_pool FO B
  have GD : FnOk P w K mg base CX0 1 fD fdD ["_law_pool_here", "_law_many"] spDraw := ok_draw FD B
  have GP : FnOk P w K mg base CX0 3 fP fdP ["_law_a"] spBy := ok_pos FP T
  have GN : FnOk P w K mg base CX0 3 fN fdN ["_law_a"] spBy := ok_name FN T
  have GW : FnOk P w K mg base CX0 3 fW fdW ["_law_error"] (spWhich C) := ok_which FW T Z N.isi
  have GM : FnOk P w K mg base CX0 3 fM fdM ["_law_a"] (spMade C) := ok_made FM T
  refine F.okG0 scL (fun vs H Q E h => ?_) (fun cdv A outer s H vs Q E hr hg h => ?_)
  · obtain ⟨a, ns, rfl, _⟩ := h
    rfl
  · obtain ⟨a, ns, rfl, hS, hlen, q⟩ := h
    have h1 : Room 1 _ := hr.mono (by decide)
    have h3 : Room 3 _ := hr.mono (by decide)
    have hu := hr.units
    refine ⟨_, pss_cons (ps_set (i := 1) scL.nd rfl (.inl rfl) (pe_call GO h1 (by rfl) gO FO.kp bO .nil pass0 (pa_cons (pv 0) (pa_cons pe_int pa_nil))))
      (pss_cons (ps_for PassesOwn.never rfl (pi_list (pe_lst (pa_cons pe_non (pa_cons (pe_call GD h1 (by rfl) gD FD.kp bD .nil pass0 (pa_cons (pv 1) (pa_cons pe_int pa_nil))) (pa_cons pe_str (pa_cons (pe_tup (pa_cons pe_int (pa_cons pe_int pa_nil))) (pa_cons (pe_lst (pa_cons pe_str pa_nil)) (pa_cons pe_dnewK pa_nil)))))))) (pg_name (i := 2) scL.nd rfl (.inl rfl))
        (pss_cons (ps_if (pt_cmpR (op_neD hu) (pe_lc (own := [("_law_one", 6)]) (g := gName 6) (tt := tYes) rfl scL.nd (pi_list (pe_call GP h3 (by rfl) gP FP.kp bP .nil pass0 (pa_cons (pv 2) pa_nil))) (blkOk_by (N := ["_law_script", "_law_pool_here", "_law_a", "_law_spot", "_law_error", "_law_found", "_law_one"]) (sc := defScope sLaw) (by decide +kernel)) (fun _ _ _ _ _ => pg_name (i := 6) scL.nd rfl (Or.inl rfl)) (fun _ _ _ _ _ => pts_nil) (fun _ _ _ _ _ => pe_callB (call_repr_in (K := K) (k := 3) rfl hg h3) (by rfl) N.repr boot_rep (pa_cons (pv 6) pa_nil)))
            (pe_op op_rep (pe_lst (pa_cons (pe_callB (call_repr_in (K := K) (k := 3) rfl hg h3) (by rfl) N.repr boot_rep (pa_cons (pv 2) pa_nil)) pa_nil)) pe_int) (nomark _)) (pss_one (ps_ret pe_bl)) pss_nil)
        (pss_cons (ps_if (pt_cmpR (op_neD hu) (pe_lc (own := [("_law_one", 6)]) (g := gName 6) (tt := tYes) rfl scL.nd (pi_list (pe_call GN h3 (by rfl) gN FN.kp bN .nil pass0 (pa_cons (pv 2) pa_nil))) (blkOk_by (N := ["_law_script", "_law_pool_here", "_law_a", "_law_spot", "_law_error", "_law_found", "_law_one"]) (sc := defScope sLaw) (by decide +kernel)) (fun _ _ _ _ _ => pg_name (i := 6) scL.nd rfl (Or.inl rfl)) (fun _ _ _ _ _ => pts_nil) (fun _ _ _ _ _ => pe_callB (call_repr_in (K := K) (k := 3) rfl hg h3) (by rfl) N.repr boot_rep (pa_cons (pv 6) pa_nil)))
            (pe_op op_rep (pe_lst (pa_cons (pe_callB (call_repr_in (K := K) (k := 3) rfl hg h3) (by rfl) N.repr boot_rep (pa_cons (pv 2) pa_nil)) pa_nil)) pe_int) (nomark _)) (pss_one (ps_ret pe_bl)) pss_nil)
        (pss_one (ps_for PassesOwn.never rfl (pi_enum (by rfl) N.enum (pa_cons (pe_call GM h3 (by rfl) gM FM.kp bM .nil pass0 (pa_cons (pv 2) pa_nil)) pa_nil)) (pg_tup rfl (pgs_cons (pg_name (i := 3) scL.nd rfl (.inl rfl)) (pgs_cons (pg_name (i := 4) scL.nd rfl (.inl rfl)) pgs_nil)))
          (pss_cons (ps_if (PW.pt (pw_or (pt_not (pt_val (pe_callB call_isErr (by rfl) N.isi PyProof.Rows.boot_isinstance (pa_cons (pv 4) (pa_cons (pe_glob (v := .ref Cs) rfl N.base rfl) pa_nil))))) (pw_or1 (pt_val (pe_callB call_isErr (by rfl) N.isi PyProof.Rows.boot_isinstance (pa_cons (pv 4) (pa_cons (pe_bltn (v := .ty "LookupError") (by rfl) N.lookup (by decide +kernel) rfl) pa_nil))))))) (pss_one (ps_ret pe_bl)) pss_nil)
          (pss_cons (ps_if (PW.pt (pw_or (pt_val (pe_callB call_isErr (by rfl) N.isi PyProof.Rows.boot_isinstance (pa_cons (pv 4) (pa_cons (pe_bltn (v := .ty "ValueError") (by rfl) N.value (by decide +kernel) rfl) pa_nil)))) (pw_or1 (pt_val (pe_callB call_isErr (by rfl) N.isi PyProof.Rows.boot_isinstance (pa_cons (pv 4) (pa_cons (pe_bltn (v := .ty "TypeError") (by rfl) N.type (by decide +kernel) rfl) pa_nil))))))) (pss_one (ps_ret pe_bl)) pss_nil)
          (pss_cons (ps_set (i := 5) scL.nd rfl (.inl rfl) (pe_call GW h3 (by rfl) gW FW.kp bW .nil pass0 (pa_cons (pv 4) pa_nil)))
          (pss_one (ps_if (PW.pt (pw_or (pt_cmpR op_ne (pe_bm PySem.F.plainAttrs_list PySem.F.slot_list_count PySem.F.type_list_count mt_countF (pv 5) (pa_cons pe_bl pa_nil)) pe_int (nomark _)) (pw_or1 (pt_cmpR op_isnot_bl (pe_ix ix_list (pv 5) (pv 3) (fun _ _ => rfl)) pe_bl (nomark _))))) (pss_one (ps_ret pe_bl)) pss_nil))))))))))
      (pss_one (ps_ret pe_bl))), ?_⟩
    refine ⟨.ref a, rfl, a, ns, 0, rfl, hS, by omega, by decide, by decide, fun H1 p g m s1 n1 hp => ?_⟩
    refine ⟨.ref p, rfl, p, 99, g, m, rfl, hp, by decide, by decide, fun r g' m' r0 r1 => ⟨(by show 2 ≤ sizeLine; decide), fun t nt => ⟨(by show 1 ≤ sizeLine; decide), fun l nl => ?_⟩⟩⟩
    refine fun d nd => ⟨(by show 6 ≤ sizeLine; decide), fun z nz => ?_⟩
    obtain ⟨H2, e2⟩ : ∃ H2, H2 = upd H1 p (.lst [.int g', .int m']) := ⟨_, rfl⟩
    rw [← e2] at nt nl nd nz ⊢
    have st := same_upd (o := .tup [.int 1, .int 2]) nt
    have sl := same_upd (o := .lst [.str "y"]) nl
    have sd := same_upd (o := .dK []) nd
    have sz := same_upd (o := .lst [.non, .int r, .str "x", .ref t, .ref l, .ref d]) nz
    obtain ⟨H3, e3⟩ : ∃ H3, H3 = upd (upd (upd (upd H2 t (.tup [.int 1, .int 2])) l (.lst [.str "y"])) d (.dK [])) z (.lst [.non, .int r, .str "x", .ref t, .ref l, .ref d]) := ⟨_, rfl⟩
    have hz : H3 z = some (.lst [.non, .int r, .str "x", .ref t, .ref l, .ref d]) := by rw [e3]; exact upd_same
    have vals : ∀ (i : Nat) (x : V), ([.non, .int r, .str "x", .ref t, .ref l, .ref d] : List V)[i]? = some x → ∃ U, Val6 H3 x U := by
      intro i x hx
      rw [e3]
      match i, hx with
      | 0, hx => cases hx; exact ⟨_, .non⟩
      | 1, hx => cases hx; exact ⟨_, .int r r0 r1⟩
      | 2, hx => cases hx; exact ⟨_, .str⟩
      | 3, hx => cases hx; exact ⟨_, .tup t (sz _ _ (sd _ _ (sl _ _ upd_same)))⟩
      | 4, hx => cases hx; exact ⟨_, .lst l (sz _ _ (sd _ _ upd_same))⟩
      | 5, hx => cases hx; exact ⟨_, .emp d (sz _ _ upd_same)⟩
      | n + 6, hx => simp at hx
    rw [← e3]
    refine ⟨z, rfl, ⟨_, .inl (.inl hz)⟩, for_list (K := K) (a := z) (xs := [.non, .int r, .str "x", .ref t, .ref l, .ref d]) (fun _ σ H' => ∃ y2 y3 y4 y5 y6, σ = [some (.ref a), some (.ref p), y2, y3, y4, y5, y6] ∧ Same H3 H')
      ⟨_, _, _, _, _, rfl, fun _ _ e => e⟩ (fun i σ H' _ ⟨_, _, _, _, _, _, sm⟩ => .inl (.inl (sm _ _ hz))) ?_ ?_⟩
    · rintro i x σ H' hi ⟨y2, y3, y4, y5, y6, rfl, sm⟩
      obtain ⟨U, hU⟩ := vals i x hi
      have vU := hU.same sm
      refine same15 (K := K) vU fun H4 s4 => ?_
      refine same15 (K := K) (vU.same s4) fun H5 s5 => ?_
      refine ⟨x, rfl, x, rfl, fun H6 b es le s6 nb hb ers => ⟨b, es.map V.ref, rfl, .inl (.inl hb), for_it walk_enum (fun _ σ H' => ∃ y3 y4 y5 y6, σ = [some (.ref a), some (.ref p), some x, y3, y4, y5, y6] ∧ Same H6 H')
        ⟨_, _, _, _, rfl, fun _ _ e => e⟩ (fun i σ H' _ ⟨_, _, _, _, _, sm⟩ => .inl (.inl (sm _ _ hb))) ?_ ?_⟩⟩
      · rintro j y σ H7 H8 hj ⟨y3, y4, y5, y6, rfl, s7⟩ ⟨T2, x1, z1, rfl, nT, rfl, e1, e2⟩
        rw [List.length_map] at hj
        have hj15 : j < 15 := by omega
        cases (Option.some.inj e1)
        have e3 : (es.map V.ref)[j]? = some z1 := e2
        rw [List.getElem?_map, List.getElem?_eq_getElem hj] at e3
        cases (Option.some.inj e3)
        have sT := same_upd (o := .tup [.int (j : Nat), .ref es[j]]) nT
        obtain ⟨dd, ff, vv, k1, k2⟩ : ErrAt _ es[j] (C j) := by
          have z := (ers.same (s7.trans sT)).get (j := j) (e := es[j]) (List.getElem?_eq_getElem hj)
          rw [Nat.zero_add] at z
          exact z
        obtain ⟨nmj, fj, fIj, tj⟩ := T.err j hj15
        refine ⟨T2, _, rfl, .inl (.inl upd_same), rfl, _, _, rfl, _, [], rfl, rfl, ?_⟩
        refine ⟨_, rfl, es[j], C j, dd, ff, vv, _, _, true, rfl, .own _, k1, k2, ⟨mg, nmj, fj, fIj, tj⟩, Z.base j hj15, true, rfl, iteF ?_⟩
        refine ⟨_, rfl, es[j], C j, dd, ff, vv, _, _, false, rfl, .ty _, k1, k2, ⟨mg, nmj, fj, fIj, tj⟩, Z.lookup j hj15, false, rfl, iteF ?_⟩
        refine ⟨_, rfl, es[j], C j, dd, ff, vv, _, _, false, rfl, .ty _, k1, k2, ⟨mg, nmj, fj, fIj, tj⟩, Z.value j hj15, false, rfl, iteF ?_⟩
        refine ⟨_, rfl, es[j], C j, dd, ff, vv, _, _, false, rfl, .ty _, k1, k2, ⟨mg, nmj, fj, fIj, tj⟩, Z.type j hj15, false, rfl, iteF ?_⟩
        refine ⟨_, rfl, es[j], j, rfl, hj15, ⟨dd, ff, vv, k1, k2⟩, fun H9 bb s9 nbb hbb => ?_⟩
        refine ⟨_, rfl, .inl ⟨rfl, _, .inl (.inl hbb)⟩, bb, hits j, _, rfl, rfl, .inl (.inl hbb), rfl, hits_flat j, rfl, _, rfl, ?_⟩
        rw [hits_count j hj15]
        refine iteF ⟨_, rfl, _, rfl, bb, _, _, .bl true, rfl, rfl, .inl (.inl hbb), atI_nat (hits_at j hj15), true, true, rfl, rfl, _, rfl, iteF ?_⟩
        exact ⟨_, _, _, _, rfl, s7.trans (sT.trans s9)⟩
      · rintro σ H7 ⟨y3, y4, y5, y6, rfl, s7⟩
        exact ⟨_, _, _, _, _, rfl, sm.trans (s4.trans (s5.trans (s6.trans s7)))⟩
    · rintro σ H' ⟨y2, y3, y4, y5, y6, rfl, sm⟩
      exact q _
end
end K10

namespace K10
open PySem PySem.Spec PyProof.Rows PySem.ErrX L2
/-- an error's facts, as the head gives them -/
theorem mk_err {K : PySem.W.Frag} {h : Heap} {mg : Str → Option Value} (X : K.In h) (G : h.Ns mainGlobals mg) {nm f qual : Str} {C fI : Addr} {oc doc pm cdv ct : Value} {od an : Option Addr} {osl : Array (Option Value)} {p1 p2 q1 q2 q3 q4 : Pos}
    (fld : Fld f) (aC : PySem.W.nsIn K mainGlobals nm = some (some (.ref C))) (ini : PySem.W.excInitIn K C exTail "Exception.__new__" = true) (over : PySem.W.excOver K C exTail = true)
    (sa : PySem.W.findIn K (.ref C) "__setattr__" = some (some (.builtin "object.__setattr__"))) (ga : PySem.W.findIn K (.ref C) "__getattribute__" = some (some (.builtin "BaseException.__getattribute__"))) (gg : PySem.W.findIn K (.ref C) "__getattr__" = some none)
    (noN : PySem.W.findIn K (.ref C) f = some none) (noT : PySem.W.takerIn K C f = some none) (iC : PySem.W.findIn K (.ref C) "__init__" = some (some (.ref fI))) (tC : PySem.W.typeIn K (.ref fI) = some (.type "function")) (kC : PySem.W.keepIn K (.ref C) = true)
    (exC : PySem.W.subIn K (.ref C) (.type "BaseException") = some true) (hdC : PySem.W.hasDictIn K C = true) (clC : PySem.W.findIn K (.ref C) "__class__" = some (some (.builtin "object.__class__"))) (obC : PySem.W.mroIn K C (.type "object") = some true)
    (spC : PySem.W.specialIn K (.builtin "object.__class__") "__get__" = some (some (.builtin "getset_descriptor.__get__"))) (taC : PySem.W.takesIn K (.builtin "object.__class__") = some true)
    (lf : K.lookup fI = some ⟨oc, od, .func (PySem.W.fnOf "__init__" qual (iArgs f p1 p2) (iBody f q1 q2 q3 q4) (iScope f) .none .none doc pm an cdv ct), osl⟩) (cf : PySem.W.codeIn K cdv qual = true) : ErrTxt K mg nm f C fI :=
  ⟨fld, PySem.W.mg_of X G aC, ini, over, sa, ga, gg, noN, noT, iC, tC, kC, exC, hdC, clC, obC, spC, taC, _, _, _, _, _, _, _, _, _, _, _, _, _, _, _, lf, cf⟩
/-- the classes' answers to isinstance, all at once -/
def kitAll (K : PySem.W.Frag) (cs : List Addr) (s : Addr) : Bool := (List.range 15).all fun i => ((List.range 15).all fun j => PySem.W.kitOne K (.ref (cs.getD i 0)) (.ref (cs.getD j 0)) == some (decide (i = j))) &&
  (PySem.W.kitOne K (.ref (cs.getD i 0)) (.ref s) == some true && (PySem.W.kitOne K (.ref (cs.getD i 0)) (.type "LookupError") == some false && (PySem.W.kitOne K (.ref (cs.getD i 0)) (.type "ValueError") == some false && PySem.W.kitOne K (.ref (cs.getD i 0)) (.type "TypeError") == some false)))
theorem kit_of_all {K : PySem.W.Frag} {cs : List Addr} {s : Addr} (h : kitAll K cs s = true) : Kit K (fun i => cs.getD i 0) s := by
  have row : ∀ i, i < 15 → _ := fun i hi => List.all_eq_true.mp h i (List.mem_range.mpr hi)
  simp only [Bool.and_eq_true, beq_iff_eq] at row
  exact ⟨fun i hi j hj => beq_iff_eq.mp (List.all_eq_true.mp (row i hi).1 j (List.mem_range.mpr hj)), fun i hi => (row i hi).2.1, fun i hi => (row i hi).2.2.1, fun i hi => (row i hi).2.2.2.1, fun i hi => (row i hi).2.2.2.2⟩
theorem all_mk {l : PySem.W.OpenLaw} {w : World} {K : PySem.W.Frag} {h : Heap} {mg : Str → Option Value} {fa cs c0 i0 c1 i1 c2 i2 c3 i3 c4 i4 c5 i5 c6 i6 c7 i7 c8 i8 c9 i9 c10 i10 c11 i11 c12 i12 c13 i13 c14 i14 fO fD fP fN fW fM fL : Addr} (X : K.In h) (G : h.Ns mainGlobals mg) (hfa : mg "law" = some (.ref fa))
    {odO anO odD anD odP anP odN anN odW anW odM anM odL anL : Option Addr} {slO slD slP slN slW slM slL : Array (Option Value)} {ocO kvO dcO pmO cdO ctO ocD kvD dcD pmD cdD ctD ocP kvP dcP pmP cdP ctP ocN kvN dcN pmN cdN ctN ocW kvW dcW pmW cdW ctW ocM kvM dcM pmM cdM ctM ocL kvL dcL pmL cdL ctL : Value}
    (t0 : ErrTxt K mg "BadArgument" "value" c0 i0)
    (t1 : ErrTxt K mg "BadLine" "value" c1 i1)
    (t2 : ErrTxt K mg "BadPage" "value" c2 i2)
    (t3 : ErrTxt K mg "BadPieces" "value" c3 i3)
    (t4 : ErrTxt K mg "BadName" "value" c4 i4)
    (t5 : ErrTxt K mg "BadSigns" "value" c5 i5)
    (t6 : ErrTxt K mg "BadQuestion" "value" c6 i6)
    (t7 : ErrTxt K mg "BadPrice" "value" c7 i7)
    (t8 : ErrTxt K mg "BadDepth" "value" c8 i8)
    (t9 : ErrTxt K mg "UnknownName" "name" c9 i9)
    (t10 : ErrTxt K mg "NameTaken" "name" c10 i10)
    (t11 : ErrTxt K mg "BadPattern" "at" c11 i11)
    (t12 : ErrTxt K mg "BadText" "at" c12 i12)
    (t13 : ErrTxt K mg "LimitExceeded" "number" c13 i13)
    (t14 : ErrTxt K mg "BadCommand" "line" c14 i14)
    (kit : kitAll K [c0, c1, c2, c3, c4, c5, c6, c7, c8, c9, c10, c11, c12, c13, c14] cs = true) (aB : PySem.W.nsIn K mainGlobals "HasError" = some (some (.ref cs)))
    (aO : PySem.W.nsIn K mainGlobals "_law_pool" = some (some (.ref fO))) (lO : K.lookup fO = some ⟨ocO, odO, .func (PySem.W.fnOf "_law_pool" "_law_pool" (defArgs sPool) (defBody sPool) (defScope sPool) .none kvO dcO pmO anO cdO ctO), slO⟩) (gO : PySem.W.codeIn K cdO "_law_pool" = true) (kO : PySem.W.keepIn K (.ref fO) = true)
    (aD : PySem.W.nsIn K mainGlobals "_law_draw" = some (some (.ref fD))) (lD : K.lookup fD = some ⟨ocD, odD, .func (PySem.W.fnOf "_law_draw" "_law_draw" (defArgs sDraw) (defBody sDraw) (defScope sDraw) .none kvD dcD pmD anD cdD ctD), slD⟩) (gD : PySem.W.codeIn K cdD "_law_draw" = true) (kD : PySem.W.keepIn K (.ref fD) = true)
    (aP : PySem.W.nsIn K mainGlobals "_law_by_position" = some (some (.ref fP))) (lP : K.lookup fP = some ⟨ocP, odP, .func (PySem.W.fnOf "_law_by_position" "_law_by_position" (defArgs sPos) (defBody sPos) (defScope sPos) .none kvP dcP pmP anP cdP ctP), slP⟩) (gP : PySem.W.codeIn K cdP "_law_by_position" = true) (kP : PySem.W.keepIn K (.ref fP) = true)
    (aN : PySem.W.nsIn K mainGlobals "_law_by_name" = some (some (.ref fN))) (lN : K.lookup fN = some ⟨ocN, odN, .func (PySem.W.fnOf "_law_by_name" "_law_by_name" (defArgs sName) (defBody sName) (defScope sName) .none kvN dcN pmN anN cdN ctN), slN⟩) (gN : PySem.W.codeIn K cdN "_law_by_name" = true) (kN : PySem.W.keepIn K (.ref fN) = true)
    (aW : PySem.W.nsIn K mainGlobals "_law_which" = some (some (.ref fW))) (lW : K.lookup fW = some ⟨ocW, odW, .func (PySem.W.fnOf "_law_which" "_law_which" (defArgs sWhich) (defBody sWhich) (defScope sWhich) .none kvW dcW pmW anW cdW ctW), slW⟩) (gW : PySem.W.codeIn K cdW "_law_which" = true) (kW : PySem.W.keepIn K (.ref fW) = true)
    (aM : PySem.W.nsIn K mainGlobals "_law_made" = some (some (.ref fM))) (lM : K.lookup fM = some ⟨ocM, odM, .func (PySem.W.fnOf "_law_made" "_law_made" (defArgs sMade) (defBody sMade) (defScope sMade) .none kvM dcM pmM anM cdM ctM), slM⟩) (gM : PySem.W.codeIn K cdM "_law_made" = true) (kM : PySem.W.keepIn K (.ref fM) = true)
    (aL : PySem.W.nsIn K mainGlobals "law" = some (some (.ref fL))) (lL : K.lookup fL = some ⟨ocL, odL, .func (PySem.W.fnOf "law" "law" (defArgs sLaw) (defBody sLaw) (defScope sLaw) .none kvL dcL pmL anL cdL ctL), slL⟩) (gL : PySem.W.codeIn K cdL "law" = true) (kL : PySem.W.keepIn K (.ref fL) = true)
    (zsum : PySem.W.nsIn K mainGlobals "sum" = some none)
    (zlen : PySem.W.nsIn K mainGlobals "len" = some none)
    (zabs : PySem.W.nsIn K mainGlobals "abs" = some none)
    (zint : PySem.W.nsIn K mainGlobals "int" = some none)
    (zrepr : PySem.W.nsIn K mainGlobals "repr" = some none)
    (zenumerate : PySem.W.nsIn K mainGlobals "enumerate" = some none)
    (zisinstance : PySem.W.nsIn K mainGlobals "isinstance" = some none)
    (zLookupError : PySem.W.nsIn K mainGlobals "LookupError" = some none)
    (zValueError : PySem.W.nsIn K mainGlobals "ValueError" = some none)
    (zTypeError : PySem.W.nsIn K mainGlobals "TypeError" = some none)
    : ∃ fd : FuncData, (∀ (s : Shared) (v : Value), BindsTo s fd ⟨[v], []⟩ [("_law_script", v)]) ∧ ∀ base : Heap, K.In base → base.Ns mainGlobals mg → FnG l.prog w K mg base CX0 5 fa fd ["_law_script"] (spLaw K) := by
  have e := hfa.symm.trans (PySem.W.mg_of X G aL)
  cases e
  have T : Txt K mg (fun i => [c0, c1, c2, c3, c4, c5, c6, c7, c8, c9, c10, c11, c12, c13, c14].getD i 0) (fun i => [i0, i1, i2, i3, i4, i5, i6, i7, i8, i9, i10, i11, i12, i13, i14].getD i 0) cs := ⟨t0, t1, t2, t3, t4, t5, t6, t7, t8, t9, t10, t11, t12, t13, t14⟩
  have Z := kit_of_all kit
  have FO := fun_mk (st := sPool) lO gO kO
  have FD := fun_mk (st := sDraw) lD gD kD
  have FP := fun_mk (st := sPos) lP gP kP
  have FN := fun_mk (st := sName) lN gN kN
  have FW := fun_mk (st := sWhich) lW gW kW
  have FM := fun_mk (st := sMade) lM gM kM
  have FL := fun_mk (st := sLaw) lL gL kL
  have bO := FO.binds (ps := ["_law_script", "_law_k"]) fun _ _ _ _ _ _ us hl => match us, hl with | [_, _], _ => rfl
  have bD := FD.binds (ps := ["_law_pool_here", "_law_many"]) fun _ _ _ _ _ _ us hl => match us, hl with | [_, _], _ => rfl
  have bP := FP.binds (ps := ["_law_a"]) fun _ _ _ _ _ _ us hl => match us, hl with | [_], _ => rfl
  have bN := FN.binds (ps := ["_law_a"]) fun _ _ _ _ _ _ us hl => match us, hl with | [_], _ => rfl
  have bW := FW.binds (ps := ["_law_error"]) fun _ _ _ _ _ _ us hl => match us, hl with | [_], _ => rfl
  have bM := FM.binds (ps := ["_law_a"]) fun _ _ _ _ _ _ us hl => match us, hl with | [_], _ => rfl
  have B : Blt mg := ⟨PySem.W.mg_none_of X G zsum, PySem.W.mg_none_of X G zlen, PySem.W.mg_none_of X G zabs, PySem.W.mg_none_of X G zint⟩
  have N : Own mg cs := ⟨PySem.W.mg_none_of X G zrepr, PySem.W.mg_none_of X G zenumerate, PySem.W.mg_none_of X G zisinstance, PySem.W.mg_of X G aB, PySem.W.mg_none_of X G zLookupError, PySem.W.mg_none_of X G zValueError, PySem.W.mg_none_of X G zTypeError⟩
  exact ⟨PySem.W.fnOf "law" "law" (defArgs sLaw) (defBody sLaw) (defScope sLaw) .none kvL dcL pmL anL cdL ctL, fun s v => .of_eq rfl, fun base _ _ => ok_law FL T Z B N FO bO (PySem.W.mg_of X G aO) FD bD (PySem.W.mg_of X G aD) FP bP (PySem.W.mg_of X G aP) FN bN (PySem.W.mg_of X G aN) FW bW (PySem.W.mg_of X G aW) FM bM (PySem.W.mg_of X G aM)⟩
end K10

open PySem PySem.W PyProof.Rows
set_option maxHeartbeats 0 in
theorem PySem.Challenge.cw_surelyhas_k10_classes_of_errors_holds : PySem.Challenge.rw_surelyhas_k10_classes_of_errors.Holds := by
  w_on; o_law; k_head; (case hw => w_witness2)
  k_fill
  refine L2.walk_ofG (l := PySem.Challenge.rw_surelyhas_k10_classes_of_errors) (n := 63) (k := 5) (x := "_law_script") (sp := fun w => K10.spLaw _) rfl (by decide) rfl ⟨rfl, by decide, by decide⟩ (fun w h Y => PySem.W.kIn_of Y) ?F (fun _ _ a ns hl _ hS => ⟨a, ns, rfl, hS, hl, fun _ => rfl⟩)
  case F =>
    intro w mg fa h KX G hmg
    refine' K10.all_mk KX G hmg ?t0 ?t1 ?t2 ?t3 ?t4 ?t5 ?t6 ?t7 ?t8 ?t9 ?t10 ?t11 ?t12 ?t13 ?t14 ?kit ?aB ?aO ?lO ?gO ?kO ?aD ?lD ?gD ?kD ?aP ?lP ?gP ?kP ?aN ?lN ?gN ?kN ?aW ?lW ?gW ?kW ?aM ?lM ?gM ?kM ?aL ?lL ?gL ?kL ?zsum ?zlen ?zabs ?zint ?zrepr ?zenumerate ?zisinstance ?zLookupError ?zValueError ?zTypeError
    (case t0 => refine' K10.mk_err KX G (.inl rfl) ?aC ?ini ?over ?sa ?ga ?gg ?noN ?noT ?iC ?tC ?kC ?exC ?hdC ?clC ?obC ?spC ?taC ?lf ?cf; (case aC => k_is); (case ini => kx_is); (case over => kx_is); (case sa => k_is); (case ga => k_is); (case gg => k_is); (case noN => k_is); (case noT => k_is); (case iC => k_is); (case tC => k_is); (case kC => k_is); (case exC => k_is); (case hdC => k_is); (case clC => k_is); (case obC => k_is); (case spC => k_is); (case taC => k_is); (case lf => k_is); (case cf => k_is))
    (case t1 => refine' K10.mk_err KX G (.inl rfl) ?aC ?ini ?over ?sa ?ga ?gg ?noN ?noT ?iC ?tC ?kC ?exC ?hdC ?clC ?obC ?spC ?taC ?lf ?cf; (case aC => k_is); (case ini => kx_is); (case over => kx_is); (case sa => k_is); (case ga => k_is); (case gg => k_is); (case noN => k_is); (case noT => k_is); (case iC => k_is); (case tC => k_is); (case kC => k_is); (case exC => k_is); (case hdC => k_is); (case clC => k_is); (case obC => k_is); (case spC => k_is); (case taC => k_is); (case lf => k_is); (case cf => k_is))
    (case t2 => refine' K10.mk_err KX G (.inl rfl) ?aC ?ini ?over ?sa ?ga ?gg ?noN ?noT ?iC ?tC ?kC ?exC ?hdC ?clC ?obC ?spC ?taC ?lf ?cf; (case aC => k_is); (case ini => kx_is); (case over => kx_is); (case sa => k_is); (case ga => k_is); (case gg => k_is); (case noN => k_is); (case noT => k_is); (case iC => k_is); (case tC => k_is); (case kC => k_is); (case exC => k_is); (case hdC => k_is); (case clC => k_is); (case obC => k_is); (case spC => k_is); (case taC => k_is); (case lf => k_is); (case cf => k_is))
    (case t3 => refine' K10.mk_err KX G (.inl rfl) ?aC ?ini ?over ?sa ?ga ?gg ?noN ?noT ?iC ?tC ?kC ?exC ?hdC ?clC ?obC ?spC ?taC ?lf ?cf; (case aC => k_is); (case ini => kx_is); (case over => kx_is); (case sa => k_is); (case ga => k_is); (case gg => k_is); (case noN => k_is); (case noT => k_is); (case iC => k_is); (case tC => k_is); (case kC => k_is); (case exC => k_is); (case hdC => k_is); (case clC => k_is); (case obC => k_is); (case spC => k_is); (case taC => k_is); (case lf => k_is); (case cf => k_is))
    (case t4 => refine' K10.mk_err KX G (.inl rfl) ?aC ?ini ?over ?sa ?ga ?gg ?noN ?noT ?iC ?tC ?kC ?exC ?hdC ?clC ?obC ?spC ?taC ?lf ?cf; (case aC => k_is); (case ini => kx_is); (case over => kx_is); (case sa => k_is); (case ga => k_is); (case gg => k_is); (case noN => k_is); (case noT => k_is); (case iC => k_is); (case tC => k_is); (case kC => k_is); (case exC => k_is); (case hdC => k_is); (case clC => k_is); (case obC => k_is); (case spC => k_is); (case taC => k_is); (case lf => k_is); (case cf => k_is))
    (case t5 => refine' K10.mk_err KX G (.inl rfl) ?aC ?ini ?over ?sa ?ga ?gg ?noN ?noT ?iC ?tC ?kC ?exC ?hdC ?clC ?obC ?spC ?taC ?lf ?cf; (case aC => k_is); (case ini => kx_is); (case over => kx_is); (case sa => k_is); (case ga => k_is); (case gg => k_is); (case noN => k_is); (case noT => k_is); (case iC => k_is); (case tC => k_is); (case kC => k_is); (case exC => k_is); (case hdC => k_is); (case clC => k_is); (case obC => k_is); (case spC => k_is); (case taC => k_is); (case lf => k_is); (case cf => k_is))
    (case t6 => refine' K10.mk_err KX G (.inl rfl) ?aC ?ini ?over ?sa ?ga ?gg ?noN ?noT ?iC ?tC ?kC ?exC ?hdC ?clC ?obC ?spC ?taC ?lf ?cf; (case aC => k_is); (case ini => kx_is); (case over => kx_is); (case sa => k_is); (case ga => k_is); (case gg => k_is); (case noN => k_is); (case noT => k_is); (case iC => k_is); (case tC => k_is); (case kC => k_is); (case exC => k_is); (case hdC => k_is); (case clC => k_is); (case obC => k_is); (case spC => k_is); (case taC => k_is); (case lf => k_is); (case cf => k_is))
    (case t7 => refine' K10.mk_err KX G (.inl rfl) ?aC ?ini ?over ?sa ?ga ?gg ?noN ?noT ?iC ?tC ?kC ?exC ?hdC ?clC ?obC ?spC ?taC ?lf ?cf; (case aC => k_is); (case ini => kx_is); (case over => kx_is); (case sa => k_is); (case ga => k_is); (case gg => k_is); (case noN => k_is); (case noT => k_is); (case iC => k_is); (case tC => k_is); (case kC => k_is); (case exC => k_is); (case hdC => k_is); (case clC => k_is); (case obC => k_is); (case spC => k_is); (case taC => k_is); (case lf => k_is); (case cf => k_is))
    (case t8 => refine' K10.mk_err KX G (.inl rfl) ?aC ?ini ?over ?sa ?ga ?gg ?noN ?noT ?iC ?tC ?kC ?exC ?hdC ?clC ?obC ?spC ?taC ?lf ?cf; (case aC => k_is); (case ini => kx_is); (case over => kx_is); (case sa => k_is); (case ga => k_is); (case gg => k_is); (case noN => k_is); (case noT => k_is); (case iC => k_is); (case tC => k_is); (case kC => k_is); (case exC => k_is); (case hdC => k_is); (case clC => k_is); (case obC => k_is); (case spC => k_is); (case taC => k_is); (case lf => k_is); (case cf => k_is))
    (case t9 => refine' K10.mk_err KX G (.inr (.inl rfl)) ?aC ?ini ?over ?sa ?ga ?gg ?noN ?noT ?iC ?tC ?kC ?exC ?hdC ?clC ?obC ?spC ?taC ?lf ?cf; (case aC => k_is); (case ini => kx_is); (case over => kx_is); (case sa => k_is); (case ga => k_is); (case gg => k_is); (case noN => k_is); (case noT => k_is); (case iC => k_is); (case tC => k_is); (case kC => k_is); (case exC => k_is); (case hdC => k_is); (case clC => k_is); (case obC => k_is); (case spC => k_is); (case taC => k_is); (case lf => k_is); (case cf => k_is))
    (case t10 => refine' K10.mk_err KX G (.inr (.inl rfl)) ?aC ?ini ?over ?sa ?ga ?gg ?noN ?noT ?iC ?tC ?kC ?exC ?hdC ?clC ?obC ?spC ?taC ?lf ?cf; (case aC => k_is); (case ini => kx_is); (case over => kx_is); (case sa => k_is); (case ga => k_is); (case gg => k_is); (case noN => k_is); (case noT => k_is); (case iC => k_is); (case tC => k_is); (case kC => k_is); (case exC => k_is); (case hdC => k_is); (case clC => k_is); (case obC => k_is); (case spC => k_is); (case taC => k_is); (case lf => k_is); (case cf => k_is))
    (case t11 => refine' K10.mk_err KX G (.inr (.inr (.inl rfl))) ?aC ?ini ?over ?sa ?ga ?gg ?noN ?noT ?iC ?tC ?kC ?exC ?hdC ?clC ?obC ?spC ?taC ?lf ?cf; (case aC => k_is); (case ini => kx_is); (case over => kx_is); (case sa => k_is); (case ga => k_is); (case gg => k_is); (case noN => k_is); (case noT => k_is); (case iC => k_is); (case tC => k_is); (case kC => k_is); (case exC => k_is); (case hdC => k_is); (case clC => k_is); (case obC => k_is); (case spC => k_is); (case taC => k_is); (case lf => k_is); (case cf => k_is))
    (case t12 => refine' K10.mk_err KX G (.inr (.inr (.inl rfl))) ?aC ?ini ?over ?sa ?ga ?gg ?noN ?noT ?iC ?tC ?kC ?exC ?hdC ?clC ?obC ?spC ?taC ?lf ?cf; (case aC => k_is); (case ini => kx_is); (case over => kx_is); (case sa => k_is); (case ga => k_is); (case gg => k_is); (case noN => k_is); (case noT => k_is); (case iC => k_is); (case tC => k_is); (case kC => k_is); (case exC => k_is); (case hdC => k_is); (case clC => k_is); (case obC => k_is); (case spC => k_is); (case taC => k_is); (case lf => k_is); (case cf => k_is))
    (case t13 => refine' K10.mk_err KX G (.inr (.inr (.inr (.inl rfl)))) ?aC ?ini ?over ?sa ?ga ?gg ?noN ?noT ?iC ?tC ?kC ?exC ?hdC ?clC ?obC ?spC ?taC ?lf ?cf; (case aC => k_is); (case ini => kx_is); (case over => kx_is); (case sa => k_is); (case ga => k_is); (case gg => k_is); (case noN => k_is); (case noT => k_is); (case iC => k_is); (case tC => k_is); (case kC => k_is); (case exC => k_is); (case hdC => k_is); (case clC => k_is); (case obC => k_is); (case spC => k_is); (case taC => k_is); (case lf => k_is); (case cf => k_is))
    (case t14 => refine' K10.mk_err KX G (.inr (.inr (.inr (.inr rfl)))) ?aC ?ini ?over ?sa ?ga ?gg ?noN ?noT ?iC ?tC ?kC ?exC ?hdC ?clC ?obC ?spC ?taC ?lf ?cf; (case aC => k_is); (case ini => kx_is); (case over => kx_is); (case sa => k_is); (case ga => k_is); (case gg => k_is); (case noN => k_is); (case noT => k_is); (case iC => k_is); (case tC => k_is); (case kC => k_is); (case exC => k_is); (case hdC => k_is); (case clC => k_is); (case obC => k_is); (case spC => k_is); (case taC => k_is); (case lf => k_is); (case cf => k_is))
    (case aB => k_is)
    (case kit => kernel_rfl)
    (case aO => k_is); (case lO => k_is); (case gO => k_is); (case kO => k_is)
    (case aD => k_is); (case lD => k_is); (case gD => k_is); (case kD => k_is)
    (case aP => k_is); (case lP => k_is); (case gP => k_is); (case kP => k_is)
    (case aN => k_is); (case lN => k_is); (case gN => k_is); (case kN => k_is)
    (case aW => k_is); (case lW => k_is); (case gW => k_is); (case kW => k_is)
    (case aM => k_is); (case lM => k_is); (case gM => k_is); (case kM => k_is)
    (case aL => k_is); (case lL => k_is); (case gL => k_is); (case kL => k_is)
    (case zsum => k_is); (case zlen => k_is); (case zabs => k_is); (case zint => k_is); (case zrepr => k_is); (case zenumerate => k_is); (case zisinstance => k_is); (case zLookupError => k_is); (case zValueError => k_is); (case zTypeError => k_is)
