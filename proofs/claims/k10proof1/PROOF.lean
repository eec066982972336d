import PyProof.Rows.All
import Wide.All
import OpenK.AllK
import Wide.FinOn
import KE.GoesEnum
import KE.KMathGC
import HandS.Gcd
import HandS.Base
import HandS.Call
import HandS.Iter
import HandS.List
import HandS.Strs
import KE.KDictZip
import PyProof.ExcClass
import KE.KExcInit
import KE.KFromBytes
import KE.KExcIs
import KE.KxIndex
import HandS.ExcInit
import HandS.ExcInitHot
import HandS.ExcField
import HandS.ExcIs
import HandS.ExcCtx
import HandS.HotCalls
import HandS.ExcOwn
import HandS.OwnEq
import HandS.ForMost
import HandS.Wide
import HandS.Steps
import HandS.IsInst
import HandS.Defaults
import HandS.More
import HandS.TupAny
import HandS.Deep
import HandS.Style
import HandS.DictComp
import HandS.Property
import HandS.Records
import HandS.Walk
import HandS.Comp
import HandS.Zip
import HandS.SetKeys
import HandS.SortKw
import HandS.CallLocal
import HandS.ListItems
import HandS.WordsExc
import HandS.Words
import PyProof.EqKinds
import PyProof.NeKinds
import HandS.Head0
import HandS.Head1
import HandS.Head2
import HandS.Head3
import HandS.HeadEnd
import HandS.HeadHook1
import HandS.HeadHook2
import HandS.HeadHook3
import PySem.Challenge.RW_allornothing_k10_errors_of_names
set_option Elab.async false
set_option linter.all false
set_option maxRecDepth 100000
set_option maxHeartbeats 8000000
/-! own error classes over any built-in base (KeyError makes its objects by LookupError's __new__): what is asked of the bases in the mro is asked one by one -/
namespace PySem
namespace ErrB
open PySem.W PySem.Calls PyProof.Rows PySem.HandSPX
/-- the bases behind an own class -/
structure Mro (B : String) (bm : List Value) : Prop where
  hB : bm.contains (.type B) = true
  hA : bm.contains (.type "AttributeError") = false
  hN : bm.contains (.type "NameError") = false
  hO : bm.contains (.type "object") = true
  hE : bm.contains (.type "BaseException") = true
  ps : ∀ self : Value, refuseLoop self "__setattr__" bm = pure ()
section
variable {prog : Program} {w : World} {A : Around} {E : Value → Shared → Prop} {R : Result → Shared → Prop} {h : Heap} {g : Array GenState} {d : Drawn} {t : Nat} {os : OsState}
variable {nm q : Str} {C N : Addr} {bs bm bmB : List Value} {hdct : Bool} {sn : List Str} {sub : List Value} {ab : Bool} {col : Option Bool} {dd : Option Addr} {k0 k1 k2 k3 k5 : Option Value} {B newId initId : String}
theorem check_newM {M : Model} (F : ExcBaseFacts B newId initId bmB) (m : Mro B bm) {rest : List Value} {Q : Unit → Shared → Prop}
    (hC : h.get? C = some (excClassObj nm q C N bs bm hdct sn sub ab col dd k0 k1 k2 k3 k5 newId)) (hq : Q () ⟨h, g, d, t, os⟩) : wpAny M A (checkBuiltinCall newId ⟨.ref C :: rest, []⟩) Q E ⟨h, g, d, t, os⟩ := by
  have hcont : (Value.ref C :: bm).contains (.type B) = true := by rw [List.contains_cons, m.hB, Bool.or_true]
  have hstar := F.noStar
  simp only [checkBuiltinCall, F.newKind, F.newSplit, F.newRow]
  repeat (first | refine wpAny_loadPart_at hC ?_ | (refine wpAny_isSubtype_exc hC ?_; rw [hcont]) | refine wpAny_staticBase_exc hC ?_ | refine wpAny_madeBy_exc hC ?_ | simp only [bne_self_eq_false, Bool.false_eq_true, if_false] | wp_step)
  exact hq
theorem newM (F : ExcBaseFacts B newId initId bmB) (m : Mro B bm) {rest : List Value}
    (hC : h.get? C = some (excClassObj nm q C N bs bm hdct sn sub ab col dd k0 k1 k2 k3 k5 newId))
    (hq : R (.ok (.ret (.ref (h.objs.size + 1)))) ⟨(h.push (W.kdv_tup rest)).push (excO C h.objs.size), g, d, t, os⟩) (hrest : rest.length ≤ sizeLine) :
    codeAny (model prog w) A (.builtin newId ⟨.ref C :: rest, []⟩) R ⟨h, g, d, t, os⟩ := by
  have hends := F.ends
  have hcB : (Value.ref C :: bm).contains (.type B) = true := by rw [List.contains_cons, m.hB, Bool.or_true]
  have hcA : (Value.ref C :: bm).contains (.type "AttributeError") = false := by rw [List.contains_cons, m.hA]; rfl
  have hcN : (Value.ref C :: bm).contains (.type "NameError") = false := by rw [List.contains_cons, m.hN]; rfl
  refine codeAny_builtinAt F.entry ?_
  unfold Builtin.«BaseException.__new__»
  refine wpAt_bind ?_
  show wpAt _ _ _ (stack >>= _) _ _ _
  refine wpAt_bind (wpAt_stack fun p below => wpAt_of_wpAny ?_)
  wp_walk
  refine wpAt_of_wpAny ?_
  rw [F.owner]
  repeat (first | with_reducible refine wpAny_madeHere_exc F.canon hC ?_ | with_reducible refine wpAny_loadPart_at hC ?_ | (with_reducible refine wpAny_isSubtype_exc hC ?_; first | rw [hcB] | rw [hcA] | rw [hcN]) | wp_step)
  show R _ _
  rw [Heap.size_push]
  exact hq
theorem type_callM (F : ExcBaseFacts B newId initId bmB) (m : Mro B bm) {rest : List Value} {fI : Addr} {Q : Fin → Shared → Prop}
    (hC : h.get? C = some (excClassObj nm q C N bs bm hdct sn sub ab col dd k0 k1 k2 k3 k5 newId))
    (hi : W.Looks (model prog w) h (typeLookup (.ref C) "__init__") (some (.ref fI))) (hb : ∀ self, W.Looks (model prog w) h (bindSpecial (.ref fI) self) (.ref fI, [self])) (hrest : rest.length ≤ sizeLine)
    (hq : codeAny (model prog w) A (.call (.ref fI) ⟨.ref (h.objs.size + 1) :: rest, []⟩)
      (fun r s' => match r with | .ok (.ret v) => v = .none ∧ Q (.done (.ret (.ref (h.objs.size + 1)))) s' | .ok _ => False | .error e => E e s')
      ⟨(h.push (W.kdv_tup rest)).push (excO C h.objs.size), g, d, t, os⟩) :
    wpAny (model prog w) A (Builtin.«type.__call__» ⟨.ref C :: rest, []⟩) Q E ⟨h, g, d, t, os⟩ := by
  repeat (first | with_reducible refine wpAny_loadPart_at hC ?_ | with_reducible refine wpAny_madeBy_exc hC ?_ | wp_step)
  refine codeAny_call_builtin_code (Code.quiet_builtin _ F.quiet) (check_newM F m hC ?_)
  refine newM F m hC ?_ hrest
  show wpAny _ _ _ _ _ _
  have k : ∀ b o, h.get? b = some o → ((h.push (W.kdv_tup rest)).push (excO C h.objs.size)).get? b = some o := fun b o e => Heap.get?_push_of_some _ (Heap.get?_push_of_some _ e)
  have hC₁ := k _ _ hC
  have hget : ((h.push (W.kdv_tup rest)).push (excO C h.objs.size)).get? (h.objs.size + 1) = some (excO C h.objs.size) := by heap_get
  have hcC : (Value.ref C :: bm).contains (.ref C) = true := by simp
  have i1 := hi.keeps k
  have b1 := (hb (.ref (h.objs.size + 1))).keeps k
  unfold isInstance
  repeat (first | with_reducible refine wpAny_loadPart_at hget ?_ | (with_reducible refine wpAny_isSubtype_exc hC₁ ?_; rw [hcC]) | wp_step)
  show wpAny _ _ (typeLookup (.ref C) _) _ _ _
  refine i1.at ?_
  refine wpAny_holding (wpAny_bind (b1.at ?_))
  refine wpAny_bind (wpAny_call (codeAny_mono hq fun r s' z => ?_))
  rcases r with e | (v | _ | _ | _) <;> first | exact z | exact z.elim | skip
  obtain ⟨rfl, z⟩ := z
  first
    | exact wpAny_pure (wpAny_pure z)
    | (wp_walk; exact z)
theorem callM (F : ExcBaseFacts B newId initId bmB) (m : Mro B bm) {rest : List Value} {fI : Addr}
    (hC : h.get? C = some (excClassObj nm q C N bs bm hdct sn sub ab col dd k0 k1 k2 k3 k5 newId))
    (hi : W.Looks (model prog w) h (typeLookup (.ref C) "__init__") (some (.ref fI))) (hb : ∀ self, W.Looks (model prog w) h (bindSpecial (.ref fI) self) (.ref fI, [self])) (hrest : rest.length ≤ sizeLine)
    (hq : codeAny (model prog w) (A.under (.builtin "type.__call__" ⟨.ref C :: rest, []⟩)) (.call (.ref fI) ⟨.ref (h.objs.size + 1) :: rest, []⟩) (W.InitBack (h.objs.size + 1) R)
      ⟨(h.push (W.kdv_tup rest)).push (excO C h.objs.size), g, d, t, os⟩) :
    codeAny (model prog w) A (.call (.ref C) ⟨rest, []⟩) R ⟨h, g, d, t, os⟩ := by
  have f1 := tc_lookup
  have f2 := tc_bind (.ref C)
  have hTy : (⟨h, g, d, t, os⟩ : Shared).TypeIs (.ref C) "type" := ⟨_, hC, rfl⟩
  refine codeAny_of_tree ?_
  show wpAny _ _ (callAny (.ref C) _) _ _ _
  repeat (any_goals (first | assumption | with_reducible refine wpAny_loadPart_at hC ?_ | wp_step))
  refine ⟨rfl, ?_⟩
  refine codeAny_call_builtin_at (Code.quiet_builtin _ (by decide +kernel)) entry_typeCall (wpAny_check_type_call_sub hC (type_callM F m hC hi hb hrest ?_))
  refine codeAny_mono hq fun r s' z => ?_
  rcases r with e | (v | _ | _ | _) <;> exact z
end
abbrev tKey : List Value := [.type "KeyError", .type "LookupError", .type "Exception", .type "BaseException", .type "object"]
abbrev tRun : List Value := [.type "RuntimeError", .type "Exception", .type "BaseException", .type "object"]
theorem mro_ve {p : Addr} : Mro "ValueError" (.ref p :: veTail) :=
  ⟨by rw [List.contains_cons]; rfl, by rw [List.contains_cons]; rfl, by rw [List.contains_cons]; rfl, by rw [List.contains_cons]; rfl, by rw [List.contains_cons]; rfl, fun self => by rw [refuseLoop_ref]; exact F.store_ValueError.passes self⟩
theorem mro_key : Mro "LookupError" tKey := ⟨by decide +kernel, by decide +kernel, by decide +kernel, by decide +kernel, by decide +kernel, fun self => by kernel_rfl⟩
theorem mro_run : Mro "RuntimeError" tRun := ⟨by decide +kernel, by decide +kernel, by decide +kernel, by decide +kernel, by decide +kernel, fun self => by kernel_rfl⟩
section
open Builtin Builtin.ObjectAttr
variable {prog : Program} {w : World} {A : Around} {E : Value → Shared → Prop} {R : Result → Shared → Prop} {hp : Heap} {g : Array GenState} {d : Drawn} {t : Nat} {os : OsState}
/-- the first field of such an object -/
theorem osaM {K : W.Frag} {name : Str} {tk : Tok} {v : Value} {x C : Addr} {fv : Array Value} {cd : ClassData} {B : String} {bm : List Value}
    (X : K.In hp) (hx : hp.get? x = some { cls := .ref C, data := .fields fv }) (hcd : W.clsIn K C = some cd) (hmro : cd.mro = .ref C :: bm) (m : Mro B bm) (hh : cd.hasDict = true) (ha : W.findIn K (.ref C) name = some none)
    (hq : ∀ h' tk' dx, (∀ b o, b ≠ x → hp.get? b = some o → h'.get? b = some o) → hp.objs.size ≤ dx → dx ≠ x → h'.get? x = some { cls := .ref C, dict := some dx, data := .fields fv } →
      h'.Ns1 dx (fun y => if y = name then some v else none) → R (.ok (.ret .none)) ⟨h', g, d, tk', os⟩) :
    codeAny (model prog w) A (.call (.builtin "object.__setattr__") ⟨[.ref x, .str name tk, v], []⟩) R ⟨hp, g, d, t, os⟩ := by
  have I : W.InstAt hp x { cls := .ref C, data := .fields fv } C none := ⟨hx, rfl, rfl, trivial⟩
  have SF := F.store_object
  have ne : cd.mro.isEmpty = false := by rw [hmro]; rfl
  have hob : cd.mro.contains (.type "object") = true := by rw [hmro, List.contains_cons, m.hO, Bool.or_true]
  have hxs : x ≠ hp.objs.size := Nat.ne_of_lt (Heap.lt_size hx)
  have sub : W.Looks (model prog w) hp (isInstance (.ref x) (.type "object")) true := I.type.andThen (W.looks_mroIn X (by unfold W.mroIn; rw [hcd, Option.bind_some, if_neg (by rw [ne]; decide), hob]))
  refine codeAny_call_builtin SF.slot.plain SF.entry (@W.check_slot (model prog w) _ _ ⟨hp, g, d, t, os⟩ "object.__setattr__" "object" "__setattr__" (.ref x) [.str name tk, v] [] _ SF.kind SF.split sub (SF.args (.ref x) (.str name tk) v) ?_)
  have hmr : W.Looks (model prog w) hp (mroOf (.ref C)) cd.mro := (W.looks_clsIn X hcd).andThen .now
  have L3 : W.Looks (model prog w) hp (storeTaker? none) none := .now
  have hcls : W.Looks (model prog w) hp (classData C) cd := W.looks_clsIn X hcd
  rw [W.osa_eq, refuse_eq]
  refine wpAny_bind (wpAny_bind (I.type.at (wpAny_bind (hmr.at ?_))))
  rw [hmro, refuseLoop_ref, m.ps]
  refine wpAny_pure (wpAny_bind (I.type.at (wpAny_bind ((W.looks_findIn X ha).at (wpAny_bind (L3.at ?_))))))
  show wpAny _ _ (storeInOwnDict (.ref x) (.ref C) (.str name tk) name v false) _ _ _
  obtain ⟨nm, bs, mro, ns, qn, hd, sn, sb, ab, col, del⟩ := cd
  dsimp only at hh
  subst hh
  unfold storeInOwnDict ownDictForStores
  repeat (first | with_reducible refine store_in_new ?_ ?_ | with_reducible refine wpAny_loadPart_at hx ?_ | with_reducible refine hcls.at ?_ | wp_step)
  · exact ⟨_, #[], _, (Heap.get?_update_ne _ _ _ _ hxs.symm).trans (Heap.get?_push_at rfl rfl), rfl, fun e he => absurd he (by simp), fun _ => rfl⟩
  · intro h' tk' hn' hs
    have hx₁ : (hp.push { cls := .type "dict", data := .dict #[] }).get? x = some { cls := .ref C, data := .fields fv } := Heap.get?_push_of_some _ hx
    refine hq h' tk' hp.objs.size (fun b o hb ho => ?_) (Nat.le_refl _) hxs.symm ?_ hn'
    · exact (hs.2 b (Nat.ne_of_lt (Heap.lt_size ho))).trans ((Heap.get?_update_ne _ _ _ _ hb).trans (Heap.get?_push_of_some _ ho))
    · exact (hs.2 x hxs).trans (Heap.get?_update_self _ hx₁ rfl)
end
end ErrB
end PySem

namespace L2E
open PySem PySem.Spec PyProof.Rows L2 PySem.ErrB
/-- an own error class: its object, its own __init__, its one field -/
structure ErrC (K : PySem.W.Frag) (C fI : Addr) (f : Str) : Prop where
  base : ∃ (B newId initId : String) (bmB bm : List Value) (nm q : Str) (N : Addr) (bs : List Value) (sn : List Str) (sub : List Value) (ab : Bool) (col : Option Bool) (dd : Option Addr) (k0 k1 k2 k3 k5 : Option Value),
    ExcBaseFacts B newId initId bmB ∧ Mro B bm ∧ K.lookup C = some (excClassObj nm q C N bs bm true sn sub ab col dd k0 k1 k2 k3 k5 newId)
  sa : PySem.W.findIn K (.ref C) "__setattr__" = some (some (.builtin "object.__setattr__"))
  ty : PySem.W.typeIn K (.ref C) = some (.type "type")
  kp : PySem.W.keepIn K (.ref C) = true
  ini : PySem.W.findIn K (.ref C) "__init__" = some (some (.ref fI))
  tin : PySem.W.typeIn K (.ref fI) = some (.type "function")
  nf : PySem.W.findIn K (.ref C) f = some none
  ga : PySem.W.findIn K (.ref C) "__getattribute__" = some (some (.builtin "BaseException.__getattribute__"))
  gg : PySem.W.findIn K (.ref C) "__getattr__" = some none
  ha : PySem.W.findIn K (.ref C) "__class__" = some (some (.builtin "object.__class__"))
section
variable {K : PySem.W.Frag} {C fI : Addr} {f : Str}
theorem ErrC.cls (T : ErrC K C fI f) : ∃ (cd : ClassData) (B : String) (bm : List Value), PySem.W.clsIn K C = some cd ∧ cd.mro = .ref C :: bm ∧ Mro B bm ∧ cd.hasDict = true := by
  obtain ⟨B, newId, initId, bmB, bm, nm, q, N, bs, sn, sub, ab, col, dd, k0, k1, k2, k3, k5, F, m, hC⟩ := T.base
  exact ⟨{ name := nm, bases := bs, mro := .ref C :: bm, ns := N, qualname := q, hasDict := true, slotNames := sn, subclasses := sub, abstract := ab, collection := col, hasDel := false }, B, bm, by unfold PySem.W.clsIn; rw [hC] <;> rfl, rfl, m, rfl⟩
theorem ErrC.mro (T : ErrC K C fI f) : ∃ (B : String) (bm : List Value), Mro B bm ∧ ∀ x : Value, PySem.W.mroIn K C x = some ((Value.ref C :: bm).contains x) := by
  obtain ⟨cd, B, bm, hc, hm, m, _⟩ := T.cls
  refine ⟨B, bm, m, fun x => ?_⟩
  unfold PySem.W.mroIn
  rw [hc, Option.bind_some, hm]
  rfl
theorem ErrC.sub (T : ErrC K C fI f) : PySem.W.subIn K (.ref C) (.type "BaseException") = some true := by
  obtain ⟨B, bm, m, h⟩ := T.mro
  show PySem.W.mroIn K C _ = _
  rw [h, List.contains_cons, m.hE, Bool.or_true]
theorem ErrC.dict (T : ErrC K C fI f) : PySem.W.hasDictIn K C = true := by
  obtain ⟨cd, B, bm, hc, hm, m, hd⟩ := T.cls
  unfold PySem.W.hasDictIn
  rw [hc]
  exact hd
theorem ErrC.xfC (T : ErrC K C fI f) : XfC K C := ⟨T.ga, T.gg, T.sub, T.dict⟩
end
section
variable {X : Cx} {pins : List (Addr × Obj)} {σ : L2.St} {H : Hp} {s : Shared} {a C fI dx : Addr} {f : Str} {y : V} {u : Value} {Q : Unit → Shared → Prop} {E : Value → Shared → Prop} {A : Around}
/-- self.f = y, the first one -/
theorem ostE (T : ErrC X.K C fI f) (I : Inv X pins σ H s) (e : H a = some (exo a C none)) (ry : RelV y u)
    (h : ∀ dx s', H dx = none → dx ≠ a → Inv X pins σ (upd (upd H dx (exd dx [(f, y)])) a (exo a C (some dx))) s' → Q () s') : wpAny (model X.prog X.w) A (setAttr (.ref a) f u) Q E s := by
  obtain ⟨cd, B, bm, hcl, hm, m, hd⟩ := T.cls
  obtain ⟨t1, ho⟩ := exo_at I.hok e
  obtain ⟨hp, g, d, t, os⟩ := s
  refine PySem.W.set_plain I.kIn (ox := { cls := .ref C, dict := none, data := .fields #[.ref t1, .none, .none, .none, .bool false, .none] }) (od := none) ⟨ho, rfl, rfl, trivial⟩ T.sa ?_
  refine PySem.ErrB.osaM I.kIn ho hcl hm m hd T.nf (fun h' tk' dx k dn dne hx hn => ?_)
  have hnd : H dx = none := I.hok.fresh dn
  have old : ∀ {b : Addr} {o : Obj}, hp.get? b = some o → b ≠ dx := fun {b o} q => Nat.ne_of_lt (Nat.lt_of_lt_of_le (Heap.lt_size q) dn)
  have off : ∀ {b : Addr}, H b = none → b ≠ a := fun {b} n z => by
    rw [z, e] at n
    cases n
  have at_ : ∀ {b : Addr} {o : HO}, H b = some o → o ≠ exo a C none → upd (upd H dx (exd dx [(f, y)])) a (exo a C (some dx)) b = some o := fun {b o} q n => by
    rw [upd_ne (at_ne e q fun z => n z.symm), upd_ne (ne_of_none q hnd)]
    exact q
  have Un1 : Un X.fs [] H (upd (upd H dx (exd dx [(f, y)])) a (exo a C (some dx))) hp h' := {
    keep := fun b o q n _ _ => k b o (off n) q
    slot := fun b o q n _ _ => ⟨o.slots, k b o (off n) q⟩
    free := fun b o q n _ => by rw [upd_ne (off n), upd_ne (old q)]; exact n
    there := fun b o q _ => by
      by_cases hb : b = a
      · exact ⟨_, by rw [hb]; exact hx⟩
      · exact ⟨o, k b o hb q⟩
    tups := fun b xs q => at_ q fun z => exo_tup z.symm
    frzs := fun b o v q => at_ q fun z => exo_frz z.symm
    tbls := fun b ps q => ⟨#[], by rw [at_ q fun z => exo_tbl z.symm]; simp⟩ }
  refine h dx _ hnd dne (I.un (t' := tk') Un1 fun b o q => ?_)
  by_cases hb : b = a
  · subst hb
    rw [upd_same] at q
    cases q
    exact exo_ok hx
  · rw [upd_ne hb] at q
    by_cases hd : b = dx
    · subst hd
      rw [upd_same] at q
      cases q
      exact exd_ok hn (relO_put (fs := []) ry fun g => True.intro)
    · rw [upd_ne hd] at q
      exact (I.hok b o q).stay (fun c v hc z => k c v (by
          rcases hc with hc | hc
          · rw [hc]
            exact hb
          · exact at_ne e hc exo_own) z)
        (fun c hc => at_ hc fun z => exo_own z.symm) (fun c xs hc => at_ hc fun z => exo_tup z.symm)
end
/-- self.f = e within the __init__ of an error of the class at C -/
def tOstE (K : PySem.W.Frag) (C fI : Addr) (f : Str) (to te : TE) : TS := fun D σ H => te σ H fun y H1 => to σ H1 fun x H2 => ∃ a : Addr, x = .ref a ∧ H2 a = some (exo a C none) ∧ ∀ dx, H2 dx = none → dx ≠ a → D.nx σ (upd (upd H2 dx (exd dx [(f, y)])) a (exo a C (some dx)))
theorem ps_ostE {X : Cx} {C fI : Addr} {o e : Expr} {to te : TE} {f : Str} {p' pos : Pos} (T : ErrC X.K C fI f) (ho : PE X o to) (he : PE X e te) (hs : swapsWith e (some (.Attribute o f p')) pos.line X.env = pure false := by rfl) : PS X (.Assign [.Attribute o f p'] e pos) (tOstE X.K C fI f to te) := by
  refine ⟨fun pins s σ H D I h => ?_⟩
  refine plainObj_wpAny_Assign_Attribute (thn (he.run pins s σ H _ I h) fun v s1 ⟨y, H1, I1, r1, q1⟩ => thn (ho.run pins s1 σ H1 _ I1 q1) fun u s2 ⟨x, H2, I2, r2, a, ex, ea, q⟩ => ?_) hs
  subst ex
  obtain rfl : u = Value.ref a := r2
  exact ostE T I2 ea r1 fun dx s' n ne J => ⟨σ, _, J, q dx n ne⟩
/-- the promise of the __init__ of an error -/
def spErr (C : Addr) (f : Str) : Sp := fun vs H Q _ => ∃ (a : Addr) (v : V), vs = [.ref a, v] ∧ H a = some (exo a C none) ∧ ∀ dx, H dx = none → dx ≠ a → Q .non (upd (upd H dx (exd dx [(f, v)])) a (exo a C (some dx)))
theorem made_eq {H : Hp} {a C dx : Addr} {f : Str} {v : V} (na : H a = none) : upd (del (upd (upd (upd H a (exo a C none)) dx (exd dx [(f, v)])) a (exo a C (some dx))) a) dx (.xd [(f, v)]) = upd H dx (.xd [(f, v)]) := by
  funext b
  by_cases hd : b = dx
  · rw [hd, upd_same, upd_same]
  · rw [upd_ne hd, upd_ne hd]
    by_cases hb : b = a
    · rw [hb, del_same, na]
    · rw [del_ne hb, upd_ne hb, upd_ne hd, upd_ne hb]
/-- C(e) made, its context None -/
def tMkE (C : Addr) (f : Str) (ta : TA) : L2.St → Hp → XK → Prop := fun σ H Q => ta σ H fun vs H1 => ∃ v, vs = [v] ∧ ∀ d, H1 d = none → Q (.ref C) (some d) (upd H1 d (.xd [(f, v)]))
theorem pmk_err {X : Cx} {CX : CXT} {x : Str} {C fI : Addr} {f : Str} {k : Nat} {fd : FuncData} {ps : List Str} {e : Expr} {es : List Expr} {ta : TA} {p pos : Pos} (T : ErrC X.K C fI f)
    (F1 : FnOk X.prog X.w X.K X.mg X.base CX k fI fd ps (spErr C f)) (hr : Room (k + 1) X.A) (hb : Binds X.K fd ps []) (hx : Passes CX X (fun _ _ _ => False)) (hg : Gl X x) (hm : X.mg x = some (.ref C)) (ha : PA X (e :: es) ta)
    (hdb : (x == ("__debug__" : Str)) = false := by decide) (hs : starEach (e :: es) X.env = (false, eval e X.env) :: starEach es X.env := by rfl) (hpl : (backTo pos (starEach es X.env)).any (·.1) = false := by rfl) :
    L2N.PMk X (.Call (.Name x p) (e :: es) [] pos) (tMkE C f ta) := by
  intro pins s σ H Q I h
  obtain ⟨B, newId, initId, bmB, bm, nm, q, N, bs, sn, sub, ab, col, dd, k0, k1, k2, k3, k5, FB, m, hC⟩ := T.base
  refine wpAny_Call_Name_kw (ld_glob I hg hm ?_ hdb)
  refine PySem.W.callWith_K (h₀ := X.base) I.ok.mod.kin T.kp (thn (ha.run pos pins s σ H _ I h) fun us s1 ⟨vs, H1, I1, r1, v, ev, q1⟩ => ⟨I1.kIn, ?_⟩) hs hpl
  subst ev
  show wpAny _ _ (call (.ref C) us) _ _ _
  obtain ⟨hp, g, dr, tk, os⟩ := s1
  have hsz : hp.objs.size ≤ hp.objs.size + 1 := Nat.le_succ _
  have hn : H1 (hp.objs.size + 1) = none := I1.hok.fresh hsz
  have hus : us.length = 1 := (Paired.length r1).symm
  have kk : ∀ b o, hp.get? b = some o → ((hp.push (PySem.W.kdv_tup us)).push (PySem.HandSPX.excO C hp.objs.size)).get? b = some o := fun b o e => Heap.get?_push_of_some _ (Heap.get?_push_of_some _ e)
  have hget : ((hp.push (PySem.W.kdv_tup us)).push (PySem.HandSPX.excO C hp.objs.size)).get? (hp.objs.size + 1) = some (PySem.HandSPX.excO C hp.objs.size) := by heap_get
  have I2 : Inv X pins σ (upd H1 (hp.objs.size + 1) (exo (hp.objs.size + 1) C none)) ⟨(hp.push (PySem.W.kdv_tup us)).push (PySem.HandSPX.excO C hp.objs.size), g, dr, tk, os⟩ := I1.laid (t' := tk) kk hsz (exo_ok hget)
  have hq : spErr C f [V.ref (hp.objs.size + 1), v] (upd H1 (hp.objs.size + 1) (exo (hp.objs.size + 1) C none))
      (fun w H2 => w = .non ∧ ∃ d, H1 d = none ∧ d ≠ hp.objs.size + 1 ∧ H2 = upd (upd (upd H1 (hp.objs.size + 1) (exo (hp.objs.size + 1) C none)) d (exd d [(f, v)])) (hp.objs.size + 1) (exo (hp.objs.size + 1) C (some d))) (fun _ _ _ => False) :=
    ⟨_, v, rfl, upd_same, fun d hd ne => ⟨rfl, d, by rw [upd_ne ne] at hd; exact hd, ne, rfl⟩⟩
  have r2 : Vals [V.ref (hp.objs.size + 1), v] (Value.ref (hp.objs.size + 1) :: us) := .cons rfl r1
  have hl : (Value.ref (hp.objs.size + 1) :: us ++ []).length = ps.length := by
    rw [← F1.len _ _ _ _ hq, List.append_nil, List.length_cons, hus]
    rfl
  have b2 := hb _ (Value.ref (hp.objs.size + 1) :: us) I2.kIn hl
  rw [List.append_nil] at b2
  refine wpAny_call (PySem.ErrB.callM FB m (I1.kIn _ _ hC) (PySem.W.looks_findIn I1.kIn T.ini) (fun self => PySem.W.bind_fn I1.kIn self T.tin) (by rw [hus, sizeLine_eq]; omega)
    (codeAny_mono (F1.run _ X.stack _ _ ⟨Value.ref (hp.objs.size + 1) :: us, []⟩ (Value.ref (hp.objs.size + 1) :: us) _ _ (fun _ _ _ => False) (hr.make C us []) (I2.env0.make C us []) b2 r2 hq) fun r s' hq' => ?_))
  cases r with
  | error er => exact hx pins σ _ _ er s' I2 hq'
  | ok fl =>
    cases fl with
    | ret u =>
      obtain ⟨w, H2, os2, bare2, un2, hok2, rv, ew, d, hd, hda, eH⟩ := hq'
      subst ew eH
      obtain ⟨h2, g2, d2, t2, os'⟩ := s'
      obtain ⟨t0, G, J, kG, ge, hoe, na⟩ := mk_end0 (d2 := d2) (t2 := t2) (d := d) (fs := [(f, v)]) I1 hsz kk un2 hok2 os2 bare2 upd_same (by rw [upd_ne hda, upd_same]) hd
      refine ⟨rv, hp.objs.size + 1, _, _, ⟨G, g2, d2, t2, os'⟩, _, .ref C, some d, rfl, J, kG, ge, hoe, ⟨rfl, rfl, fun vs hv => ?_⟩, rfl, rfl, na, rfl, bare2, raises_own T.sub T.ty, ?_⟩
      · cases hv
        rfl
      · rw [made_eq hn]
        exact q1 d hd
    | next => exact False.elim hq'
    | brk => exact False.elim hq'
    | cont => exact False.elim hq'
/-! ### isinstance of an exception at hand -/
/-- the world's part of it -/
structure ClsRd (K : PySem.W.Frag) : Prop where
  hn : PySem.W.specialIn K (.builtin "object.__class__") "__get__" = some (some (.builtin "getset_descriptor.__get__"))
  ht : PySem.W.takesIn K (.builtin "object.__class__") = some true
/-- isinstance(e, c), e the exception at a, of the class at D, its dict at dd -/
def rIsX (K : PySem.W.Frag) (D a dd : Addr) : List V → Hp → VK → Prop := fun xs H Q => ∃ (c : V) (cv : Value) (b : Bool) (fs : List (Str × V)), xs = [.ref a, c] ∧ (∀ u, RelV c u → u = cv) ∧ PySem.W.kitOne K (.ref D) cv = some b ∧ H dd = some (.xd fs) ∧ Q (.bl b) H
theorem call_isX {X : Cx} {a D fI dd : Addr} {f : Str} {oe : Obj} (T : ErrC X.K D fI f) (R : ClsRd X.K) (hp : (a, oe) ∈ X.pn) (hz : Zc (.ref D) (some dd) oe) (hf : ∃ vs, oe.data = .fields vs) : CallR X (.builtin "isinstance") (rIsX X.K D a dd) := by
  intro pins s σ H xs us Q I r h
  obtain ⟨c, cv, b, fs, rfl, hcv, e, ed, q⟩ := h
  cases r with
  | cons rx rr =>
    cases rr with
    | cons rt rr =>
      cases rr
      cases rx
      have ec := hcv _ rt
      subst ec
      obtain ⟨hget, _⟩ := I.pin (a, oe) (List.mem_append.mpr (.inl hp))
      have hx : ObjOk X.prog X.w H s.heap dd (.xd fs) := I.hok dd _ ed
      obtain ⟨mA, hns, hr⟩ := hx
      obtain ⟨od, ho, hl⟩ := lookIn_ns hns
      obtain ⟨vs, hd⟩ := hf
      have J : PySem.W.InstAt s.heap a oe D (some od) := ⟨hget, hz.1, by unfold PySem.W.notCls; rw [hd] <;> rfl, by rw [hz.2]; exact ho⟩
      obtain ⟨cd, B, bm, hc, hm, m, hdd⟩ := T.cls
      have hmro : PySem.W.mroIn X.K D (.type "object") = some true := by
        obtain ⟨B, bm, m, hh⟩ := T.mro
        rw [hh, List.contains_cons, m.hO, Bool.or_true]
      exact PySem.W.kia_one (PySem.W.kitx_exc (by rw [hc]; rfl) T.ga T.gg T.sub T.ha R.hn R.ht hmro) I.kIn J e (fun z => nomatch z) fun tk => ⟨.bl b, H, I.kept (t' := tk) fun _ _ z => z, rfl, q⟩
/-! ### one class against another -/
theorem ErrC.sub_ref {K : PySem.W.Frag} {C fI : Addr} {f : Str} (T : ErrC K C fI f) (x : Value) : ∃ (B : String) (bm : List Value), Mro B bm ∧ PySem.W.subIn K (.ref C) x = some ((Value.ref C :: bm).contains x) := by
  obtain ⟨B, bm, m, h⟩ := T.mro
  exact ⟨B, bm, m, h x⟩
theorem sub_of {K : PySem.W.Frag} {C : Addr} {bm : List Value} {newId : String} {nm q : Str} {N : Addr} {bs : List Value} {hd : Bool} {sn : List Str} {sub : List Value} {ab : Bool} {col : Option Bool} {dd : Option Addr} {k0 k1 k2 k3 k5 : Option Value}
    (hC : K.lookup C = some (excClassObj nm q C N bs bm hd sn sub ab col dd k0 k1 k2 k3 k5 newId)) (x : Value) : PySem.W.subIn K (.ref C) x = some ((Value.ref C :: bm).contains x) := by
  show PySem.W.mroIn K C x = _
  unfold PySem.W.mroIn PySem.W.clsIn
  rw [hC]
  rfl
/-- a class that a clause may name -/
structure ClsP (K : PySem.W.Frag) (C : Addr) : Prop where
  is : (PySem.W.clsIn K C).isSome = true
  sb : PySem.W.subIn K (.ref C) (.type "BaseException") = some true
  ty : PySem.W.typeIn K (.ref C) = some (.type "type")
theorem ErrC.clsP {K : PySem.W.Frag} {C fI : Addr} {f : Str} (T : ErrC K C fI f) : ClsP K C := by
  obtain ⟨cd, B, bm, hc, _⟩ := T.cls
  exact ⟨by rw [hc]; rfl, T.sub, T.ty⟩
theorem ClsP.kit {K : PySem.W.Frag} {C : Addr} {cls : Value} {b : Bool} (p : ClsP K C) (h : PySem.W.subIn K cls (.ref C) = some b) : PySem.W.kitCls K cls (.ref C) = some b := by
  have e : ((PySem.W.clsIn K C).isSome && PySem.W.typeIn K (.ref C) == some (.type "type")) = true := by rw [p.is, p.ty] <;> rfl
  show (if ((PySem.W.clsIn K C).isSome && PySem.W.typeIn K (.ref C) == some (.type "type")) = true then PySem.W.subIn K cls (.ref C) else none) = some b
  rw [if_pos e]
  exact h
theorem ClsP.exm {K : PySem.W.Frag} {C : Addr} {cls : Value} {b : Bool} (p : ClsP K C) (h : PySem.W.subIn K cls (.ref C) = some b) : PySem.W.exmOne K cls (.ref C) = some b := by
  have e : (PySem.W.subIn K (.ref C) (.type "BaseException") == some true) = true := by rw [p.sb] <;> rfl
  unfold PySem.W.exmOne
  rw [if_pos e]
  exact p.kit h
theorem ClsP.one {K : PySem.W.Frag} {C : Addr} {cls : Value} {b : Bool} (p : ClsP K C) (h : PySem.W.subIn K cls (.ref C) = some b) (hs : cls = .ref C → b = true) : PySem.W.kitOne K cls (.ref C) = some b := by
  unfold PySem.W.kitOne
  by_cases e : (cls == Value.ref C) = true
  · rw [if_pos e, hs (beq_iff_eq.mp e)]
  · rw [if_neg e]
    exact p.kit h
theorem kit_type {K : PySem.W.Frag} {cls : Value} {T : String} {b : Bool} (hm : PySem.W.kitMeta T = true) (hn : (cls == Value.type T) = false) (h : PySem.W.subIn K cls (.type T) = some b) : PySem.W.kitOne K cls (.type T) = some b := by
  unfold PySem.W.kitOne
  rw [hn, if_neg Bool.false_ne_true]
  show (if PySem.W.kitMeta T = true then PySem.W.subIn K cls (.type T) else none) = some b
  rw [if_pos hm]
  exact h
/-! ### the test of an except clause: a class, or a tuple of classes -/
section
variable {M : Model} {A : Around} {E : Value → Shared → Prop} {s : Shared} {β : Type}
theorem loopA {f : Value → β → Sem (ForInStep β)} {x : β} {Q : β → Shared → Prop} : ∀ {cs : List Value}, (∀ c ∈ cs, ∀ Q' : ForInStep β → Shared → Prop, Q' (.yield x) s → wpAny M A (f c x) Q' E s) → Q x s → wpAny M A (forIn cs x f) Q E s
  | [], _, q => wpAny_pure q
  | c :: cs, hf, q => by
    rw [List.forIn_cons]
    exact wpAny_bind (hf c (List.mem_cons_self ..) _ (loopA (fun c' h => hf c' (List.mem_cons_of_mem _ h)) q))
theorem loopB {f : Value → β → Sem (ForInStep β)} {x y : β} {g : Value → Bool} {Q : β → Shared → Prop} : ∀ {cs : List Value}, (∀ c ∈ cs, ∀ Q' : ForInStep β → Shared → Prop, Q' (if g c then .done y else .yield x) s → wpAny M A (f c x) Q' E s) → Q (if cs.any g then y else x) s → wpAny M A (forIn cs x f) Q E s
  | [], _, q => wpAny_pure q
  | c :: cs, hf, q => by
    rw [List.forIn_cons]
    refine wpAny_bind (hf c (List.mem_cons_self ..) _ ?_)
    rw [List.any_cons] at q
    cases e : g c with
    | true =>
      rw [e] at q
      exact wpAny_pure q
    | false =>
      rw [e] at q
      exact loopB (fun c' h => hf c' (List.mem_cons_of_mem _ h)) q
end
/-- the class of an exception against a list of classes -/
def anyOf (K : PySem.W.Frag) (cls : Value) (cs : List Value) (b : Bool) : Prop := (∀ c ∈ cs, ∃ v, PySem.W.exmOne K cls c = some v) ∧ b = cs.any fun c => PySem.W.exmOne K cls c == some true
theorem exm_tupN {M : Model} {K : PySem.W.Frag} {cs : List Value} {cls : Value} {tp e : Addr} {b : Bool} {h : Heap} (X : K.In h) (LT : PySem.W.Looks M h (typeOf (.ref e)) cls) (hp : h.get? tp = some { cls := .type "tuple", data := .seq cs.toArray }) (hx : anyOf K cls cs b) :
    PySem.W.Looks M h (excMatches (.ref e) (.ref tp)) b := by
  intro A Q E s k₀ q
  obtain ⟨hh, g, d, tk, os⟩ := s
  have k : ∀ b o, h.get? b = some o → hh.get? b = some o := k₀
  have LT0 : PySem.W.Looks M h (isInstance (.ref tp) (.type "tuple")) true := ((PySem.W.Looks.ld hp).andThen .now).andThen (PySem.W.Looks.of_pure isSubtype_tuple_tuple)
  have LT := LT.keeps k
  have LT0 := LT0.keeps k
  have hp' := k _ _ hp
  obtain ⟨hall, hb⟩ := hx
  unfold excMatches
  refine wpAny_bind (LT0.at ?_)
  dsimp only
  rw [if_pos rfl]
  first
    | refine wpAny_bind (wpAny_seqItems hp' rfl ?_)
    | refine wpAny_bind (wpAny_bind (wpAny_seqItems hp' rfl (wpAny_pure ?_)))
  dsimp only [Option.getD_some, Option.getD]
  refine wpAny_bind (wpAny_pure ?_)
  refine wpAny_bind (loopA (fun c hc Q' hq => ?_) ?_)
  · obtain ⟨v, e1⟩ := hall c hc
    obtain ⟨e2, _⟩ := PySem.W.exm_cls (M := M) X e1
    have e2 := e2.keeps k
    refine wpAny_bind (e2.here ?_)
    exact wpAny_pure hq
  refine wpAny_bind (LT.here ?_)
  refine wpAny_bind (loopB (g := fun c => PySem.W.exmOne K cls c == some true) (y := (some true, ())) (fun c hc Q' hq => ?_) ?_)
  · obtain ⟨v, e1⟩ := hall c hc
    obtain ⟨_, S1⟩ := PySem.W.exm_cls (M := M) X e1
    have S1 := S1.keeps k
    refine wpAny_bind (S1.here ?_)
    rw [e1] at hq
    cases v with
    | true => exact wpAny_pure hq
    | false => exact wpAny_pure hq
  rw [← hb]
  cases b with
  | true => exact wpAny_pure q
  | false => exact wpAny_pure q
end L2E
namespace L2E
open PySem PySem.Spec PyProof.Rows L2
/-! ### except clauses, each one class or a tuple of classes, each as n -/
inductive NamesL (X : Cx) : List Expr → List Value → Prop
  | nil : NamesL X [] []
  | cons {x : Str} {c : Value} {es : List Expr} {cs : List Value} {np : Pos} (hc : Names X x c) (r : NamesL X es cs) : NamesL X (.Name x np :: es) (c :: cs)
/-- the expression of a clause tells the classes cs -/
inductive Clz (X : Cx) : Expr → List Value → Prop
  | one {x : Str} {c : Value} {np : Pos} (hc : Names X x c) : Clz X (.Name x np) [c]
  | tup {es : List Expr} {cs : List Value} {k : Nat} {tpos : Pos} (h : NamesL X es cs) (hl : cs.length ≤ 100) : Clz X (.Tuple es k tpos) cs
section
variable {X : Cx} {pn pins : List (Addr × Obj)} {σ : L2.St} {H : Hp} {s : Shared} {a : Addr} {E : Value → Shared → Prop}
theorem name_run {x : Str} {c : Value} {np : Pos} {Q : Value → Shared → Prop} (hc : Names X x c) (S : Inv (X.suite a pn) pins σ H s) (q : Q c s) : wpAny (model X.prog X.w) (X.A.mark (some (.ref a))) (eval (.Name x np) X.env) Q E s := by
  obtain ⟨hg, hdbg, hm | ⟨hm, hv, hnn⟩⟩ := hc
  · exact ld_glob (X := X.suite a pn) S hg hm q hdbg
  · exact ld_blt (X := X.suite a pn) S hg hm hv q hnn hdbg
theorem names_run {pos : Pos} : ∀ {es : List Expr} {cs : List Value} {Q : List Value → Shared → Prop}, NamesL X es cs → Inv (X.suite a pn) pins σ H s → Q cs s → wpAny (model X.prog X.w) (X.A.mark (some (.ref a))) (spliced (backTo pos (starEach es X.env))) Q E s
  | _, _, _, .nil, _, q => wpAny_items_nil q
  | _, _, _, .cons hc r, S, q => wpAny_items_cons (name_run hc S (names_run r S q))
theorem clz_run {te : Expr} {cs : List Value} {cls : Value} {b : Bool} {Q : Bool → Shared → Prop} (T : Clz X te cs) (S : Inv (X.suite a pn) pins σ H s) (LT : PySem.W.Looks (model X.prog X.w) s.heap (typeOf (.ref a)) cls) (hb : anyOf X.K cls cs b)
    (q : ∀ h', (∀ b o, s.heap.get? b = some o → h'.get? b = some o) → Q b { s with heap := h' }) :
    wpAny (model X.prog X.w) (X.A.mark (some (.ref a))) (eval te X.env) (fun c s₁ => wpAny (model X.prog X.w) (X.A.mark (some (.ref a))) (excMatches (.ref a) c) Q E s₁) E s := by
  cases T with
  | @one x c np hc =>
    refine name_run hc S ?_
    obtain ⟨hall, hb⟩ := hb
    obtain ⟨v, e⟩ := hall c (List.mem_cons_self ..)
    have eb : b = v := by
      rw [hb]
      simp [e]
    rw [eb] at q
    exact (PySem.W.exm_one S.kIn LT e).here (q s.heap fun _ _ z => z)
  | @tup es _ k tpos h hl =>
    refine wpAny_Tuple (names_run h S ⟨by rw [sizeLine_eq]; omega, ?_⟩)
    have kp : ∀ b o, s.heap.get? b = some o → (s.heap.push { cls := .type "tuple", data := .seq cs.toArray }).get? b = some o := fun _ _ z => Heap.get?_push_of_some _ z
    exact (exm_tupN (S.kIn.keeps kp) (LT.keeps kp) (Heap.get?_push_size s.heap rfl) hb).here (q _ kp)
end
theorem flying_keep {B h h' : Heap} {l : List Env} {a : Addr} {Z : Obj → Prop} (k : ∀ b o, h.get? b = some o → h'.get? b = some o) (x : HandSPX.FlyingZ B l a Z h) : HandSPX.FlyingZ B l a Z h' := by
  obtain ⟨k1, k2, k3, oe, vs, T, oT, ts', he, hz, hd, h1, hn, hne, hT, hdT, h3⟩ := x
  exact ⟨fun b o q => k b o (k1 b o q), k2, k3.of_keeps fun b o q _ => ⟨o, k b o q, rfl⟩, oe, vs, T, oT, ts', k _ _ he, hz, hd, h1, hn, hne, k _ _ hT, hdT, h3⟩
abbrev Cls1 := List Value × (Addr → Value → Option Addr → TS)
/-- what is behind a suite whose name is the slot i's -/
def offAt (i : Nat) (D : Ends) : Ends := { nx := fun σ' H' => D.nx (σ'.set i none) H', rt := D.rt, bk := fun σ' H' => D.bk (σ'.set i none) H', ct := fun σ' H' => D.ct (σ'.set i none) H' }
def wMs (K : PySem.W.Frag) (i : Nat) (Wout : WX) (D : Ends) : List Cls1 → WX
  | [] => Wout
  | (cs, ts) :: r => fun cls d σ H => ∃ b, anyOf K cls cs b ∧ (b = true → ∀ a, H a = none → ts a cls d (offAt i D) (σ.set i (some (.ref a))) H) ∧ (b = false → wMs K i Wout D r cls d σ H)
inductive HdsA (X : Cx) (n : Str) : List ExceptHandler → List Cls1 → Prop
  | nil : HdsA X n [] []
  | cons {te : Expr} {cs : List Value} {ts : Addr → Value → Option Addr → TS} {b₀ : Stmt} {suite : List Stmt} {pos' : Pos} {hds : List ExceptHandler} {l : List Cls1} (hc : Clz X te cs)
      (hsu : ∀ (a : Addr) (oe : Obj) (cls : Value) (d : Option Addr) (pn : List (Addr × Obj)), L2N.Zn cls d oe → (∃ vs, oe.data = .fields vs) → PSs (X.suite a ((a, oe) :: pn)) (b₀ :: suite) (ts a cls d)) (r : HdsA X n hds l) :
      HdsA X n (.ExceptHandler (some te) (some n) (b₀ :: suite) pos' :: hds) ((cs, ts) :: l)
section
variable {X : Cx} {n : Str} {i : Nat} {body : List Stmt} {h₀ : ExceptHandler} {hds : List ExceptHandler} {l : List Cls1} {pos : Pos} {tb : WX → TS} {Wout : WX}
theorem ps_try_ases (hs : X.stack = X.env :: X.outer) (hf : X.env.frame = some X.env.locals) (hN : X.N.Nodup) (hi : X.N[i]? = some n) (hln : X.env.kindOf n = some .local) (tk : L2N.Takes X Wout)
    (hb : ∀ (W : WX) (pn : List (Addr × Obj)) (xe : Value → Shared → Prop), L2N.Takes (X.tr pn xe) W → PassesOwn (model X.prog X.w) X.A X.env xe → PSs (X.tr pn xe) body (tb W))
    (hh : HdsA X n (h₀ :: hds) l) : PS X (.Try body (h₀ :: hds) [] [] pos) (fun D σ H => tb (wMs X.K i Wout D l) D σ H) := by
  refine ⟨fun pins s σ H D I h => ?_⟩
  have ok := I.ok
  have hfr : X.A.frames = some (X.env :: X.outer) := by rw [ok.frames, hs]
  refine wpAny_Try_except ?_
  refine wpAny_mono ((hb (wMs X.K i Wout D l) (X.pn ++ pins) (fun e s₁ => wpAny (model X.prog X.w) X.A (noteFrame e X.env) (fun _ s₂ => wpAny (model X.prog X.w) X.A (setFlight e none) (fun _ s₃ =>
    wpAny (model X.prog X.w) X.A (handleBy e X.env (h₀ :: hds)) (SP X pins D) X.xe s₃) X.xe s₂) X.xe s₁) (fun u s' xx => ?_) PassesOwn.looking).run [] s σ H D (I.toTry _) h) (fun f s1 hsp => ?_) (fun e s1 he => he)
  · obtain ⟨a, B, sI, pins', σ', H', cls, d, rfl, J', nb, up, sky, na, os, ag, w⟩ := xx
    have J : Inv X pins σ' H' sI := J'.ofTry ok
    have sky' : Sky B (X.env :: X.outer) a (L2N.Zn cls d) X.env.locals s'.heap := by rw [← hs]; exact sky
    show wpAny (model X.prog X.w) X.A (noteFrame (.ref a) X.env) _ _ _
    refine L2N.Sky.land L2N.Zn.steady hfr hf sky' fun h1 fl1 up1 => ?_
    have go : ∀ {hs' : List ExceptHandler} {l' : List Cls1}, HdsA X n hs' l' → wMs X.K i Wout D l' cls d σ' H' → ∀ h3, HandSPX.FlyingZ B (X.env :: X.outer) a (L2N.Zn cls d) h3 → s'.heap.UpToSlots h3 →
        wpAny (model X.prog X.w) X.A (handleBy (.ref a) X.env hs') (SP X pins D) X.xe { s' with heap := h3 } := by
      intro hs' l' hk
      induction hk with
      | nil =>
        intro w h3 fl3 up3
        refine wpAny_handleBy_nil ?_
        obtain ⟨k1, k2, k3, oe, vs, T, oT, ts', he, hz, hd, h1, hr⟩ := id fl3
        unfold PySem.passOn
        refine wpAny_bind (wpAny_field he hd h1 ?_)
        rw [if_neg (show ¬ ((Value.ref T == Value.none) = true) from by simp)]
        have fin : wpAny (model X.prog X.w) X.A (setFlight (.ref a) X.env.frame) (fun _ s4 => wpAny (model X.prog X.w) X.A (throw (.ref a) : Sem Flow) (SP X pins D) X.xe s4) X.xe { s' with heap := h3 } := by
          rw [hf]
          refine HandSPX.setFlight_upZ fl3 fun h4 hh4 up4 => wpAny_throw (tk _ _ ?_)
          exact ⟨a, B, sI, pins, σ', H', cls, d, rfl, J, nb, (up.trans up3).trans up4, .inr (.inr (by rw [hs]; exact hh4)), na, os, ag, w⟩
        first
          | exact wpAny_bind (wpAny_pure (wpAny_bind fin))
          | exact wpAny_bind fin
      | @cons te cs ts b₀ suite pos' hds2 l2 hc hsu r ih =>
        intro w h3 fl3 up3
        obtain ⟨b, hb1, hyes, hno⟩ := w
        have J3 : Inv X pins σ' H' { s' with heap := h3 } := J.landed nb fl3.1 (up.trans up3) os ag
        obtain ⟨oe3, vs3, he3, hz3, hd3⟩ := fl3.there
        have nfr : a ∉ frs (X.env :: X.outer) := fun hm => by
          obtain ⟨_, o', e', hnf⟩ := fl3.2.2.1.mem hm
          rw [he3] at e'; cases e'
          exact hnf _ hd3
        have nL : a ≠ X.env.locals := fun z => nfr (List.mem_filterMap.mpr ⟨X.env, List.mem_cons_self, by rw [hf, z]⟩)
        have nF : a ∉ X.fs := fun hm => by
          obtain ⟨e, he, q⟩ := List.mem_filterMap.mp hm
          exact nfr (List.mem_filterMap.mpr ⟨e, List.mem_cons_of_mem _ he, q⟩)
        have S3 := J3.suite he3 hd3 na nL nF
        have LT : PySem.W.Looks (model X.prog X.w) h3 (typeOf (.ref a)) cls := fun A Q E s k q => wpAny_typeOf_ref (k _ _ he3) (by rw [hz3.1]; exact q)
        refine wpAny_handleBy_cons (codeAny_handlers_test (clz_run hc S3 LT hb1 fun h4 kp => ?_)) (by intro q; cases q)
        have fl4 := flying_keep kp fl3
        have up4 : s'.heap.UpToSlots h4 := up3.trans (Heap.UpToSlots.of_keeps kp)
        cases b with
        | true =>
          refine codeAny_handlers_suite_as ?_
          refine HandSPX.lands_againZ fl4 fun h5 fl5 up5 => ?_
          have J5 : Inv X pins σ' H' { s' with heap := h5 } := J.landed nb fl5.1 ((up.trans up4).trans up5) os ag
          obtain ⟨oe5, vs5, he5, hz5, hd5⟩ := fl5.there
          have S5 := J5.suite he5 hd5 na nL nF
          refine store_ok (X := X.suite a ((a, oe5) :: (X.pn ++ pins))) (v := .ref a) S5 hN hi (.inl hln) rfl (fun s6 S6 => ?_) (.inr hln)
          refine wpAny_mono ((hsu a oe5 cls d (X.pn ++ pins) hz5 ⟨_, hd5⟩).run [] s6 _ H' _ S6 (hyes rfl a na)) (fun f s7 hsp => ?_) (fun _ _ z => False.elim z)
          have end_ : ∀ {σ7 : L2.St} {H7 : Hp} {Q : Shared → Prop}, Inv (X.suite a ((a, oe5) :: (X.pn ++ pins))) [] σ7 H7 s7 → (∀ s8, Inv X pins (σ7.set i none) H7 s8 → Q s8) →
              wpAny (model X.prog X.w) X.A (do bindName X.env n .none; unbindBehindTheSuite X.env n pos') (fun _ s8 => Q s8) X.xe s7 := fun {σ7 H7 Q} S7 hq => gone_ok (S7.unsuite ok) hN hi hln hq
          cases f with
          | next =>
            obtain ⟨σ7, H7, S7, q7⟩ := hsp
            exact end_ S7 fun s8 J8 => ⟨_, _, J8, q7⟩
          | brk =>
            obtain ⟨σ7, H7, S7, q7⟩ := hsp
            exact end_ S7 fun s8 J8 => ⟨_, _, J8, q7⟩
          | cont =>
            obtain ⟨σ7, H7, S7, q7⟩ := hsp
            exact end_ S7 fun s8 J8 => ⟨_, _, J8, q7⟩
          | ret u =>
            obtain ⟨v7, σ7, H7, S7, r7, q7⟩ := hsp
            exact end_ S7 fun s8 J8 => ⟨_, _, _, J8, r7, q7⟩
        | false =>
          show wpAny _ X.A (handleBy (.ref a) X.env hds2) _ _ _
          exact ih (hno rfl) h4 fl4 up4
    exact go hh w h1 fl1 up1
  · cases f with
    | next =>
      obtain ⟨σ', H', J', q⟩ := hsp
      exact wpAny_execs_nil ⟨σ', H', J'.ofTry ok, q⟩
    | brk =>
      obtain ⟨σ', H', J', q⟩ := hsp
      exact ⟨σ', H', J'.ofTry ok, q⟩
    | cont =>
      obtain ⟨σ', H', J', q⟩ := hsp
      exact ⟨σ', H', J'.ofTry ok, q⟩
    | ret u =>
      obtain ⟨v, σ', H', J', r, q⟩ := hsp
      exact ⟨v, σ', H', J'.ofTry ok, r, q⟩
end
end L2E
namespace L2E
open PySem PySem.Spec PyProof.Rows L2 L2H
/-! ### [e for x in range(n)] while an exception is handled: the block bears the exception's pin -/
/-- a pin may be borne by the context -/
theorem pin_in {X : Cx} {p : Addr × Obj} {pn pins : List (Addr × Obj)} {σ : L2.St} {H : Hp} {s : Shared} (I : Inv { X with pn := pn } pins σ H s) (hp : s.heap.get? p.1 = some p.2 ∧ H p.1 = none ∧ p.1 ≠ X.env.locals ∧ p.1 ∉ X.fs ∧ ∀ v, p.2.data ≠ .cell v) :
    Inv { X with pn := p :: pn } pins σ H s :=
  ⟨⟨I.ok.mod, I.ok.kind, I.ok.glob, I.ok.blt, I.ok.above, I.ok.inj, I.ok.has, I.ok.cab, I.ok.hd, I.ok.frames, I.ok.stk, I.ok.exf, I.ok.bs, I.ok.bsz, I.ok.noex, I.ok.exfs, I.ok.funs, I.ok.frf⟩, I.os, I.bare, I.base, I.loc, I.cell, I.free, I.freeC,
    fun q hq => (List.mem_cons.mp hq).elim (fun e => by rw [e]; exact hp) (fun z => I.pin q z), I.hok, I.len⟩
abbrev blkP (X : Cx) (s : Shared) (H : Hp) (scope : Scope) (cenv : Env) (fp : List Addr) (p : Addr × Obj) : Cx := { X.blk s H scope cenv fp with pn := [p] }
section
variable {X : Cx}
theorem pe_lcH {elt tg iter : Expr} {scope : Scope} {own : List (Str × Nat)} {pos : Pos} {wi : TI} {g : TG} {te : TE} (hc : HotC X) (hN : X.N.Nodup) (hi : PIH X tg iter wi) (ok : BlkOk X.N X.env.scope scope own)
    (hg : ∀ (s : Shared) (H : Hp) (C : Addr) (cl : List (Str × Addr)) (fp : List Addr) (p : Addr × Obj), PG (blkP X s H scope (compEnvC scope cl C X.env) fp p) tg g)
    (he : ∀ (s : Shared) (H : Hp) (C : Addr) (cl : List (Str × Addr)) (fp : List Addr) (p : Addr × Obj), PE (blkP X s H scope (compEnvC scope cl C X.env) fp p) elt te) (hs : ∀ x, foldedSetIterable iter X.env x = pure x := by intro _; rfl) :
    PE X (.ListComp elt [⟨tg, iter, [], 0⟩] scope pos) (tLc wi g tYes te (own.map (·.2))) := by
  refine ⟨fun pins s σ H Q I h => ?_⟩
  rw [eval_ListComp]
  obtain ⟨p, hot, hpn⟩ := hc
  have hfree : ∀ y ∈ scope.names, y.2 = .free → ∃ c, X.env.cells.lookup y.1 = some c := fun y hy e => (ok.free y hy e).elim (fun k => I.ok.has _ (.inl k)) fun k => I.ok.has _ (.inr k)
  refine wpAny_comprehension_free rfl hs (closure_ok hfree) ok.kind (fun y hy e => by rw [ok.uniq y hy, e]) (thn (hi.run pins s σ H _ I h) fun xv s1 hx => thn hx fun itv s2 h2 => ?_)
  obtain ⟨it, fp, tn, J, H2, e, I2, T, st2, f2, q⟩ := h2
  subst e
  refine wpAny_newObj_type (newEnv_comp ?_) (by show 0 ≤ sizeLine; decide)
  generalize hD : s2.heap.objs.size = D
  have hDn : H2 D = none := I2.hok.fresh (Nat.le_of_eq hD)
  obtain ⟨W, ⟨m0, w0⟩, turn⟩ := q D hDn
  generalize hs3 : ({ s2 with heap := s2.heap.push { cls := .type "list", data := .seq ([] : List Value).toArray } } : Shared) = s3
  have h3 : s3.heap = s2.heap.push { cls := .type "list", data := .seq ([] : List Value).toArray } := by rw [← hs3]
  have I3 : Inv X pins σ (upd H2 D (.lst [])) s3 := by
    rw [← hs3]
    refine I2.laid (t' := s2.toks) (fun b o e => Heap.get?_push_of_some _ e) (Nat.le_of_eq hD) ⟨Nat.zero_le _, [], 0, .nil, ?_⟩
    rw [← hD]
    exact Heap.get?_push_size _ rfl
  have f3 : ∀ b ∈ fp, FpOk X pins (upd H2 D (.lst [])) b ∧ b < s3.heap.objs.size := fun b hb => by
    obtain ⟨o, e, _⟩ := T.obj _ _ st2 b hb
    have hlt := Heap.lt_size e
    exact ⟨⟨by rw [upd_ne (by rw [← hD]; exact Nat.ne_of_lt hlt)]; exact (f2 b hb).1, (f2 b hb).2⟩, by rw [h3, Heap.size_push]; exact Nat.lt_succ_of_lt hlt⟩
  have P3 := I3.pin p (List.mem_append_left _ hpn)
  have pf : ∀ b ∈ fp, p.1 ≠ b := fun b hb => (f3 b hb).1.2.2.2.2.2 p (List.mem_append_left _ hpn)
  have I4 := block_start I3 ok hN f3
  show codeAny _ _ (.compStart (.ListComp elt [⟨tg, iter, [], 0⟩] scope pos) 0 (.ref it) (.ref D) (compEnvC scope (cellsFrom (s3.heap.objs.size + 1) scope.names (cloFrom X.env.cells scope.names [])) s3.heap.objs.size X.env)) (compPost (model X.prog X.w) X.A X.xe _ _ (.ref D) s3.heap.objs.size) { s3 with heap := pushCells (s3.heap.push { cls := .type "dict", data := .dict #[] }) scope.names }
  have pg := hg s3 (upd H2 D (.lst [])) s3.heap.objs.size (cellsFrom (s3.heap.objs.size + 1) scope.names (cloFrom X.env.cells scope.names [])) fp p
  have pe := he s3 (upd H2 D (.lst [])) s3.heap.objs.size (cellsFrom (s3.heap.objs.size + 1) scope.names (cloFrom X.env.cells scope.names [])) fp p
  generalize hce : compEnvC scope (cellsFrom (s3.heap.objs.size + 1) scope.names (cloFrom X.env.cells scope.names [])) s3.heap.objs.size X.env = ce at I4 pg pe ⊢
  have cL : ce.locals = s3.heap.objs.size := by subst hce; rfl
  have nfp : ∀ b ∈ fp, (upd H2 D (.lst [])) b = none := fun b hb => (f3 b hb).1.1
  generalize hH3 : upd H2 D (.lst []) = H3 at I3 I4 pg pe w0 nfp f3 P3
  have kp4 : ∀ b o, s3.heap.get? b = some o → (pushCells (s3.heap.push { cls := .type "dict", data := .dict #[] }) scope.names).get? b = some o := fun b o e => pushCells_keeps _ _ _ _ (Heap.get?_push_of_some _ e)
  generalize hs4 : ({ s3 with heap := pushCells (s3.heap.push { cls := .type "dict", data := .dict #[] }) scope.names } : Shared) = s4 at I4 ⊢
  have h4 : s4.heap = pushCells (s3.heap.push { cls := .type "dict", data := .dict #[] }) scope.names := by rw [← hs4]
  have st4 : tn 0 s4.heap := T.keep _ _ _ st2 fun b _ o e => by
    rw [h4]
    refine kp4 b o ?_
    rw [h3]
    exact Heap.get?_push_of_some _ e
  -- the block's context, the pin within
  have J4 : Inv (blkP X s3 H3 scope ce fp p) [] (wipe σ (own.map (·.2))) H3 s4 := pin_in (X := X.blk s3 H3 scope ce fp) I4
    ⟨by rw [h4]; exact kp4 _ _ P3.1, P3.2.1, by rw [show (X.blk s3 H3 scope ce fp).env.locals = s3.heap.objs.size from cL]; exact Nat.ne_of_lt (Heap.lt_size P3.1), fun hm => (List.mem_cons.mp (I3.stkSub p.1 hm)).elim P3.2.2.1 P3.2.2.2.1, P3.2.2.2.2⟩
  have hcY : HotC (blkP X s3 H3 scope ce fp p) := ⟨p, hot, List.mem_cons_self ..⟩
  have stat : ∀ {σ' : L2.St} {H' : Hp} {s' : Shared}, Inv (blkP X s3 H3 scope ce fp p) [] σ' H' s' → (∀ b ∈ fp, H' b = none) → ∀ b ∈ fp, FpOk (blkP X s3 H3 scope ce fp p) [] H' b := fun {σ' H' s'} I' hn b hb =>
    ⟨hn b hb, (I'.ok.exf b hb).1, I'.ok.exfs b hb, .inl hb, fun x c e => (I'.ok.exf b hb).2 x c e, fun r hr => by
      have e : r = p := by simpa using (show r ∈ [p] ++ ([] : List (Addr × Obj)) from hr)
      rw [e]
      exact pf b hb⟩
  have loop : codeAny (model X.prog X.w) X.A (.compLoop (.ListComp elt [⟨tg, iter, [], 0⟩] scope pos) 0 (.ref it) (.ref D) ce) (compPost (model X.prog X.w) X.A X.xe none (EP X pins σ Q) (.ref D) s3.heap.objs.size) s4 := by
    refine compLoop_any (fun n s' => ∃ i H', Inv (blkP X s3 H3 scope ce fp p) [] (wipe σ (own.map (·.2))) H' s' ∧ tn i s'.heap ∧ (∀ b ∈ fp, H' b = none) ∧ W i n H') ?_ m0 ⟨0, H3, J4, st4, nfp, w0⟩
    rintro n s5 ⟨i, H5, I5, st5, n5, w5⟩
    rcases turn i n H5 w5 with ⟨stop, qq⟩ | ⟨go, Nx, hNx, step⟩
    · refine thnF (T.done (blkP X s3 H3 scope ce fp p) rfl rfl rfl hcY i [] s5 _ H5 (fun _ _ => False) I5 (stat I5 n5) st5 stop) fun r s6 ⟨hr, I6⟩ => ?_
      subst hr
      have I7 : Inv X pins σ H5 s6 := I3.call' (ch := fp) I6.os I6.base I6.hok I6.bare fun b hb => ⟨(f3 b hb).1.2.2.2.1, (f3 b hb).1.2.1, (f3 b hb).1.2.2.2.2.1, (f3 b hb).1.2.2.2.2.2⟩
      have nC : H5 ce.locals = none := I6.free
      obtain ⟨m, hn, _⟩ := I6.loc
      have hn : s6.heap.Ns ce.locals m := hn
      rw [cL] at hn nC
      obtain ⟨g0, g1, g2, g3, g4, g5⟩ := I3.fpOk (Nat.le_refl _) nC
      exact ⟨m, hn, fun h'' sb => ⟨.ref D, H5, I7.turned (t' := s6.toks) (fun b o hb e => (sb.2 b hb).trans e) g0 g1 g3 g4 g5, rfl, qq⟩⟩
    · refine thnF (T.item (blkP X s3 H3 scope ce fp p) rfl rfl rfl hcY i [] s5 _ H5 (fun _ _ => False) I5 (stat I5 n5) st5 go) fun r s6 ⟨u, hr, h6⟩ => ?_
      subst hr
      refine thnF h6 fun _ s7 ⟨x, H7, I7, r7, y7, st7, n7⟩ => ?_
      have I7' := I7.pinned (stat I7 n7) (T.obj _ _ st7)
      refine thnF (pg.run _ s7 _ H7 x u _ I7' r7 (step x H7 y7)) fun _ s8 ⟨σ8, H8, I8, hw8, q8⟩ => ?_
      refine thnF ((pts_nil (X := blkP X s3 H3 scope ce fp p)).run _ s8 σ8 H8 _ I8 q8) fun b s9 ⟨H9, I9, q9⟩ => ?_
      have fin : ∀ {s' : Shared} {H' : Hp}, Inv (blkP X s3 H3 scope ce fp p) ([] ++ pinsAt fp s7.heap) σ8 H' s' → Nx H' → ∃ m, m < n ∧ ∃ i H', Inv (blkP X s3 H3 scope ce fp p) [] (wipe σ (own.map (·.2))) H' s' ∧ tn i s'.heap ∧ (∀ b ∈ fp, H' b = none) ∧ W i m H' := fun {s' H'} I' nx => by
        obtain ⟨m', hm, w'⟩ := hNx H' nx
        have pin' : ∀ b ∈ fp, ∀ o, s7.heap.get? b = some o → s'.heap.get? b = some o ∧ H' b = none := fun b hb o e =>
          let z := I'.pin (b, o) (List.mem_append_right _ (List.mem_append_right _ (mem_pinsAt hb e)))
          ⟨z.1, z.2.1⟩
        refine ⟨m', hm, i + 1, H', (I'.unpinned (pins := [])).weak (by rw [← hw8, wipe_length]) (fun j v e => ?_), T.keep _ _ _ st7 fun b hb o e => (pin' b hb o e).1, fun b hb => ?_, w'⟩
        · rw [← hw8] at e
          exact (wipe_some e).1
        · obtain ⟨o, e, _⟩ := T.obj _ _ st7 b hb
          exact (pin' b hb o e).2
      cases b with
      | false =>
        simp only [Bool.false_eq_true, if_false] at q9 ⊢
        exact fin I9 q9
      | true =>
        simp only [if_true] at q9 ⊢
        refine thnF (pe.run _ s9 σ8 H9 _ I9 q9) fun z s10 ⟨yv, H10, I10, r10, acc, hD10, hz10, nx⟩ => ?_
        exact app_ok (X := blkP X s3 H3 scope ce fp p) I10 hD10 hz10 r10 fun s11 I11 => fin I11 nx
  exact codeAny_compStart_list loop (T.self X.A 0 _ _ _ st4 loop)
end
end L2E
namespace L2E
open PySem PySem.Spec PyProof.Rows L2 L2H
/-! ### a def that is called while the exception p is handled, its promise told of p -/
structure FnHp (P : Program) (w : World) (K : PySem.W.Frag) (mg : Str → Option Value) (base : Heap) (CX : CXT) (k : Nat) (f : Addr) (fd : FuncData) (ps : List Str) (sp : Addr × Obj → Sp) : Prop where
  len : ∀ p vs H Q E, sp p vs H Q E → vs.length = ps.length
  run : ∀ (A : Around) (outer : List Env) (s : Shared) (H : Hp) (args : Args) (us : List Value) (vs : List V) (Q : VK) (E : XK) (p : Addr × Obj), RoomH k A → Hot1 A p → PinOk outer H s p → Env0 P w K mg base A outer s H → BindsTo s fd args (ps.zip us) → Vals vs us → sp p vs H Q E →
    codeAny (model P w) A (.call (.ref f) args) (CR CX outer P w H s Q E) s
theorem fn_ofHp {CX : CXT} {P : Program} {w : World} {K : PySem.W.Frag} {mg : Str → Option Value} {base : Heap} {k : Nat} {f : Addr} {name qual : Str} {params : Arguments} {body : List Stmt} {scope : Scope} {dV kV doc pm cdv ct oc : Value} {an od : Option Addr}
    {osl : Array (Option Value)} {N ps : List Str} {sp : Addr × Obj → Sp} (lk : K.lookup f = some ⟨oc, od, .func (PySem.W.fnOf name qual params body scope dV kV doc pm an cdv ct), osl⟩) (hcd : PySem.W.codeIn K cdv qual = true) (S : FnScope N ps scope)
    (len : ∀ p vs H Q E, sp p vs H Q E → vs.length = ps.length)
    (hbody : ∀ (A : Around) (outer : List Env) (s : Shared) (H : Hp) (vs : List V) (Q : VK) (E : XK) (p : Addr × Obj), Hot1 A p → RoomH k (A.deeper (envOfC qual scope s.heap.objs.size f cdv)) → sp p vs H Q E →
      ∃ t, PSs (cxH CX P w K mg base N qual scope f cdv A outer s H E p) body t ∧ t { nx := fun _ H' => Q .non H', rt := Q } (L2.start N vs) H) :
    FnHp P w K mg base CX (k + 1) f (PySem.W.fnOf name qual params body scope dV kV doc pm an cdv ct) ps sp := by
  refine ⟨len, fun A outer s H args us vs Q E p hr hot hpin e0 hb r hsp => ?_⟩
  have kin : K.In s.heap := e0.mod.kin.keeps fun b o e => (e0.bs b o e).1
  have kinds : ∀ y ∈ ps.zip us, scope.names.lookup y.1 = some .local ∨ (scope.names.lookup y.1 = some .cell ∧ ((cellsFrom (s.heap.objs.size + 1) scope.names []).lookup y.1).isSome = true) := fun y hy =>
    (S.par y.1 (List.of_mem_zip hy).1).elim .inl fun q => .inr ⟨q, PySem.W.cellsFrom_some _ _ _ (.inl q)⟩
  refine codeAny_call_function hr.depth (kin _ _ lk) rfl S.co S.gen rfl (PySem.W.codeRec_of kin hcd) (hb _ _ _ _ (wpAny_newFunctionEnv_cells S.kind kinds fun env he s1 x => ?_))
  subst he
  refine ⟨(e0.mod.nolimit.keeps fun b o e => (e0.bs b o e).1).keeps x.toInCall.keep, codeAny_func ?_⟩
  obtain ⟨t, ht, hq⟩ := hbody A outer s H vs Q E p hot (hr.deeper _) hsp
  refine wpAny_mono (ht.run [] s1 (L2.start N vs) H _ (inv_startH S hpin e0 (len _ _ _ _ _ hsp) r x) hq) (fun fl s' hs => ?_) fun e s' hs => hs
  cases fl with
  | ret u =>
    obtain ⟨v, σ', H', J, rv, q⟩ := hs
    exact ⟨v, H', J.os, J.bare, J.base, J.hok, rv, q⟩
  | next =>
    obtain ⟨σ', H', J, q⟩ := hs
    exact ⟨.non, H', J.os, J.bare, J.base, J.hok, rfl, q⟩
  | brk =>
    obtain ⟨_, _, _, q⟩ := hs
    exact False.elim q
  | cont =>
    obtain ⟨_, _, _, q⟩ := hs
    exact False.elim q
/-- f(e, ..) there -/
theorem pe_callHp {X : Cx} {CX : CXT} {k : Nat} {f : Addr} {fd : FuncData} {ps : List Str} {sp : Addr × Obj → Sp} {E : L2.St → XK} {x : Str} {q pos : Pos} {e : Expr} {es : List Expr} {t : TA} {p : Addr × Obj} (F : FnHp X.prog X.w X.K X.mg X.base CX k f fd ps sp) (hr : RoomH k X.A) (hot : Hot1 X.A p) (hp : p ∈ X.pn)
    (hg : Gl X x) (hm : X.mg x = some (.ref f)) (hk : PySem.W.keepIn X.K (.ref f) = true) (hb : Binds X.K fd ps []) (hx : ∀ σ, PassesAt CX X σ (E σ))
    (ha : PA X (e :: es) t) (hdb : (x == ("__debug__" : Str)) = false := by decide) (he : starEach (e :: es) X.env = (false, eval e X.env) :: starEach es X.env := by rfl) (hpl : (backTo pos (starEach es X.env)).any (·.1) = false := by rfl) :
    PE X (.Call (.Name x q) (e :: es) [] pos) (tCallS (sp p) E t) := by
  refine ⟨fun pins s σ H Q I h => ?_⟩
  refine wpAny_Call_Name_kw (ld_glob I hg hm ?_ hdb)
  refine PySem.W.callWith_K (h₀ := X.base) I.ok.mod.kin hk (thn (ha.run pos pins s σ H _ I h) fun us s1 ⟨vs, H1, I1, r, h1⟩ => ⟨I1.kIn, ?_⟩) he hpl
  have hl : us.length = ps.length := by rw [← r.length]; exact F.len _ _ _ _ _ h1
  have b := hb s1 us I1.kIn (by rw [List.append_nil]; exact hl)
  rw [List.append_nil] at b
  have P1 := I1.pin p (List.mem_append_left _ hp)
  refine wpAny_call (codeAny_mono (F.run X.A X.stack s1 H1 ⟨us, []⟩ us vs Q (E σ) p hr hot ⟨P1.1, P1.2.1, fun hm => (List.mem_cons.mp (I1.stkSub p.1 hm)).elim P1.2.2.1 P1.2.2.2.1, P1.2.2.2.2⟩ I1.env0 b r h1) fun r s' hq => ?_)
  cases r with
  | error e => exact hx σ pins H1 s1 e s' I1 hq
  | ok fl =>
    cases fl with
    | ret u => exact I1.after hq
    | next => exact False.elim hq
    | brk => exact False.elim hq
    | cont => exact False.elim hq
/-- nothing is let out -/
theorem takesN0 {X : Cx} : L2N.Takes X (fun _ _ _ _ => False) := fun _ _ ⟨_, _, _, _, _, _, _, _, _, _, _, _, _, _, _, _, w⟩ => w.elim
/-- e.f, e the exception that the suite holds, its class told in the reading -/
def tXfA (K : PySem.W.Frag) (a : Addr) (cls : Value) (d : Option Addr) (f : Str) (te : TE) : TE := fun σ H Q => te σ H fun x H1 => x = .ref a ∧ ∃ (C dd : Addr) (fs : List (Str × V)) (v : V), cls = .ref C ∧ XfC K C ∧ PySem.W.findIn K (.ref C) f = some none ∧ d = some dd ∧ H1 dd = some (.xd fs) ∧ fs.lookup f = some v ∧ Q v H1
theorem pe_xfA {X : Cx} {a : Addr} {oe : Obj} {cls : Value} {d : Option Addr} {pn : List (Addr × Obj)} {e : Expr} {te : TE} {pos : Pos} {n : Str} (hz : Zc cls d oe) (hf : ∃ vs, oe.data = .fields vs) (he : PE (X.suite a ((a, oe) :: pn)) e te)
    (hb : attributeBase e n X.env (eval e X.env) = eval e X.env := by rfl) : PE (X.suite a ((a, oe) :: pn)) (.Attribute e n pos) (tXfA X.K a cls d n te) := by
  refine ⟨fun pins s σ H Q I h => ?_⟩
  refine attr_of hb (thn (he.run pins s σ H _ I h) fun u s1 hh => ?_)
  obtain ⟨x, H1, I1, rx, ex, C, dd, fs, v, ec, T, hno, ed, ea, l, q⟩ := hh
  subst ex ec ed
  obtain rfl : u = Value.ref a := rx
  obtain ⟨ha, _⟩ := I1.pin (a, oe) (List.mem_append_left _ List.mem_cons_self)
  obtain ⟨vs, hd⟩ := hf
  obtain ⟨mA, hns, hr⟩ := (show ObjOk X.prog X.w H1 s1.heap dd (.xd fs) from I1.hok dd _ ea)
  obtain ⟨od, ho, hl⟩ := lookIn_ns hns
  obtain ⟨u, hu, ru⟩ := RelO.some_of (v := v) (o := mA n) (by rw [← l]; exact hr n)
  have J : PySem.W.InstAt s1.heap a oe C (some od) := ⟨ha, hz.1, by unfold PySem.W.notCls; rw [hd] <;> rfl, by rw [hz.2]; exact ho⟩
  exact HandSPX.exc_get I1.kIn J T.ga T.gg T.exC (PySem.W.findObj_own T.hdC hno rfl (by rw [hl, hu])) (handed_of ru) ⟨v, H1, I1.tok _, ru, q⟩
/-- isinstance(e, c), e the exception that the suite holds, its class told in the reading -/
def rIsXA (K : PySem.W.Frag) (a : Addr) (cls : Value) (d : Option Addr) : List V → Hp → VK → Prop := fun xs H Q => ∃ (D dd fI : Addr) (f : Str) (c : V) (cv : Value) (b : Bool) (fs : List (Str × V)), cls = .ref D ∧ d = some dd ∧ ErrC K D fI f ∧ xs = [.ref a, c] ∧ (∀ u, RelV c u → u = cv) ∧ PySem.W.kitOne K (.ref D) cv = some b ∧ H dd = some (.xd fs) ∧ Q (.bl b) H
theorem call_isXA {X : Cx} {a : Addr} {cls : Value} {d : Option Addr} {oe : Obj} (R : ClsRd X.K) (hp : (a, oe) ∈ X.pn) (hz : Zc cls d oe) (hf : ∃ vs, oe.data = .fields vs) : CallR X (.builtin "isinstance") (rIsXA X.K a cls d) := by
  intro pins s σ H xs us Q I r h
  obtain ⟨D, dd, fI, f, c, cv, b, fs, ec, ed, T, h⟩ := h
  subst ec ed
  exact call_isX T R hp hz hf pins s σ H xs us Q I r ⟨c, cv, b, fs, h⟩
end L2E
namespace L2E
open PySem PySem.Spec PyProof.Rows L2 L2H
/-! ### [e for x in range(n)] while the exception p is handled, e told of p -/
section
variable {X : Cx}
theorem pe_lcHq {elt tg iter : Expr} {scope : Scope} {own : List (Str × Nat)} {pos : Pos} {wi : TI} {g : TG} {te : TE} {p : Addr × Obj} (hot : Hot1 X.A p) (hpn : p ∈ X.pn) (hN : X.N.Nodup) (hi : PIH X tg iter wi) (ok : BlkOk X.N X.env.scope scope own)
    (hg : ∀ (s : Shared) (H : Hp) (C : Addr) (cl : List (Str × Addr)) (fp : List Addr), PG (blkP X s H scope (compEnvC scope cl C X.env) fp p) tg g)
    (he : ∀ (s : Shared) (H : Hp) (C : Addr) (cl : List (Str × Addr)) (fp : List Addr), PE (blkP X s H scope (compEnvC scope cl C X.env) fp p) elt te) (hs : ∀ x, foldedSetIterable iter X.env x = pure x := by intro _; rfl) :
    PE X (.ListComp elt [⟨tg, iter, [], 0⟩] scope pos) (tLc wi g tYes te (own.map (·.2))) := by
  refine ⟨fun pins s σ H Q I h => ?_⟩
  rw [eval_ListComp]
  have hfree : ∀ y ∈ scope.names, y.2 = .free → ∃ c, X.env.cells.lookup y.1 = some c := fun y hy e => (ok.free y hy e).elim (fun k => I.ok.has _ (.inl k)) fun k => I.ok.has _ (.inr k)
  refine wpAny_comprehension_free rfl hs (closure_ok hfree) ok.kind (fun y hy e => by rw [ok.uniq y hy, e]) (thn (hi.run pins s σ H _ I h) fun xv s1 hx => thn hx fun itv s2 h2 => ?_)
  obtain ⟨it, fp, tn, J, H2, e, I2, T, st2, f2, q⟩ := h2
  subst e
  refine wpAny_newObj_type (newEnv_comp ?_) (by show 0 ≤ sizeLine; decide)
  generalize hD : s2.heap.objs.size = D
  have hDn : H2 D = none := I2.hok.fresh (Nat.le_of_eq hD)
  obtain ⟨W, ⟨m0, w0⟩, turn⟩ := q D hDn
  generalize hs3 : ({ s2 with heap := s2.heap.push { cls := .type "list", data := .seq ([] : List Value).toArray } } : Shared) = s3
  have h3 : s3.heap = s2.heap.push { cls := .type "list", data := .seq ([] : List Value).toArray } := by rw [← hs3]
  have I3 : Inv X pins σ (upd H2 D (.lst [])) s3 := by
    rw [← hs3]
    refine I2.laid (t' := s2.toks) (fun b o e => Heap.get?_push_of_some _ e) (Nat.le_of_eq hD) ⟨Nat.zero_le _, [], 0, .nil, ?_⟩
    rw [← hD]
    exact Heap.get?_push_size _ rfl
  have f3 : ∀ b ∈ fp, FpOk X pins (upd H2 D (.lst [])) b ∧ b < s3.heap.objs.size := fun b hb => by
    obtain ⟨o, e, _⟩ := T.obj _ _ st2 b hb
    have hlt := Heap.lt_size e
    exact ⟨⟨by rw [upd_ne (by rw [← hD]; exact Nat.ne_of_lt hlt)]; exact (f2 b hb).1, (f2 b hb).2⟩, by rw [h3, Heap.size_push]; exact Nat.lt_succ_of_lt hlt⟩
  have P3 := I3.pin p (List.mem_append_left _ hpn)
  have pf : ∀ b ∈ fp, p.1 ≠ b := fun b hb => (f3 b hb).1.2.2.2.2.2 p (List.mem_append_left _ hpn)
  have I4 := block_start I3 ok hN f3
  show codeAny _ _ (.compStart (.ListComp elt [⟨tg, iter, [], 0⟩] scope pos) 0 (.ref it) (.ref D) (compEnvC scope (cellsFrom (s3.heap.objs.size + 1) scope.names (cloFrom X.env.cells scope.names [])) s3.heap.objs.size X.env)) (compPost (model X.prog X.w) X.A X.xe _ _ (.ref D) s3.heap.objs.size) { s3 with heap := pushCells (s3.heap.push { cls := .type "dict", data := .dict #[] }) scope.names }
  have pg := hg s3 (upd H2 D (.lst [])) s3.heap.objs.size (cellsFrom (s3.heap.objs.size + 1) scope.names (cloFrom X.env.cells scope.names [])) fp
  have pe := he s3 (upd H2 D (.lst [])) s3.heap.objs.size (cellsFrom (s3.heap.objs.size + 1) scope.names (cloFrom X.env.cells scope.names [])) fp
  generalize hce : compEnvC scope (cellsFrom (s3.heap.objs.size + 1) scope.names (cloFrom X.env.cells scope.names [])) s3.heap.objs.size X.env = ce at I4 pg pe ⊢
  have cL : ce.locals = s3.heap.objs.size := by subst hce; rfl
  have nfp : ∀ b ∈ fp, (upd H2 D (.lst [])) b = none := fun b hb => (f3 b hb).1.1
  generalize hH3 : upd H2 D (.lst []) = H3 at I3 I4 pg pe w0 nfp f3 P3
  have kp4 : ∀ b o, s3.heap.get? b = some o → (pushCells (s3.heap.push { cls := .type "dict", data := .dict #[] }) scope.names).get? b = some o := fun b o e => pushCells_keeps _ _ _ _ (Heap.get?_push_of_some _ e)
  generalize hs4 : ({ s3 with heap := pushCells (s3.heap.push { cls := .type "dict", data := .dict #[] }) scope.names } : Shared) = s4 at I4 ⊢
  have h4 : s4.heap = pushCells (s3.heap.push { cls := .type "dict", data := .dict #[] }) scope.names := by rw [← hs4]
  have st4 : tn 0 s4.heap := T.keep _ _ _ st2 fun b _ o e => by
    rw [h4]
    refine kp4 b o ?_
    rw [h3]
    exact Heap.get?_push_of_some _ e
  -- the block's context, the pin within
  have J4 : Inv (blkP X s3 H3 scope ce fp p) [] (wipe σ (own.map (·.2))) H3 s4 := pin_in (X := X.blk s3 H3 scope ce fp) I4
    ⟨by rw [h4]; exact kp4 _ _ P3.1, P3.2.1, by rw [show (X.blk s3 H3 scope ce fp).env.locals = s3.heap.objs.size from cL]; exact Nat.ne_of_lt (Heap.lt_size P3.1), fun hm => (List.mem_cons.mp (I3.stkSub p.1 hm)).elim P3.2.2.1 P3.2.2.2.1, P3.2.2.2.2⟩
  have hcY : HotC (blkP X s3 H3 scope ce fp p) := ⟨p, hot, List.mem_cons_self ..⟩
  have stat : ∀ {σ' : L2.St} {H' : Hp} {s' : Shared}, Inv (blkP X s3 H3 scope ce fp p) [] σ' H' s' → (∀ b ∈ fp, H' b = none) → ∀ b ∈ fp, FpOk (blkP X s3 H3 scope ce fp p) [] H' b := fun {σ' H' s'} I' hn b hb =>
    ⟨hn b hb, (I'.ok.exf b hb).1, I'.ok.exfs b hb, .inl hb, fun x c e => (I'.ok.exf b hb).2 x c e, fun r hr => by
      have e : r = p := by simpa using (show r ∈ [p] ++ ([] : List (Addr × Obj)) from hr)
      rw [e]
      exact pf b hb⟩
  have loop : codeAny (model X.prog X.w) X.A (.compLoop (.ListComp elt [⟨tg, iter, [], 0⟩] scope pos) 0 (.ref it) (.ref D) ce) (compPost (model X.prog X.w) X.A X.xe none (EP X pins σ Q) (.ref D) s3.heap.objs.size) s4 := by
    refine compLoop_any (fun n s' => ∃ i H', Inv (blkP X s3 H3 scope ce fp p) [] (wipe σ (own.map (·.2))) H' s' ∧ tn i s'.heap ∧ (∀ b ∈ fp, H' b = none) ∧ W i n H') ?_ m0 ⟨0, H3, J4, st4, nfp, w0⟩
    rintro n s5 ⟨i, H5, I5, st5, n5, w5⟩
    rcases turn i n H5 w5 with ⟨stop, qq⟩ | ⟨go, Nx, hNx, step⟩
    · refine thnF (T.done (blkP X s3 H3 scope ce fp p) rfl rfl rfl hcY i [] s5 _ H5 (fun _ _ => False) I5 (stat I5 n5) st5 stop) fun r s6 ⟨hr, I6⟩ => ?_
      subst hr
      have I7 : Inv X pins σ H5 s6 := I3.call' (ch := fp) I6.os I6.base I6.hok I6.bare fun b hb => ⟨(f3 b hb).1.2.2.2.1, (f3 b hb).1.2.1, (f3 b hb).1.2.2.2.2.1, (f3 b hb).1.2.2.2.2.2⟩
      have nC : H5 ce.locals = none := I6.free
      obtain ⟨m, hn, _⟩ := I6.loc
      have hn : s6.heap.Ns ce.locals m := hn
      rw [cL] at hn nC
      obtain ⟨g0, g1, g2, g3, g4, g5⟩ := I3.fpOk (Nat.le_refl _) nC
      exact ⟨m, hn, fun h'' sb => ⟨.ref D, H5, I7.turned (t' := s6.toks) (fun b o hb e => (sb.2 b hb).trans e) g0 g1 g3 g4 g5, rfl, qq⟩⟩
    · refine thnF (T.item (blkP X s3 H3 scope ce fp p) rfl rfl rfl hcY i [] s5 _ H5 (fun _ _ => False) I5 (stat I5 n5) st5 go) fun r s6 ⟨u, hr, h6⟩ => ?_
      subst hr
      refine thnF h6 fun _ s7 ⟨x, H7, I7, r7, y7, st7, n7⟩ => ?_
      have I7' := I7.pinned (stat I7 n7) (T.obj _ _ st7)
      refine thnF (pg.run _ s7 _ H7 x u _ I7' r7 (step x H7 y7)) fun _ s8 ⟨σ8, H8, I8, hw8, q8⟩ => ?_
      refine thnF ((pts_nil (X := blkP X s3 H3 scope ce fp p)).run _ s8 σ8 H8 _ I8 q8) fun b s9 ⟨H9, I9, q9⟩ => ?_
      have fin : ∀ {s' : Shared} {H' : Hp}, Inv (blkP X s3 H3 scope ce fp p) ([] ++ pinsAt fp s7.heap) σ8 H' s' → Nx H' → ∃ m, m < n ∧ ∃ i H', Inv (blkP X s3 H3 scope ce fp p) [] (wipe σ (own.map (·.2))) H' s' ∧ tn i s'.heap ∧ (∀ b ∈ fp, H' b = none) ∧ W i m H' := fun {s' H'} I' nx => by
        obtain ⟨m', hm, w'⟩ := hNx H' nx
        have pin' : ∀ b ∈ fp, ∀ o, s7.heap.get? b = some o → s'.heap.get? b = some o ∧ H' b = none := fun b hb o e =>
          let z := I'.pin (b, o) (List.mem_append_right _ (List.mem_append_right _ (mem_pinsAt hb e)))
          ⟨z.1, z.2.1⟩
        refine ⟨m', hm, i + 1, H', (I'.unpinned (pins := [])).weak (by rw [← hw8, wipe_length]) (fun j v e => ?_), T.keep _ _ _ st7 fun b hb o e => (pin' b hb o e).1, fun b hb => ?_, w'⟩
        · rw [← hw8] at e
          exact (wipe_some e).1
        · obtain ⟨o, e, _⟩ := T.obj _ _ st7 b hb
          exact (pin' b hb o e).2
      cases b with
      | false =>
        simp only [Bool.false_eq_true, if_false] at q9 ⊢
        exact fin I9 q9
      | true =>
        simp only [if_true] at q9 ⊢
        refine thnF (pe.run _ s9 σ8 H9 _ I9 q9) fun z s10 ⟨yv, H10, I10, r10, acc, hD10, hz10, nx⟩ => ?_
        exact app_ok (X := blkP X s3 H3 scope ce fp p) I10 hD10 hz10 r10 fun s11 I11 => fin I11 nx
  exact codeAny_compStart_list loop (T.self X.A 0 _ _ _ st4 loop)
end
end L2E
namespace L2E
open PySem PySem.Spec PyProof.Rows L2
/-! ### o.m(e, ..) that may raise, within a try; clauses without a name that never match -/
section
variable {X : Cx} {CX : CXT} {k : Nat} {f C : Addr} {fd : FuncData} {ps : List Str} {sp : Sp} {E : L2.St → XK} {m : Str} {pos apos : Pos} {o e : Expr} {es : List Expr} {ta : TE} {t : TA}
def tMethS (C : Addr) (m : Str) (sp : Sp) (E : L2.St → XK) (ta : TE) (t : TA) : TE := fun σ H Q => ta σ H fun x H1 => ∃ a dx fs, x = .ref a ∧ H1 a = some (.ins C dx fs) ∧ fs.lookup m = none ∧ t σ H1 fun vs H2 => sp (x :: vs) H2 Q (E σ)
theorem pe_methS {pl : Sem Bool} (he : PE X o ta) (c : Cls X.K C) (hm : Meth X.K C m f) (F : FnOk X.prog X.w X.K X.mg X.base CX k f fd ps sp) (hr : Room k X.A) (hb : Binds X.K fd ps []) (hx : ∀ σ, PassesAt CX X σ (E σ)) (ha : PA X (e :: es) t)
    (hst : starEach (e :: es) X.env = (false, eval e X.env) :: starEach es X.env := by rfl) (hpl : (backTo pos (starEach es X.env)).any (·.1) = false := by rfl)
    (ht : eval (.Call (.Attribute o m apos) (e :: es) [] pos) X.env = (do
      let ov ← eval o X.env
      standAt apos.atName
      let (f, first) ← holding [ov] (getMethod ov m pl)
      callWith pos f first (backTo pos (starEach (e :: es) X.env)) (backToKw pos (keywordEach [] X.env))) := by rfl) : PE X (.Call (.Attribute o m apos) (e :: es) [] pos) (tMethS C m sp E ta t) := by
  refine ⟨fun pins s σ H Q I h => ?_⟩
  refine PySem.W.methodCall_KW (pl := pl) (thn (he.run pins s σ H _ I h) fun u s1 got => ?_) ht
  obtain ⟨x, H1, I1, rx, a, dx, fs, ex, ea, l, q⟩ := got
  subst ex
  obtain rfl : u = Value.ref a := rx
  refine getmeth_ok I1 ea c hm l ?_
  refine PySem.W.callWith_K (first := [.ref a]) (h₀ := X.base) I.ok.mod.kin hm.kp (thn (ha.run pos pins s1 σ H1 _ I1 q) fun us s2 got => ?_) hst hpl
  obtain ⟨vs, H2, I2, r, q2⟩ := got
  exact ⟨I2.kIn, run_fnS (us := .ref a :: us) (vs := .ref a :: vs) F hr hb (hx σ) I2 (.cons rfl r) q2⟩
end
inductive HdsB (X : Cx) (n : Str) : List ExceptHandler → List Cls1 → Prop
  | nil : HdsB X n [] []
  | skip {te : Expr} {cs : List Value} {b₀ : Stmt} {suite : List Stmt} {pos' : Pos} {hds : List ExceptHandler} {l : List Cls1} (hc : Clz X te cs) (r : HdsB X n hds l) : HdsB X n (.ExceptHandler (some te) none (b₀ :: suite) pos' :: hds) ((cs, fun _ _ _ _ _ _ => False) :: l)
  | cons {te : Expr} {cs : List Value} {ts : Addr → Value → Option Addr → TS} {b₀ : Stmt} {suite : List Stmt} {pos' : Pos} {hds : List ExceptHandler} {l : List Cls1} (hc : Clz X te cs)
      (hsu : ∀ (a : Addr) (oe : Obj) (cls : Value) (d : Option Addr) (pn : List (Addr × Obj)), L2N.Zn cls d oe → (∃ vs, oe.data = .fields vs) → PSs (X.suite a ((a, oe) :: pn)) (b₀ :: suite) (ts a cls d)) (r : HdsB X n hds l) :
      HdsB X n (.ExceptHandler (some te) (some n) (b₀ :: suite) pos' :: hds) ((cs, ts) :: l)
section
variable {X : Cx} {n : Str} {i : Nat} {body : List Stmt} {h₀ : ExceptHandler} {hds : List ExceptHandler} {l : List Cls1} {pos : Pos} {tb : WX → TS} {Wout : WX}
theorem ps_try_asesB (hs : X.stack = X.env :: X.outer) (hf : X.env.frame = some X.env.locals) (hN : X.N.Nodup) (hi : X.N[i]? = some n) (hln : X.env.kindOf n = some .local) (tk : L2N.Takes X Wout)
    (hb : ∀ (W : WX) (pn : List (Addr × Obj)) (xe : Value → Shared → Prop), L2N.Takes (X.tr pn xe) W → PassesOwn (model X.prog X.w) X.A X.env xe → PSs (X.tr pn xe) body (tb W))
    (hh : HdsB X n (h₀ :: hds) l) : PS X (.Try body (h₀ :: hds) [] [] pos) (fun D σ H => tb (wMs X.K i Wout D l) D σ H) := by
  refine ⟨fun pins s σ H D I h => ?_⟩
  have ok := I.ok
  have hfr : X.A.frames = some (X.env :: X.outer) := by rw [ok.frames, hs]
  refine wpAny_Try_except ?_
  refine wpAny_mono ((hb (wMs X.K i Wout D l) (X.pn ++ pins) (fun e s₁ => wpAny (model X.prog X.w) X.A (noteFrame e X.env) (fun _ s₂ => wpAny (model X.prog X.w) X.A (setFlight e none) (fun _ s₃ =>
    wpAny (model X.prog X.w) X.A (handleBy e X.env (h₀ :: hds)) (SP X pins D) X.xe s₃) X.xe s₂) X.xe s₁) (fun u s' xx => ?_) PassesOwn.looking).run [] s σ H D (I.toTry _) h) (fun f s1 hsp => ?_) (fun e s1 he => he)
  · obtain ⟨a, B, sI, pins', σ', H', cls, d, rfl, J', nb, up, sky, na, os, ag, w⟩ := xx
    have J : Inv X pins σ' H' sI := J'.ofTry ok
    have sky' : Sky B (X.env :: X.outer) a (L2N.Zn cls d) X.env.locals s'.heap := by rw [← hs]; exact sky
    show wpAny (model X.prog X.w) X.A (noteFrame (.ref a) X.env) _ _ _
    refine L2N.Sky.land L2N.Zn.steady hfr hf sky' fun h1 fl1 up1 => ?_
    have go : ∀ {hs' : List ExceptHandler} {l' : List Cls1}, HdsB X n hs' l' → wMs X.K i Wout D l' cls d σ' H' → ∀ h3, HandSPX.FlyingZ B (X.env :: X.outer) a (L2N.Zn cls d) h3 → s'.heap.UpToSlots h3 →
        wpAny (model X.prog X.w) X.A (handleBy (.ref a) X.env hs') (SP X pins D) X.xe { s' with heap := h3 } := by
      intro hs' l' hk
      induction hk with
      | nil =>
        intro w h3 fl3 up3
        refine wpAny_handleBy_nil ?_
        obtain ⟨k1, k2, k3, oe, vs, T, oT, ts', he, hz, hd, h1, hr⟩ := id fl3
        unfold PySem.passOn
        refine wpAny_bind (wpAny_field he hd h1 ?_)
        rw [if_neg (show ¬ ((Value.ref T == Value.none) = true) from by simp)]
        have fin : wpAny (model X.prog X.w) X.A (setFlight (.ref a) X.env.frame) (fun _ s4 => wpAny (model X.prog X.w) X.A (throw (.ref a) : Sem Flow) (SP X pins D) X.xe s4) X.xe { s' with heap := h3 } := by
          rw [hf]
          refine HandSPX.setFlight_upZ fl3 fun h4 hh4 up4 => wpAny_throw (tk _ _ ?_)
          exact ⟨a, B, sI, pins, σ', H', cls, d, rfl, J, nb, (up.trans up3).trans up4, .inr (.inr (by rw [hs]; exact hh4)), na, os, ag, w⟩
        first
          | exact wpAny_bind (wpAny_pure (wpAny_bind fin))
          | exact wpAny_bind fin
      | @skip te cs b₀ suite pos' hds2 l2 hc r ih =>
        intro w h3 fl3 up3
        obtain ⟨b, hb1, hyes, hno⟩ := w
        have J3 : Inv X pins σ' H' { s' with heap := h3 } := J.landed nb fl3.1 (up.trans up3) os ag
        obtain ⟨oe3, vs3, he3, hz3, hd3⟩ := fl3.there
        have nfr : a ∉ frs (X.env :: X.outer) := fun hm => by
          obtain ⟨_, o', e', hnf⟩ := fl3.2.2.1.mem hm
          rw [he3] at e'
          cases e'
          exact hnf _ hd3
        have nL : a ≠ X.env.locals := fun z => nfr (List.mem_filterMap.mpr ⟨X.env, List.mem_cons_self, by rw [hf, z]⟩)
        have nF : a ∉ X.fs := fun hm => by
          obtain ⟨e, he, q⟩ := List.mem_filterMap.mp hm
          exact nfr (List.mem_filterMap.mpr ⟨e, List.mem_cons_of_mem _ he, q⟩)
        have S3 := J3.suite he3 hd3 na nL nF
        have LT : PySem.W.Looks (model X.prog X.w) h3 (typeOf (.ref a)) cls := fun A Q E s k q => wpAny_typeOf_ref (k _ _ he3) (by rw [hz3.1]; exact q)
        cases b with
        | true => exact (hyes rfl a na).elim
        | false =>
          refine wpAny_handleBy_cons (codeAny_handlers_test (clz_run hc S3 LT hb1 fun h4 kp => ?_)) (by intro q; cases q)
          exact ih (hno rfl) h4 (flying_keep kp fl3) (up3.trans (Heap.UpToSlots.of_keeps kp))
      | @cons te cs ts b₀ suite pos' hds2 l2 hc hsu r ih =>
        intro w h3 fl3 up3
        obtain ⟨b, hb1, hyes, hno⟩ := w
        have J3 : Inv X pins σ' H' { s' with heap := h3 } := J.landed nb fl3.1 (up.trans up3) os ag
        obtain ⟨oe3, vs3, he3, hz3, hd3⟩ := fl3.there
        have nfr : a ∉ frs (X.env :: X.outer) := fun hm => by
          obtain ⟨_, o', e', hnf⟩ := fl3.2.2.1.mem hm
          rw [he3] at e'; cases e'
          exact hnf _ hd3
        have nL : a ≠ X.env.locals := fun z => nfr (List.mem_filterMap.mpr ⟨X.env, List.mem_cons_self, by rw [hf, z]⟩)
        have nF : a ∉ X.fs := fun hm => by
          obtain ⟨e, he, q⟩ := List.mem_filterMap.mp hm
          exact nfr (List.mem_filterMap.mpr ⟨e, List.mem_cons_of_mem _ he, q⟩)
        have S3 := J3.suite he3 hd3 na nL nF
        have LT : PySem.W.Looks (model X.prog X.w) h3 (typeOf (.ref a)) cls := fun A Q E s k q => wpAny_typeOf_ref (k _ _ he3) (by rw [hz3.1]; exact q)
        refine wpAny_handleBy_cons (codeAny_handlers_test (clz_run hc S3 LT hb1 fun h4 kp => ?_)) (by intro q; cases q)
        have fl4 := flying_keep kp fl3
        have up4 : s'.heap.UpToSlots h4 := up3.trans (Heap.UpToSlots.of_keeps kp)
        cases b with
        | true =>
          refine codeAny_handlers_suite_as ?_
          refine HandSPX.lands_againZ fl4 fun h5 fl5 up5 => ?_
          have J5 : Inv X pins σ' H' { s' with heap := h5 } := J.landed nb fl5.1 ((up.trans up4).trans up5) os ag
          obtain ⟨oe5, vs5, he5, hz5, hd5⟩ := fl5.there
          have S5 := J5.suite he5 hd5 na nL nF
          refine store_ok (X := X.suite a ((a, oe5) :: (X.pn ++ pins))) (v := .ref a) S5 hN hi (.inl hln) rfl (fun s6 S6 => ?_) (.inr hln)
          refine wpAny_mono ((hsu a oe5 cls d (X.pn ++ pins) hz5 ⟨_, hd5⟩).run [] s6 _ H' _ S6 (hyes rfl a na)) (fun f s7 hsp => ?_) (fun _ _ z => False.elim z)
          have end_ : ∀ {σ7 : L2.St} {H7 : Hp} {Q : Shared → Prop}, Inv (X.suite a ((a, oe5) :: (X.pn ++ pins))) [] σ7 H7 s7 → (∀ s8, Inv X pins (σ7.set i none) H7 s8 → Q s8) →
              wpAny (model X.prog X.w) X.A (do bindName X.env n .none; unbindBehindTheSuite X.env n pos') (fun _ s8 => Q s8) X.xe s7 := fun {σ7 H7 Q} S7 hq => gone_ok (S7.unsuite ok) hN hi hln hq
          cases f with
          | next =>
            obtain ⟨σ7, H7, S7, q7⟩ := hsp
            exact end_ S7 fun s8 J8 => ⟨_, _, J8, q7⟩
          | brk =>
            obtain ⟨σ7, H7, S7, q7⟩ := hsp
            exact end_ S7 fun s8 J8 => ⟨_, _, J8, q7⟩
          | cont =>
            obtain ⟨σ7, H7, S7, q7⟩ := hsp
            exact end_ S7 fun s8 J8 => ⟨_, _, J8, q7⟩
          | ret u =>
            obtain ⟨v7, σ7, H7, S7, r7, q7⟩ := hsp
            exact end_ S7 fun s8 J8 => ⟨_, _, _, J8, r7, q7⟩
        | false =>
          show wpAny _ X.A (handleBy (.ref a) X.env hds2) _ _ _
          exact ih (hno rfl) h4 fl4 up4
    exact go hh w h1 fl1 up1
  · cases f with
    | next =>
      obtain ⟨σ', H', J', q⟩ := hsp
      exact wpAny_execs_nil ⟨σ', H', J'.ofTry ok, q⟩
    | brk =>
      obtain ⟨σ', H', J', q⟩ := hsp
      exact ⟨σ', H', J'.ofTry ok, q⟩
    | cont =>
      obtain ⟨σ', H', J', q⟩ := hsp
      exact ⟨σ', H', J'.ofTry ok, q⟩
    | ret u =>
      obtain ⟨v, σ', H', J', r, q⟩ := hsp
      exact ⟨v, σ', H', J'.ofTry ok, r, q⟩
end
end L2E
namespace L2E
open PySem PySem.Spec PyProof.Rows L2
/-! ### C(e, ..) that may raise, within a try -/
section
variable {X : Cx} {CX : CXT} {k : Nat} {f C : Addr} {fd : FuncData} {ps : List Str} {sp : Sp} {E : L2.St → XK} {x : Str} {p pos : Pos} {e : Expr} {es : List Expr} {t : TA}
def tMakeS (C : Addr) (sp : Sp) (E : L2.St → XK) (t : TA) : TE := fun σ H Q => t σ H fun vs H1 => ∀ x dx, H1 x = none → H1 dx = none → dx ≠ x → sp (.ref x :: vs) (upd (upd H1 dx (.own x)) x (.ins C dx [])) (fun v H2 => v = .non ∧ Q (.ref x) H2) (E σ)
theorem pe_makeS (M : Mk X.K C f) (F : FnOk X.prog X.w X.K X.mg X.base CX k f fd ps sp) (hr : Room (k + 1) X.A) (hg : Gl X x) (hm : X.mg x = some (.ref C)) (hb : Binds X.K fd ps []) (hx : ∀ σ, PassesAt CX X σ (E σ))
    (ha : PA X (e :: es) t) (hdb : (x == ("__debug__" : Str)) = false := by decide) (he : starEach (e :: es) X.env = (false, eval e X.env) :: starEach es X.env := by rfl) (hpl : (backTo pos (starEach es X.env)).any (·.1) = false := by rfl) :
    PE X (.Call (.Name x p) (e :: es) [] pos) (tMakeS C sp E t) := by
  refine ⟨fun pins s0 σ H0 Q I0 h0 => ?_⟩
  refine wpAny_Call_Name_kw (ld_glob I0 hg hm ?_ hdb)
  refine PySem.W.callWith_K (h₀ := X.base) I0.ok.mod.kin M.kp (thn (ha.run pos pins s0 σ H0 _ I0 h0) fun us s got => ?_) he hpl
  obtain ⟨vs, H, I, r, h⟩ := got
  refine ⟨I.kIn, ?_⟩
  have hq := h (s.heap.objs.size + 1) s.heap.objs.size (I.hok.fresh (Nat.le_succ _)) (I.hok.fresh (Nat.le_refl _)) (Nat.ne_of_lt (Nat.lt_succ_self _))
  have I2 := Inv.made (C := C) I
  have r2 : Vals (V.ref (s.heap.objs.size + 1) :: vs) (Value.ref (s.heap.objs.size + 1) :: us) := .cons rfl r
  have hl : (Value.ref (s.heap.objs.size + 1) :: us).length = ps.length := by
    have e := r2.length
    rw [F.len _ _ _ _ hq] at e
    exact e.symm
  have b := hb _ (Value.ref (s.heap.objs.size + 1) :: us) I2.kIn (by rw [List.append_nil]; exact hl)
  rw [List.append_nil] at b
  refine wpAny_call (make_map (f := f) I.kIn M.makes M.init (beq_iff_eq.mp M.fn) (codeAny_mono (F.run _ X.stack _ _ ⟨Value.ref (s.heap.objs.size + 1) :: us, []⟩ (Value.ref (s.heap.objs.size + 1) :: us) _ _ (E σ) (hr.make C us [])
    (I2.env0.make C us []) b r2 hq) fun rr s' hq' => ?_))
  cases rr with
  | error e => exact hx σ pins _ _ e s' I2 hq'
  | ok fl =>
    cases fl with
    | ret u =>
      obtain ⟨v, H', I3, rv, ev, q3⟩ := I2.after hq'
      subst ev
      exact ⟨rv, ⟨V.ref (s.heap.objs.size + 1), H', I3, rfl, q3⟩⟩
    | next => exact False.elim hq'
    | brk => exact False.elim hq'
    | cont => exact False.elim hq'
end
end L2E
/-! list(zip(s, t)) of two tuples -/
namespace LZ
open PySem PySem.Spec PyProof.Rows L2 RZ
open PySem.W (kdx_alive)
/-- a zip over two tuples, i pairs out of it: the first of them is still held -/
structure ZS (z TI TO i1 i2 l1 l2 S : Addr) (xs ys : Array Value) (h : Heap) (i : Nat) : Prop where
  zp : IsZip h z TI TO .none ∨ ∃ T f o, PySem.IsZipHeld h z TI TO T f ∧ h.get? T = some o ∧ T ≠ z ∧ T ≠ TO ∧ T ≠ i1 ∧ T ≠ i2 ∧ T ≠ S
  ti : IsPair h TI (.ref i1) (.ref i2)
  to : ∃ a b, IsPair h TO a b
  n1 : h.IsTupleIter i1 l1 i
  n2 : h.IsTupleIter i2 l2 i
  s1 : h.IsTuple l1 xs
  s2 : h.IsTuple l2 ys
variable {z TI TO i1 i2 l1 l2 S : Addr} {xs ys : Array Value} {i : Nat}
/-- another object changes -/
theorem ZS.kept {h h' : Heap} (q : ZS z TI TO i1 i2 l1 l2 S xs ys h i) (n : S ≠ z ∧ S ≠ TI ∧ S ≠ TO ∧ S ≠ i1 ∧ S ≠ i2 ∧ S ≠ l1 ∧ S ≠ l2) (k : ∀ c o, c ≠ S → h.get? c = some o → h'.get? c = some o) : ZS z TI TO i1 i2 l1 l2 S xs ys h' i := by
  obtain ⟨m1, m2, m3, m4, m5, m6, m7⟩ := n
  obtain ⟨a, b, ⟨u, v, c⟩, d, e, f, g⟩ := q
  refine ⟨?_, k _ _ m2.symm b, ⟨u, v, k _ _ m3.symm c⟩, d.at fun o x => k _ o m4.symm x, e.at fun o x => k _ o m5.symm x, f.at fun o x => k _ o m6.symm x, g.at fun o x => k _ o m7.symm x⟩
  rcases a with a | ⟨T, f, o, a1, a2, a3, a4, a5, a6, a7⟩
  · exact .inl (k _ _ m1.symm a)
  · exact .inr ⟨T, f, o, k _ _ m1.symm a1, k _ _ a7 a2, a3, a4, a5, a6, a7⟩
section
variable {prog : Program} {w : World} {A : Around} {E : Value → Shared → Prop} {s : Shared}
theorem held_item {T : Addr} {f : Bool} {ob : Obj} {j k : Nat} {x y : Value} {Q : Value → Shared → Prop} (D : ZipApart z TI TO i1 i2 l1 l2) (hz : PySem.IsZipHeld s.heap z TI TO T f) (ht : s.heap.get? T = some ob) (hp : IsPair s.heap TI (.ref i1) (.ref i2))
    (a1 : s.heap.IsTupleIter i1 l1 j) (a2 : s.heap.IsTupleIter i2 l2 k) (b1 : s.heap.IsTuple l1 xs) (b2 : s.heap.IsTuple l2 ys) (ex : xs[j]? = some x) (ey : ys[k]? = some y)
    (q : ∀ g, PySem.IsZipHeld g z TI TO T true → g.IsTupleIter i1 l1 (j + 1) → g.IsTupleIter i2 l2 (k + 1) → IsPair g s.heap.objs.size x y → g.objs.size = s.heap.objs.size + 1 →
      (∀ c o, c ≠ z → c ≠ i1 → c ≠ i2 → s.heap.get? c = some o → g.get? c = some o) → Q (.ref s.heap.objs.size) { s with heap := g }) :
    wpAny (model prog w) A (Builtin.«zip.__next__» ⟨[.ref z], []⟩) (fun fin s' => ∃ v, fin = .done (.ret v) ∧ Q v s') E s := by
  show wpAny _ _ (field (.ref z) 2 >>= _) _ _ _
  refine wpAny_bind (wpAny_field hz rfl (x := .bool false) rfl ?_)
  show wpAny _ _ (field (.ref z) 3 >>= _) _ _ _
  refine wpAny_bind (wpAny_field hz rfl (x := .ref TI) rfl ?_)
  refine wpAny_bind (wpAny_seqItems hp rfl ?_)
  show wpAny _ _ (Builtin.SmallTypes.ownedTupleIsFree (.ref z) >>= _) _ _ _
  refine wpAny_bind (PySem.wpAny_tupleHeld_zip hz ht fun g1 c1 e1 => ?_)
  simp only [Bool.false_eq_true, if_false]
  refine wpAny_bind ?_
  rw [← Array.forIn_toList]
  simp only [List.forIn_cons, List.forIn_nil]
  refine wpAny_bind (wpAny_bind (wpAny_holding ?_))
  show wpAny _ _ (Builtin.SmallTypes.nextOf (.ref i1) >>= _) _ _ _
  refine wpAny_bind (nextOf_tuple_item (s := { s with heap := g1 }) (a1.extBut e1.extBut D.i1z) (b1.extBut e1.extBut D.l1z) ex fun g2 c2 e2 => wpAny_pure (wpAny_pure ?_))
  refine wpAny_bind (wpAny_bind (wpAny_holding ?_))
  show wpAny _ _ (Builtin.SmallTypes.nextOf (.ref i2) >>= _) _ _ _
  refine wpAny_bind (nextOf_tuple_item (s := { s with heap := g2 }) ((a2.extBut e1.extBut D.i2z).extBut e2.extBut D.i12.symm) ((b2.extBut e1.extBut D.l2z).extBut e2.extBut D.l2i1) ey fun g3 c3 e3 => wpAny_pure (wpAny_pure (wpAny_pure ?_)))
  show wpAny _ _ (newTuple [x, y] >>= _) _ _ _
  refine wpAny_bind (wpAny_newTuple (wpAny_pure ⟨_, rfl, ?_⟩))
  have es : g3.objs.size = s.heap.objs.size := by rw [e3.1, e2.1, e1.1]
  have z3 : PySem.IsZipHeld g3 z TI TO T true := e3.extBut _ _ D.i2z.symm (e2.extBut _ _ D.i1z.symm c1)
  have k3 : ∀ c o, c ≠ z → c ≠ i1 → c ≠ i2 → s.heap.get? c = some o → g3.get? c = some o := fun c o x1 x2 x3 e => e3.extBut _ _ x3 (e2.extBut _ _ x2 (e1.extBut _ _ x1 e))
  have t3 : g3.IsTupleIter i1 l1 (j + 1) := c2.extBut e3.extBut D.i12
  show Q (.ref g3.objs.size) _
  have p4 : IsPair (g3.push { cls := .type "tuple", data := .seq #[x, y] }) g3.objs.size x y := Heap.get?_push_size _ rfl
  have n4 : (g3.push { cls := .type "tuple", data := .seq #[x, y] }).objs.size = g3.objs.size + 1 := Heap.size_push ..
  rw [es] at p4 n4 ⊢
  exact q _ (Heap.get?_push_of_some _ z3) (t3.at fun o e => Heap.get?_push_of_some _ e) (c3.at fun o e => Heap.get?_push_of_some _ e) p4 n4 fun c o x1 x2 x3 e => Heap.get?_push_of_some _ (k3 c o x1 x2 x3 e)
theorem held_end {T : Addr} {f : Bool} {ob : Obj} {j k : Nat} {Q : PySem.Fin → Shared → Prop} (hd : A.handled = none) (D : ZipApart z TI TO i1 i2 l1 l2) (hz : PySem.IsZipHeld s.heap z TI TO T f) (ht : s.heap.get? T = some ob) (hp : IsPair s.heap TI (.ref i1) (.ref i2))
    (a1 : s.heap.IsTupleIter i1 l1 j) (a2 : s.heap.IsTupleIter i2 l2 k) (b1 : s.heap.IsTuple l1 xs) (b2 : s.heap.IsTuple l2 ys) (ex : xs[j]? = none)
    (q : ∀ g e, (∀ c o, c ≠ z → c ≠ i1 → c ≠ i2 → s.heap.get? c = some o → g.get? c = some o) → (∃ o, g.get? e = some o ∧ o.cls = .type "StopIteration") → E (.ref e) { s with heap := g }) :
    wpAny (model prog w) A (Builtin.«zip.__next__» ⟨[.ref z], []⟩) Q E s := by
  show wpAny _ _ (field (.ref z) 2 >>= _) _ _ _
  refine wpAny_bind (wpAny_field hz rfl (x := .bool false) rfl ?_)
  show wpAny _ _ (field (.ref z) 3 >>= _) _ _ _
  refine wpAny_bind (wpAny_field hz rfl (x := .ref TI) rfl ?_)
  refine wpAny_bind (wpAny_seqItems hp rfl ?_)
  show wpAny _ _ (Builtin.SmallTypes.ownedTupleIsFree (.ref z) >>= _) _ _ _
  refine wpAny_bind (PySem.wpAny_tupleHeld_zip hz ht fun g1 c1 e1 => ?_)
  simp only [Bool.false_eq_true, if_false]
  refine wpAny_bind ?_
  rw [← Array.forIn_toList]
  simp only [List.forIn_cons, List.forIn_nil]
  refine wpAny_bind (wpAny_bind (wpAny_holding ?_))
  show wpAny _ _ (Builtin.SmallTypes.nextOf (.ref i1) >>= _) _ _ _
  refine wpAny_bind (nextOf_tuple_end (s := { s with heap := g1 }) hd (a1.extBut e1.extBut D.i1z) (b1.extBut e1.extBut D.l1z) ex fun g2 e e2 he => ?_)
  exact q g2 e (fun c o x1 x2 _ x => e2 _ _ x2 (e1.extBut _ _ x1 x)) he
/-- the next pair -/
theorem zs_item {x y : Value} {Q : Option Value → Shared → Prop} (D : ZipApart z TI TO i1 i2 l1 l2) (hSz : S < s.heap.objs.size) (st : ZS z TI TO i1 i2 l1 l2 S xs ys s.heap i) (ex : xs[i]? = some x) (ey : ys[i]? = some y)
    (q : ∀ g, ZS z TI TO i1 i2 l1 l2 S xs ys g (i + 1) → IsPair g s.heap.objs.size x y → g.objs.size = s.heap.objs.size + 1 → (∀ c o, c ≠ z → c ≠ TO → c ≠ i1 → c ≠ i2 → s.heap.get? c = some o → g.get? c = some o) → Q (some (.ref s.heap.objs.size)) { s with heap := g }) :
    wpAny (model prog w) A (pyNext (.ref z)) Q E s := by
  obtain ⟨zp, ti, ⟨u, v, to⟩, n1, n2, s1, s2⟩ := st
  have lz : ∀ {c o}, s.heap.get? c = some o → s.heap.objs.size ≠ c := fun h => Nat.ne_of_gt (Heap.lt_size h)
  obtain ⟨o1, g1, r1⟩ := id n1
  obtain ⟨o2, g2, r2⟩ := id n2
  obtain ⟨o3, g3, r3⟩ := id s1
  obtain ⟨o4, g4, r4⟩ := id s2
  rcases zp with hz | ⟨T, f, o, hz, ht, m1, m2, m3, m4, m5⟩
  · refine pyNext_zipT_item D hz ti to n1 n2 s1 s2 ex ey fun g z' to' n1' n2' pr sz k => q g ⟨.inr ⟨s.heap.objs.size, false, _, z', pr, lz hz, lz to, lz g1, lz g2, Nat.ne_of_gt hSz⟩, ?_, ⟨_, _, to'⟩, n1', n2', ?_, ?_⟩ pr sz k
    · exact k _ _ D.TIz D.TITO D.TIi1 D.TIi2 ti
    · exact s1.at fun o e => k _ o D.l1z D.l1TO D.l1i1 D.l1i2 e
    · exact s2.at fun o e => k _ o D.l2z D.l2TO D.l2i1 D.l2i2 e
  · have hy : s.TypeIs (.ref z) "zip" := ⟨_, hz, rfl⟩
    unfold pyNext
    refine wpAny_bind (wpAny_attempt (wpAny_callSpecial?_slot (name := Str.ofString "__next__") hy F.slot_zip_next (wpAny_call_entry F.slot_zip_next hy F.entry_zip_next
      (held_item D hz ht ti n1 n2 s1 s2 ex ey fun g z' n1' n2' pr sz k => wpAny_pure (q g ⟨.inr ⟨T, true, o, z', ?_, m1, m2, m3, m4, m5⟩, ?_, ⟨u, v, ?_⟩, n1', n2', ?_, ?_⟩ pr sz fun c o x1 _ x3 x4 e => k c o x1 x3 x4 e)) (F.args_zip_next_1 _))))
    · exact k _ _ m1 m3 m4 ht
    · exact k _ _ D.TIz D.TIi1 D.TIi2 ti
    · exact k _ _ D.TOz D.TOi1 D.TOi2 to
    · exact s1.at fun o e => k _ o D.l1z D.l1i1 D.l1i2 e
    · exact s2.at fun o e => k _ o D.l2z D.l2i1 D.l2i2 e
theorem zs_end {Q : Option Value → Shared → Prop} (hd : A.handled = none) (D : ZipApart z TI TO i1 i2 l1 l2) (st : ZS z TI TO i1 i2 l1 l2 S xs ys s.heap i) (ex : xs[i]? = none)
    (q : ∀ g, (∀ c o, c ≠ z → c ≠ TO → c ≠ i1 → c ≠ i2 → s.heap.get? c = some o → g.get? c = some o) → Q none { s with heap := g }) : wpAny (model prog w) A (pyNext (.ref z)) Q E s := by
  obtain ⟨zp, ti, ⟨u, v, to⟩, n1, n2, s1, s2⟩ := st
  rcases zp with hz | ⟨T, f, o, hz, ht, m1, m2, m3, m4, m5⟩
  · exact pyNext_zipT_end hd D hz ti to n1 n2 s1 s2 (.inl ex) q
  · have hy : s.TypeIs (.ref z) "zip" := ⟨_, hz, rfl⟩
    unfold pyNext
    refine wpAny_bind (wpAny_attempt (wpAny_callSpecial?_slot (name := Str.ofString "__next__") hy F.slot_zip_next (wpAny_call_entry F.slot_zip_next hy F.entry_zip_next
      (held_end hd D hz ht ti n1 n2 s1 s2 ex fun g e k he => ?_) (F.args_zip_next_1 _))))
    obtain ⟨ob, ho, hc⟩ := he
    refine wpAny_bind (wpAny_isInstance (T := "StopIteration") (b := true) ⟨ob, ho, hc⟩ isSubtype_stop ?_)
    exact wpAny_pure (q _ fun c o x1 _ x3 x4 e => k c o x1 x3 x4 e)
/-- what is out: the pairs at as -/
structure Out (S : Addr) (xs ys : Array Value) (h : Heap) (as : List Addr) : Prop where
  at_ : ∀ (j : Nat) (T : Addr), as[j]? = some T → ∃ x y, xs[j]? = some x ∧ ys[j]? = some y ∧ IsPair h T x y
  up : ∀ T ∈ as, S < T
  rise : as.Pairwise (· < ·)
  lt : ∀ T ∈ as, T < h.objs.size
abbrev lsO (acc : Array Value) (c : Nat) : Obj := { cls := .type "list", dict := none, data := .seq acc c, slots := #[] }
theorem Out.kept {h h' : Heap} {as : List Addr} (q : Out S xs ys h as) (k : ∀ c o, S < c → h.get? c = some o → h'.get? c = some o) : Out S xs ys h' as := by
  have one : ∀ (j : Nat) (T : Addr), as[j]? = some T → ∃ x y, xs[j]? = some x ∧ ys[j]? = some y ∧ IsPair h' T x y := fun j T e => by
    obtain ⟨x, y, a, b, c⟩ := q.at_ j T e
    exact ⟨x, y, a, b, k _ _ (q.up T (List.mem_of_getElem? e)) c⟩
  refine ⟨one, q.up, q.rise, fun T ht => ?_⟩
  obtain ⟨j, e⟩ := List.mem_iff_getElem?.mp ht
  obtain ⟨x, y, _, _, p⟩ := one j T e
  exact Heap.lt_size p
theorem Out.more {h : Heap} {as : List Addr} {T : Addr} {x y : Value} (q : Out S xs ys h as) (hx : xs[as.length]? = some x) (hy : ys[as.length]? = some y) (p : IsPair h T x y) (hS : S < T) (hb : ∀ t ∈ as, t < T) : Out S xs ys h (as ++ [T]) := by
  refine ⟨fun j t e => ?_, fun t ht => ?_, ?_, fun t ht => ?_⟩
  · by_cases hj : j < as.length
    · rw [List.getElem?_append_left hj] at e
      exact q.at_ j t e
    · rw [List.getElem?_append_right (by omega)] at e
      have hl := (List.getElem?_eq_some_iff.mp e).1
      rw [List.length_singleton] at hl
      have ej : j = as.length := by omega
      rw [ej, Nat.sub_self] at e
      rw [← Option.some.inj (show some T = some t from e), ej]
      exact ⟨x, y, hx, hy, p⟩
  · rcases List.mem_append.mp ht with ht | ht
    · exact q.up t ht
    · rw [List.mem_singleton.mp ht]
      exact hS
  · refine List.pairwise_append.mpr ⟨q.rise, List.pairwise_singleton _ _, fun a ha b hb' => ?_⟩
    rw [List.mem_singleton.mp hb']
    exact hb a ha
  · rcases List.mem_append.mp ht with ht | ht
    · exact q.lt t ht
    · rw [List.mem_singleton.mp ht]
      exact Heap.lt_size p
theorem zs_loop {R : Result → Shared → Prop} {res : Value} (hd : A.handled = none) (D : ZipApart z TI TO i1 i2 l1 l2) (ap : S ≠ z ∧ S ≠ TI ∧ S ≠ TO ∧ S ≠ i1 ∧ S ≠ i2 ∧ S ≠ l1 ∧ S ≠ l2) (lo : z < S ∧ TO < S ∧ i1 < S ∧ i2 < S) (hxy : ys.size = xs.size) (hbig : xs.size ≤ sizeLine) :
    ∀ (k i : Nat) (s : Shared) (as : List Addr) (acc : Array Value) (c : Nat), xs.size - i = k → i ≤ xs.size → ZS z TI TO i1 i2 l1 l2 S xs ys s.heap i → s.heap.get? S = some (lsO acc c) → acc.toList = as.map Value.ref → as.length = i → Out S xs ys s.heap as →
    (∀ h' as' acc' c', (∀ c o, c ≠ S → c ≠ z → c ≠ TO → c ≠ i1 → c ≠ i2 → s.heap.get? c = some o → h'.get? c = some o) → h'.get? S = some (lsO acc' c') → acc'.toList = as'.map Value.ref → as'.length = xs.size → Out S xs ys h' as' → R (.ok (.ret res)) { s with heap := h' }) →
    codeAny (model prog w) A (.builtin "list.extend.loop" ⟨[.ref S, .ref z, res], []⟩) R s := by
  have off : ∀ {b : Addr}, S < b → b ≠ z ∧ b ≠ TO ∧ b ≠ i1 ∧ b ≠ i2 := fun h => ⟨Nat.ne_of_gt (Nat.lt_trans lo.1 h), Nat.ne_of_gt (Nat.lt_trans lo.2.1 h), Nat.ne_of_gt (Nat.lt_trans lo.2.2.1 h), Nat.ne_of_gt (Nat.lt_trans lo.2.2.2 h)⟩
  intro k
  induction k with
  | zero =>
    intro i s as acc c hk hi st hS hc hl ho q
    have e : i = xs.size := by omega
    refine codeAny_builtin F.entry_extend_loop ?_
    rw [Around.under_plainId F.plain_extend_loop _]
    show wpAny _ A.in1 (pyNext (.ref z) >>= _) _ _ s
    refine wpAny_bind (zs_end hd D st (by rw [e]; simp) fun g kg => wpAny_pure (q g as acc c (fun b o n0 n1 n2 n3 n4 x => kg b o n1 n2 n3 n4 x) (kg S _ ap.1 ap.2.2.1 ap.2.2.2.1 ap.2.2.2.2.1 hS) hc (by omega) ?_))
    exact ho.kept fun b o hb x => kg b o (off hb).1 (off hb).2.1 (off hb).2.2.1 (off hb).2.2.2 x
  | succ k ih =>
    intro i s as acc c hk hi st hS hc hl ho q
    have hlt : i < xs.size := by omega
    have hlt2 : i < ys.size := by omega
    have hSs : S < s.heap.objs.size := Heap.lt_size hS
    have hac : acc.size = i := by
      have := congrArg List.length hc
      rw [List.length_map, Array.length_toList] at this
      omega
    refine codeAny_builtin F.entry_extend_loop ?_
    rw [Around.under_plainId F.plain_extend_loop _]
    show wpAny _ A.in1 (pyNext (.ref z) >>= _) _ _ s
    refine wpAny_bind (zs_item D hSs st (Array.getElem?_eq_getElem hlt) (Array.getElem?_eq_getElem hlt2) fun g st' pr sz kg => ?_)
    have hS1 := kg S _ ap.1 ap.2.2.1 ap.2.2.2.1 ap.2.2.2.2.1 hS
    have oth : ∀ b o, b ≠ S → g.get? b = some o → (g.update S (Obj.mapSeq (·.push (.ref s.heap.objs.size)))).get? b = some o := fun b o hb x => (Heap.get?_update_other _ _ (Ne.symm hb)).trans x
    show wpAny _ A.in1 (updateSeq S (·.push (.ref s.heap.objs.size)) >>= _) _ _ _
    refine wpAny_bind ?_
    refine wpAny_updateSeq hS1 rfl (wpAny_pure ⟨plainId_quiet F.plain_extend_loop _, ?_⟩) (by rw [hac]; omega) (by show (acc.push _).size ≤ sizeLine + 1; rw [Array.size_push, hac]; omega)
    have hS2 := Heap.get?_update_self (Obj.mapSeq (·.push (Value.ref s.heap.objs.size))) hS1 rfl
    have o1 : Out S xs ys g as := ho.kept fun b o hb x => kg b o (off hb).1 (off hb).2.1 (off hb).2.2.1 (off hb).2.2.2 x
    have o2 : Out S xs ys g (as ++ [s.heap.objs.size]) := o1.more (by rw [hl]; exact Array.getElem?_eq_getElem hlt) (by rw [hl]; exact Array.getElem?_eq_getElem hlt2) pr hSs ho.lt
    refine ih (i + 1) _ (as ++ [s.heap.objs.size]) (acc.push (.ref s.heap.objs.size)) _ (by omega) (by omega) (st'.kept ap oth) hS2 ?_ ?_ (o2.kept fun b o hb x => oth b o (Nat.ne_of_gt hb) x) fun h' as' acc' c' k' hS' hc' hl' ho' => ?_
    · rw [Array.toList_push, hc, List.map_append]
      rfl
    · rw [List.length_append, List.length_singleton, hl]
    · refine q h' as' acc' c' (fun b o n0 n1 n2 n3 n4 x => k' b o n0 n1 n2 n3 n4 (oth b o n0 (kg b o n1 n2 n3 n4 x))) hS' hc' hl' ho'
theorem zip_no_len : typeLookup (.type "zip") "__len__" = pure none := by
  rw [typeLookup_type, builtinLookup_eq_fast]
  kernel_rfl
theorem zip_no_hint : typeLookup (.type "zip") "__length_hint__" = pure none := by
  rw [typeLookup_type, builtinLookup_eq_fast]
  kernel_rfl
theorem ZS.isZip {h : Heap} (q : ZS z TI TO i1 i2 l1 l2 S xs ys h i) : ∃ f g, h.get? z = some { cls := .type "zip", dict := none, data := .fields #[f, g, .bool false, .ref TI, .ref TO], slots := #[] } := by
  rcases q.zp with a | ⟨T, f, o, a, _⟩
  · exact ⟨_, _, a⟩
  · exact ⟨_, _, a⟩
theorem list_zip {Q : Value → Shared → Prop} (hd : A.handled = none) (D : ZipApart z TI TO i1 i2 l1 l2) (lo : z < s.heap.objs.size ∧ TI < s.heap.objs.size ∧ TO < s.heap.objs.size ∧ i1 < s.heap.objs.size ∧ i2 < s.heap.objs.size ∧ l1 < s.heap.objs.size ∧ l2 < s.heap.objs.size) (hxy : ys.size = xs.size) (hbig : xs.size ≤ sizeLine)
    (st : ZS z TI TO i1 i2 l1 l2 s.heap.objs.size xs ys s.heap 0) (hzn : IsZip s.heap z TI TO .none)
    (q : ∀ h' as acc c, (∀ c o, c ≠ z → c ≠ TO → c ≠ i1 → c ≠ i2 → s.heap.get? c = some o → h'.get? c = some o) → h'.get? s.heap.objs.size = some (lsO acc c) → acc.toList = as.map Value.ref → as.length = xs.size → Out s.heap.objs.size xs ys h' as → Q (.ref s.heap.objs.size) { s with heap := h' }) :
    wpAny (model prog w) A (call (.type "list") [.ref z]) Q E s := by
  have ap : s.heap.objs.size ≠ z ∧ s.heap.objs.size ≠ TI ∧ s.heap.objs.size ≠ TO ∧ s.heap.objs.size ≠ i1 ∧ s.heap.objs.size ≠ i2 ∧ s.heap.objs.size ≠ l1 ∧ s.heap.objs.size ≠ l2 := ⟨Nat.ne_of_gt lo.1, Nat.ne_of_gt lo.2.1, Nat.ne_of_gt lo.2.2.1, Nat.ne_of_gt lo.2.2.2.1, Nat.ne_of_gt lo.2.2.2.2.1, Nat.ne_of_gt lo.2.2.2.2.2.1, Nat.ne_of_gt lo.2.2.2.2.2.2⟩
  refine callType_codes (Q₁ := fun obj s1 => obj = .ref s.heap.objs.size ∧ s1 = { s with heap := s.heap.push { cls := .type "list", data := .seq #[] } }) F.called_list (F.typeCall_list_1 _) F.entry_list_init (code_list_new _ ⟨rfl, rfl⟩) fun obj s1 h1 => ?_
  obtain ⟨rfl, rfl⟩ := h1
  have kp : ∀ c o, s.heap.get? c = some o → (s.heap.push { cls := .type "list", data := .seq #[] }).get? c = some o := fun c o e => Heap.get?_push_of_some _ e
  have g0 : (s.heap.push { cls := .type "list", data := .seq #[] }).get? s.heap.objs.size = some { cls := .type "list", data := .seq #[] } := Heap.get?_push_size _ rfl
  have st0 := st.kept ap fun c o _ e => kp c o e
  have z0 := kp _ _ hzn
  generalize hS : s.heap.objs.size = S at *
  generalize (s.heap.push { cls := .type "list", data := .seq #[] }) = h0 at *
  refine ⟨⟨_, g0, rfl⟩, F.args_list_init_2 _ _, ?_⟩
  show wpAny _ A.in1.in1 (do let old ← Builtin.List.listItems (.ref S); Builtin.List.listUpdate (.ref S) (fun _ => #[]); letGo old.toList.reverse; Builtin.List.listExtendWith (.ref S) (.ref z) .none) _ _ _
  refine wpAny_bind ?_
  unfold Builtin.List.listItems
  refine wpAny_bind (wpAny_seqItems g0 rfl (wpAny_pure ?_))
  show wpAny _ A.in1.in1 (updateSeq S (fun _ => #[]) >>= fun _ => letGo (#[] : Array Value).toList.reverse >>= fun _ => Builtin.List.listExtendWith (.ref S) (.ref z) .none) _ _ _
  refine wpAny_bind (wpAny_updateSeq g0 rfl ?_)
  have g1 := Heap.get?_update_self (Obj.mapSeq (fun _ => (#[] : Array Value))) g0 rfl
  have k1 : ∀ b o, b ≠ S → h0.get? b = some o → (h0.update S (Obj.mapSeq (fun _ => (#[] : Array Value)))).get? b = some o := fun b o hb e => (Heap.get?_update_other _ _ (Ne.symm hb)).trans e
  have st1 := st0.kept ap k1
  have z1 : IsZip (h0.update S (Obj.mapSeq (fun _ => (#[] : Array Value)))) z TI TO .none := k1 _ _ ap.1.symm z0
  generalize (h0.update S (Obj.mapSeq (fun _ => (#[] : Array Value)))) = hh1 at *
  refine wpAny_bind (wpAny_letGo ?_)
  have ty : ∀ tk, ({ s with heap := hh1, toks := tk } : Shared).TypeIs (.ref z) "zip" := fun _ => ⟨_, z1, rfl⟩
  unfold Builtin.List.listExtendWith
  refine wpAny_bind (wpAny_typeOf (ty _) ?_)
  have c1 : Builtin.List.listSameRef (.ref S) (.ref z) = false := by simp [Builtin.List.listSameRef, ap.1]
  have c2 : (Value.type "zip" == Value.type "list") = false := by decide
  have c3 : (Value.type "zip" == Value.type "tuple") = false := by decide
  simp only [c1, c2, c3, Bool.or_false, Bool.false_eq_true, if_false]
  refine wpAny_bind (wpAny_pyIter_zip z1 (wpAny_bind (wpAny_holding ?_)))
  unfold Builtin.List.listLengthHint
  refine wpAny_bind (wpAny_specialOf (ty _) zip_no_len ?_)
  show wpAny _ A.in1.in1 (specialOf (Value.ref z) (Str.ofString "__length_hint__") >>= _) _ _ _
  refine wpAny_bind (wpAny_specialOf (ty _) zip_no_hint (wpAny_pure ?_))
  show wpAny _ A.in1.in1 (rule "list.extend.makes-room" >>= fun _ => Builtin.List.listTouch (.ref S) >>= fun _ => again (.builtin "list.extend.loop" ⟨[.ref S, .ref z, .none], []⟩)) _ _ _
  refine wpAny_bind (wpAny_rule (wpAny_bind ?_))
  show wpAny _ A.in1.in1 (updateSeq S (·.push .none) >>= fun _ => updateSeq S (·.pop)) _ _ _
  refine wpAny_bind (wpAny_updateSeq g1 rfl ?_)
  have g2 := Heap.get?_update_self (Obj.mapSeq (·.push Value.none)) g1 rfl
  have k2 : ∀ b o, b ≠ S → hh1.get? b = some o → (hh1.update S (Obj.mapSeq (·.push Value.none))).get? b = some o := fun b o hb e => (Heap.get?_update_other _ _ (Ne.symm hb)).trans e
  have st2 := st1.kept ap k2
  generalize (hh1.update S (Obj.mapSeq (·.push Value.none))) = hh2 at *
  refine wpAny_updateSeq (hz := by seq_fits) g2 rfl ?_
  have g3 := Heap.get?_update_self (Obj.mapSeq (·.pop)) g2 rfl
  have k3 : ∀ b o, b ≠ S → hh2.get? b = some o → (hh2.update S (Obj.mapSeq (·.pop))).get? b = some o := fun b o hb e => (Heap.get?_update_other _ _ (Ne.symm hb)).trans e
  have st3 := st2.kept ap k3
  generalize (hh2.update S (Obj.mapSeq (·.pop))) = hh3 at *
  refine wpAny_pure ⟨plainId_quiet F.plain_extend_loop _, ?_⟩
  obtain ⟨c0, g4⟩ : ∃ c, hh3.get? S = some (lsO #[] c) := ⟨_, g3⟩
  show codeAny _ _ _ _ { s with heap := hh3 }
  refine zs_loop (A := A.in1) (show A.in1.handled = none from hd) D ap ⟨lo.1, lo.2.2.1, lo.2.2.2.1, lo.2.2.2.2.1⟩ hxy hbig xs.size 0 _ [] #[] c0 rfl (Nat.zero_le _) ?_ ?_ rfl rfl ⟨fun j T e => by simp at e, fun T h => by simp at h, List.Pairwise.nil, fun T h => by simp at h⟩ ?_
  · exact st3
  · exact g4
  rintro h' as acc c k' hS' hc' hl' ho'
  refine ⟨rfl, q h' as acc c (fun b o n1 n2 n3 n4 e => ?_) hS' hc' hl' ho'⟩
  have hb : b ≠ S := fun e2 => by
    have := Heap.lt_size e
    rw [e2, hS] at this
    exact Nat.lt_irrefl _ this
  exact k' b o hb n1 n2 n3 n4 (k3 b o hb (k2 b o hb (k1 b o hb (kp b o e))))
end
section
variable {X : Cx}
open LiI in
/-- a new list of new pairs, tracked -/
theorem pairs_laid {pins : List (Addr × Obj)} {σ : L2.St} {H : Hp} {s : Shared} {h' : Heap} {kvs : List (Key × V)} {acc : Array Value} {c : Nat} {as : List Addr} {S : Addr} (I : Inv X pins σ H s) (hk : ∀ b o, s.heap.get? b = some o → h'.get? b = some o) (hSz : s.heap.objs.size ≤ S) (hz : kvs.length ≤ sizeLine)
    (hS : h'.get? S = some (lsO acc c)) (hacc : acc.toList = as.map Value.ref) (hl : as.length = kvs.length) (up : ∀ t ∈ as, S < t) (rise : as.Pairwise (· < ·))
    (prs : ∀ (j : Nat) (T : Addr), as[j]? = some T → ∃ q u v, kvs[j]? = some q ∧ RelV (kV q.1) u ∧ RelV q.2 v ∧ IsPair h' T u v) :
    ∃ H' : Hp, (∀ b o, H b = some o → H' b = some o) ∧ H S = none ∧ (∀ t ∈ as, H t = none) ∧ S ∉ as ∧ H' S = some (.lst (as.map V.ref)) ∧ Paired (fun (t : Addr) (q : Key × V) => H' t = some (.tup [kV q.1, q.2])) as kvs ∧ Inv X pins σ H' { s with heap := h' } := by
  have nS : S ∉ as := fun m => Nat.lt_irrefl _ (up _ m)
  have nd : as.Nodup := rise.imp fun {a b} (h : a < b) => Nat.ne_of_lt h
  have fr : ∀ t ∈ as, H t = none := fun t m => I.hok.fresh (Nat.le_trans hSz (Nat.le_of_lt (up t m)))
  have frS : H S = none := I.hok.fresh hSz
  have at1 := putT_at as kvs (upd H S (.lst (as.map V.ref))) hl nd
  have old : ∀ b, b ∉ as → b ≠ S → putT (upd H S (.lst (as.map V.ref))) as kvs b = H b := fun b m1 m2 => (putT_off as kvs _ m1).trans (upd_ne m2)
  have below : ∀ b o, s.heap.get? b = some o → b ∉ as ∧ b ≠ S := fun b o e => ⟨fun m => absurd (Heap.lt_size e) (Nat.not_lt.mpr (Nat.le_trans hSz (Nat.le_of_lt (up b m)))), fun m => absurd (Heap.lt_size e) (Nat.not_lt.mpr (by rw [m]; exact hSz))⟩
  have keep : ∀ b u, H b = some u → putT (upd H S (.lst (as.map V.ref))) as kvs b = some u := fun b u e => (old b (fun m => by rw [fr b m] at e; cases e) (fun m => by rw [m, frS] at e; cases e)).trans e
  have eS : putT (upd H S (.lst (as.map V.ref))) as kvs S = some (.lst (as.map V.ref)) := (putT_off as kvs _ nS).trans upd_same
  refine ⟨_, keep, frS, fr, nS, eS, at1, ?_⟩
  refine I.call' (ch := []) rfl ⟨fun b o e _ _ _ => hk b o e, fun b o e _ _ _ => ⟨o.slots, hk b o e⟩, fun b o e n _ => ?_, fun b o e _ => ⟨o, hk b o e⟩, fun b xs e => keep b _ e, fun b o u e => keep b _ e, fun b ps e => ⟨#[], by rw [keep b _ e]; simp⟩⟩ (fun b u e => ?_) I.bare fun b m => by simp at m
  · obtain ⟨m1, m2⟩ := below b o e
    rw [old b m1 m2]
    exact n
  · by_cases hb : b ∈ as
    · obtain ⟨j, q, e1, e2, e3⟩ := paired_ix at1 hb
      have eu : u = .tup [kV q.1, q.2] := Option.some.inj (e.symm.trans e3)
      subst eu
      obtain ⟨q', x, y, f1, f2, f3, f4⟩ := prs j b e1
      have eq : q' = q := Option.some.inj (f1.symm.trans e2)
      subst eq
      exact ⟨by show 2 ≤ sizeLine; decide, [x, y], .cons f2 (.cons f3 .nil), ⟨_, f4, rfl, _, rfl⟩⟩
    · by_cases hb2 : b = S
      · subst hb2
        have eu : u = .lst (as.map V.ref) := Option.some.inj (e.symm.trans eS)
        subst eu
        refine ⟨by rw [List.length_map, hl]; exact hz, acc.toList, c, by rw [hacc]; exact vals_refs as, ?_⟩
        rw [Array.toArray_toList]
        exact hS
      · rw [old b hb hb2] at e
        exact (I.hok b u e).stay (fun d v _ y => hk d v y) (fun d y => keep d _ y) fun d l y => keep d _ y
def rListZip (K : PySem.W.Frag) : List V → Hp → VK → Prop := fun vs H Q => ∃ (a b : Addr) (kvs : List (Key × V)), vs = [.ref a, .ref b] ∧ SqT K H a (kvs.map fun p => kV p.1) ∧ SqT K H b (kvs.map (·.2)) ∧ kvs.length ≤ sizeLine ∧
  ∀ (H' : Hp) (p : Addr) (ts : List Addr), (∀ b o, H b = some o → H' b = some o) → H p = none → (∀ t ∈ ts, H t = none) → p ∉ ts → H' p = some (.lst (ts.map V.ref)) → Paired (fun (t : Addr) (q : Key × V) => H' t = some (.tup [kV q.1, q.2])) ts kvs → Q (.ref p) H'
def tListZip (K : PySem.W.Frag) (ta : TA) : TE := fun σ H Q => ta σ H fun vs H1 => rListZip K vs H1 Q
theorem pe_listZip {e e2 : Expr} {ta : TA} {p p2 pos cpos : Pos} (hc : X.calm = true) (hg : Gl X "list") (hm : X.mg "list" = none) (hv : bootBuiltins "list" = some (.type "list")) (hg2 : Gl X "zip") (hm2 : X.mg "zip" = none) (ha : PA X [e, e2] ta)
    (hs : starEach [.Call (.Name "zip" p2) [e, e2] [] cpos] X.env = (false, eval (.Call (.Name "zip" p2) [e, e2] [] cpos) X.env) :: starEach [] X.env := by rfl)
    (hs2 : starEach [e, e2] X.env = (false, eval e X.env) :: starEach [e2] X.env := by rfl) (hpl : (backTo cpos (starEach [e2] X.env)).any (·.1) = false := by rfl) :
    PE X (.Call (.Name "list" p) [.Call (.Name "zip" p2) [e, e2] [] cpos] [] pos) (tListZip X.K ta) := by
  refine ⟨fun pins s σ H Q I hq => ?_⟩
  refine wpAny_Call_Name_kw (ld_blt I hg hm hv (PyProof.Rows.callWith_type1 ?_ hs rfl))
  rw [hs]
  show wpAny _ _ (spliced ((false, eval (.Call (.Name "zip" p2) [e, e2] [] cpos) X.env) :: backTo pos (starEach [] X.env))) _ _ s
  refine Calls.spliced_cons ?_
  refine Call_ (ld_blt I hg2 hm2 PyProof.Rows.boot_zip (PyProof.Rows.callWith_type1 (thn (ha.run cpos pins s σ H _ I hq) fun us s1 h1 => ?_) hs2 hpl))
  obtain ⟨vs, H1, I1, r1, a, b, kvs, ex, hqa, hqb, hz, q⟩ := h1
  subst ex
  cases r1 with
  | cons r rr =>
    cases rr with
    | cons r' rr =>
      cases rr
      cases r
      cases r'
      obtain ⟨its, rv, p1, _⟩ := I1.tuple hqa
      obtain ⟨its2, rv2, p3, _⟩ := I1.tuple hqb
      have len1 := rv.length
      have len2 := rv2.length
      rw [List.length_map] at len1 len2
      obtain ⟨o1, ho1, _⟩ := id p1
      obtain ⟨o2, ho2, _⟩ := id p3
      have la := Heap.lt_size ho1
      have lb := Heap.lt_size ho2
      refine call_zipT (show s1.heap.IsTuple a its.toArray from p1) (show s1.heap.IsTuple b its2.toArray from p3) fun h' hz' hTI hTO n1 n2 hsz hk => Calls.spliced_nil ?_
      have D := PySem.W.ktu_apart s1.heap.objs.size a b la lb
      have lt5 : ∀ c : Addr, c ≤ s1.heap.objs.size + 4 → c < ({ s1 with heap := h' } : Shared).heap.objs.size := fun c hc' => by
        show c < h'.objs.size
        rw [hsz]
        exact Nat.lt_succ_of_le hc'
      have st : ZS (s1.heap.objs.size + 4) (s1.heap.objs.size + 2) (s1.heap.objs.size + 3) s1.heap.objs.size (s1.heap.objs.size + 1) a b ({ s1 with heap := h' } : Shared).heap.objs.size its.toArray its2.toArray h' 0 :=
        ⟨.inl hz', hTI, ⟨_, _, hTO⟩, n1, n2, (show s1.heap.IsTuple a its.toArray from p1).at fun o e => hk _ o e, (show s1.heap.IsTuple b its2.toArray from p3).at fun o e => hk _ o e⟩
      refine list_zip (s := { s1 with heap := h' }) (I1.ok.hd hc) D ⟨lt5 _ (Nat.le_refl _), lt5 _ (Nat.le_add_right _ 2), lt5 _ (Nat.le_add_right _ 1), lt5 _ (Nat.le_add_right _ 4), lt5 _ (Nat.le_add_right _ 3), lt5 _ (Nat.le_trans (Nat.le_of_lt la) (Nat.le_add_right _ 4)), lt5 _ (Nat.le_trans (Nat.le_of_lt lb) (Nat.le_add_right _ 4))⟩ (by rw [List.size_toArray, List.size_toArray]; omega) (by rw [List.size_toArray]; omega) st hz' fun h2 as acc c k2 hS hacc hl ho => ?_
      have kk : ∀ b o, s1.heap.get? b = some o → h2.get? b = some o := fun b o e => by
        have hb := Heap.lt_size e
        have ne : ∀ k : Nat, b ≠ s1.heap.objs.size + k := fun k => Nat.ne_of_lt (Nat.lt_of_lt_of_le hb (Nat.le_add_right _ k))
        exact k2 b o (ne 4) (ne 3) (ne 0) (ne 1) (hk b o e)
      have las : as.length = kvs.length := by
        rw [List.size_toArray] at hl
        omega
      obtain ⟨H', m1, m2, m3, m4, m5, m6, J⟩ := pairs_laid I1 kk (show s1.heap.objs.size ≤ ({ s1 with heap := h' } : Shared).heap.objs.size from by show s1.heap.objs.size ≤ h'.objs.size; rw [hsz]; exact Nat.le_add_right _ 5) hz hS hacc las ho.up ho.rise fun j T e => by
        obtain ⟨x, y, ex, ey, pr⟩ := ho.at_ j T e
        have hj : j < kvs.length := by
          have := (List.getElem?_eq_some_iff.mp e).1
          omega
        have eq : kvs[j]? = some kvs[j] := List.getElem?_eq_getElem hj
        obtain ⟨u, hu, ru⟩ := rv.get (i := j) (x := kV kvs[j].1) (by rw [List.getElem?_map, eq]; rfl)
        obtain ⟨v, hv2, rv'⟩ := rv2.get (i := j) (x := kvs[j].2) (by rw [List.getElem?_map, eq]; rfl)
        have e1 : u = x := Option.some.inj (hu.symm.trans (by simpa using ex))
        have e2 : v = y := Option.some.inj (hv2.symm.trans (by simpa using ey))
        subst e1 e2
        exact ⟨_, _, _, eq, ru, rv', pr⟩
      exact ⟨.ref _, H', J, rfl, q H' _ as m1 m2 m3 m4 m5 m6⟩
end
end LZ
/-! max(l, default=d) of a list of whole numbers -/
namespace MX
open PySem PySem.Spec PyProof.Rows L2
section
variable {prog : Program} {w : World} {A : Around} {R : Result → Shared → Prop} {I : Addr} {fp wr : List Addr} {n : Nat} {P : Nat → Value → Prop} {St : Nat → Heap → Prop}
abbrev lsO (acc : Array Value) (c : Nat) : Obj := { cls := .type "list", dict := none, data := .seq acc c, slots := #[] }
theorem more {bt : Nat → Nat → Bool} {S : Addr} {d : Value} (W : Walks prog w A.in1 I fp wr n P St) (cm : CmpOf prog w A.in1 .Gt P bt) (nS : S ∉ fp) :
    ∀ (k j : Nat) (s : Shared) (b : Value) (c : Nat), n - (j + 1) = k → j + 1 ≤ n → St (j + 1) s.heap → P (argBest bt j) b → s.heap.get? S = some (lsO #[b, b] c) →
    (∀ v h' tk, P (argBest bt (n - 1)) v → (∀ a o, a ∉ wr → a ≠ S → s.heap.get? a = some o → h'.get? a = some o) → R (.ok (.ret v)) { s with heap := h', toks := tk }) →
    codeAny (model prog w) A (.builtin "max.loop" ⟨[.ref I, .none, .ref S], [("default", d)]⟩) R s := by
  have nw : S ∉ wr := fun m => nS (W.sub _ m)
  have nm : (toString "max" ++ toString ".loop" : String) = "max.loop" := by decide
  intro k
  induction k with
  | zero =>
    intro j s b c e1 e2 st pb hS q
    have ej : j + 1 = n := by omega
    refine codeAny_builtin F.entry_max_loop ?_
    rw [Around.under_plainId F.plain_max_loop _]
    show wpAny _ A.in1 (seqItems? (.ref S) >>= _) _ _ s
    refine wpAny_bind (wpAny_seqItems hS rfl ?_)
    show wpAny _ A.in1 (tryCatch (pyNext (.ref I)) _ >>= _) _ _ s
    refine wpAny_bind (wpAny_tryCatch (W.done s _ _ (ej ▸ st) fun g tk kg => ?_))
    have hS1 := kg S _ nw hS
    show wpAny _ A.in1 (updateSeq S (fun _ => #[]) >>= _) _ _ _
    refine wpAny_bind (wpAny_updateSeq hS1 rfl (wpAny_bind (wpAny_letGo (wpAny_pure ?_))))
    exact q b _ tk (by rw [← ej]; exact pb) fun a o a1 a2 e => (Heap.get?_update_other _ _ (Ne.symm a2)).trans (kg a o a1 e)
  | succ k ih =>
    intro j s b c e1 e2 st pb hS q
    have lt : j + 1 < n := by omega
    refine codeAny_builtin F.entry_max_loop ?_
    rw [Around.under_plainId F.plain_max_loop _]
    show wpAny _ A.in1 (seqItems? (.ref S) >>= _) _ _ s
    refine wpAny_bind (wpAny_seqItems hS rfl ?_)
    show wpAny _ A.in1 (tryCatch (pyNext (.ref I)) _ >>= _) _ _ s
    refine wpAny_bind (wpAny_tryCatch (W.item (j + 1) s _ _ lt st fun v g tk pv st1 kg => ?_))
    have hS1 := kg S _ nw hS
    show wpAny _ A.in1 (tryCatch (holding [v, v] (richCompare .Gt v b >>= _)) _ >>= _) _ _ _
    refine wpAny_bind (wpAny_tryCatch (wpAny_holding (wpAny_bind (cm (j + 1) (argBest bt j) v b _ _ _ pv pb ?_))))
    refine wpAny_bind (wpAny_holding (wpAny_truthy_bool (wpAny_bind (wpAny_letGo (wpAny_pure ?_)))))
    cases eb : bt (j + 1) (argBest bt j) with
    | true =>
      simp only [if_true]
      refine wpAny_bind (wpAny_updateSeq hS1 rfl (wpAny_bind (wpAny_letGo ?_)))
      rw [nm]
      have oth : ∀ a o, a ≠ S → g.get? a = some o → (g.update S (Obj.mapSeq fun _ => #[v, v])).get? a = some o := fun a o a2 e => (Heap.get?_update_other _ _ (Ne.symm a2)).trans e
      exact wpAny_pure ⟨plainId_quiet F.plain_max_loop _, ih (j + 1) _ v _ (by omega) lt (W.frame _ _ _ st1 fun a ha o e => oth a o (fun z => nS (z ▸ ha)) e) (by simp only [argBest, eb, if_true]; exact pv) (Heap.get?_update_self _ hS1 rfl) fun u g2 tk2 pu k2 => q u g2 tk2 pu fun a o a1 a2 e => k2 a o a1 a2 (oth a o a2 (kg a o a1 e))⟩
    | false =>
      simp only [Bool.false_eq_true, if_false]
      refine wpAny_bind (wpAny_letGo ?_)
      rw [nm]
      exact wpAny_pure ⟨plainId_quiet F.plain_max_loop _, ih (j + 1) _ b c (by omega) lt st1 (by simp only [argBest, eb, Bool.false_eq_true, if_false]; exact pb) hS1 fun u g2 tk2 pu k2 => q u g2 tk2 pu fun a o a1 a2 e => k2 a o a1 a2 (kg a o a1 e)⟩
theorem first {bt : Nat → Nat → Bool} {S : Addr} {d : Value} (W : Walks prog w A.in1 I fp wr n P St) (cm : CmpOf prog w A.in1 .Gt P bt) (nS : S ∉ fp) {s : Shared} {c : Nat} (st : St 0 s.heap) (hS : s.heap.get? S = some (lsO #[] c))
    (q0 : n = 0 → ∀ h' tk, (∀ a o, a ∉ wr → a ≠ S → s.heap.get? a = some o → h'.get? a = some o) → R (.ok (.ret d)) { s with heap := h', toks := tk })
    (q : 0 < n → ∀ v h' tk, P (argBest bt (n - 1)) v → (∀ a o, a ∉ wr → a ≠ S → s.heap.get? a = some o → h'.get? a = some o) → R (.ok (.ret v)) { s with heap := h', toks := tk }) :
    codeAny (model prog w) A (.builtin "max.loop" ⟨[.ref I, .none, .ref S], [("default", d)]⟩) R s := by
  have nw : S ∉ wr := fun m => nS (W.sub _ m)
  have nm : (toString "max" ++ toString ".loop" : String) = "max.loop" := by decide
  refine codeAny_builtin F.entry_max_loop ?_
  rw [Around.under_plainId F.plain_max_loop _]
  show wpAny _ A.in1 (seqItems? (.ref S) >>= _) _ _ s
  refine wpAny_bind (wpAny_seqItems hS rfl ?_)
  show wpAny _ A.in1 (tryCatch (pyNext (.ref I)) _ >>= _) _ _ s
  by_cases h0 : n = 0
  · refine wpAny_bind (wpAny_tryCatch (W.done s _ _ (h0 ▸ st) fun g tk kg => ?_))
    refine wpAny_bind (wpAny_rule (wpAny_pure ?_))
    exact q0 h0 g tk fun a o a1 _ e => kg a o a1 e
  · have lt : 0 < n := Nat.pos_of_ne_zero h0
    refine wpAny_bind (wpAny_tryCatch (W.item 0 s _ _ lt st fun v g tk pv st1 kg => ?_))
    have hS1 := kg S _ nw hS
    show wpAny _ A.in1 (updateSeq S (fun _ => #[v, v]) >>= _) _ _ _
    refine wpAny_bind (wpAny_updateSeq hS1 rfl ?_)
    rw [nm]
    have oth : ∀ a o, a ≠ S → g.get? a = some o → (g.update S (Obj.mapSeq fun _ => #[v, v])).get? a = some o := fun a o a2 e => (Heap.get?_update_other _ _ (Ne.symm a2)).trans e
    exact wpAny_pure ⟨plainId_quiet F.plain_max_loop _, more W cm nS _ 0 _ v _ rfl lt (W.frame _ _ _ st1 fun a ha o e => oth a o (fun z => nS (z ▸ ha)) e) pv (Heap.get?_update_self _ hS1 rfl) fun u g2 tk2 pu k2 => q lt u g2 tk2 pu fun a o a1 a2 e => k2 a o a1 a2 (oth a o a2 (kg a o a1 e))⟩
end
theorem args_kw (a d : Value) : argsOk "max" ⟨[a], [("default", d)]⟩ := by
  unfold argsOk
  kernel_rfl
section
variable {prog : Program} {w : World} {A : Around} {E : Value → Shared → Prop} {s : Shared}
theorem run_kw {x d : Value} {Q : Value → Shared → Prop}
    (h : wpAny (model prog w) A.in1 (pyIter x) (fun it s2 => ∃ I fp wr n P St bt, it = .ref I ∧ Walks prog w A.in1 I fp wr n P St ∧ St 0 s2.heap ∧ (∀ b ∈ fp, b < s2.heap.objs.size) ∧ CmpOf prog w A.in1 .Gt P bt ∧
      (n = 0 → ∀ h' tk, (∀ b o, b ∉ wr → s2.heap.get? b = some o → h'.get? b = some o) → Q d { s2 with heap := h', toks := tk }) ∧
      (0 < n → ∀ v h' tk, P (argBest bt (n - 1)) v → (∀ b o, b ∉ wr → s2.heap.get? b = some o → h'.get? b = some o) → Q v { s2 with heap := h', toks := tk })) E s) :
    wpAny (model prog w) A (call (.builtin "max") [x] [("default", d)]) Q E s := by
  have nm : (toString "max" ++ toString ".loop" : String) = "max.loop" := by decide
  refine wpAny_call (codeAny_call_builtin F.plain_max F.entry_max ?_)
  simp only [checkBuiltinCall, F.kind_max]
  have ck : wpAny (model prog w) A.in1 (Builtin.«max» ⟨[x], [("default", d)]⟩) (fun fin s' => match fin with
      | .done f => (match (Except.ok f : Result) with | .ok (.ret v) => Q v s' | .ok _ => False | .error e => E e s')
      | .again c' => c'.quiet = true ∧ codeAny (model prog w) A c' (fun r s' => match r with | .ok (.ret v) => Q v s' | .ok _ => False | .error e => E e s') s') E s := by
    show wpAny _ A.in1 (Builtin.Builtins.bindParams "max" ["key", "default"] 0 ⟨[], [("default", d)]⟩ >>= _) _ _ s
    refine wpAny_bind (wpAny_of_eq (show Builtin.Builtins.bindParams "max" ["key", "default"] 0 ⟨[], [("default", d)]⟩ = pure [none, some d] from rfl) ?_)
    refine wpAny_bind (wpAny_pure (wpAny_bind (wpAny_mono h (fun it s2 h2 => ?_) fun _ _ e => e)))
    obtain ⟨I, fp, wr, n, P, St, bt, rfl, W, st, lo, cm, q0, q1⟩ := h2
    refine wpAny_bind (wpAny_newObj_type ?_)
    have nS : s2.heap.objs.size ∉ fp := fun m => Nat.lt_irrefl _ (lo _ m)
    rw [nm]
    have kp : ∀ b o, s2.heap.get? b = some o → (s2.heap.push { cls := .type "list", data := .seq #[] }).get? b = some o := fun b o e => Heap.get?_push_of_some _ e
    exact wpAny_pure ⟨plainId_quiet F.plain_max_loop _, first W cm nS (W.frame _ _ _ st fun b _ o e => kp b o e) (Heap.get?_push_size _ rfl)
      (fun e0 g tk kg => q0 e0 g tk fun b o b1 e => kg b o b1 (Nat.ne_of_lt (Heap.lt_size e)) (kp b o e)) (fun lt v g tk pv kg => q1 lt v g tk pv fun b o b1 e => kg b o b1 (Nat.ne_of_lt (Heap.lt_size e)) (kp b o e))⟩
  have ok := args_kw x d
  cases hsig : Manifest.signature? "max" with
  | none => exact wpAny_pure ck
  | some sig =>
    simp only [argsOk, hsig] at ok
    show wpAny _ A.in1 (Bind.checkArgs "max" sig ⟨[x], [("default", d)]⟩) _ _ s
    rw [show Bind.checkArgs "max" sig ⟨[x], [("default", d)]⟩ = pure () from ok]
    exact wpAny_pure ck
theorem raw_kw {l : Addr} {its : List Value} {ns : List Int} {d : Value} {Q : Value → Shared → Prop} (hh : A.handled = none) (hl : s.heap.IsList l its.toArray) (hi : IntsAre its ns)
    (q0 : ns = [] → ∀ h' tk, (∀ b o, s.heap.get? b = some o → h'.get? b = some o) → Q d { s with heap := h', toks := tk })
    (q : ∀ h' tk M t', (∀ b o, s.heap.get? b = some o → h'.get? b = some o) → M ∈ ns → (∀ a, a ∈ ns → a ≤ M) → Q (.int M t') { s with heap := h', toks := tk }) : wpAny (model prog w) A (call (.builtin "max") [.ref l] [("default", d)]) Q E s := by
  obtain ⟨xs, e⟩ := hi.allInts.items
  have hn : numsOf (intItems xs).toList = ns := by rw [← e]; exact hi.numsOf
  rw [nums_intItems] at hn
  subst hn
  rw [e] at hl
  refine run_kw (iter_intList hl fun s2 es st lo hlI => ?_)
  subst es
  refine ⟨_, _, _, _, _, _, _, rfl, Walks.list (A := A.in1) hh _ l hlI (intItems xs), st, lo, CmpOf.ints_gt (numAt xs) (fun _ _ => intItems_at), fun e0 g tk kg => ?_, fun lt v g tk pv kg => ?_⟩
  · exact q0 (by
      have : xs.size = 0 := by simpa [intItems] using e0
      rw [List.map_eq_nil_iff]
      exact List.length_eq_zero_iff.mp (by rw [Array.length_toList]; exact this)) g tk (old_kept kg)
  · obtain ⟨t, rfl⟩ := intItems_at (by simpa [intItems] using pv)
    have lt' : 0 < xs.size := by simpa [intItems] using lt
    obtain ⟨h1, h2⟩ := argBest_gt (numAt xs) (xs.size - 1)
    have ez : (intItems xs).size = xs.size := by simp [intItems]
    rw [ez] at *
    refine q g tk _ t (old_kept kg) ?_ fun a ha => ?_
    · have hlt : argBest (fun i j => decide (numAt xs i > numAt xs j)) (xs.size - 1) < xs.size := Nat.lt_of_le_of_lt h1 (Nat.sub_lt lt' Nat.one_pos)
      rw [numAt_eq]
      exact PySem.getD_mem (by rw [List.length_map, Array.length_toList]; exact hlt)
    · obtain ⟨j, hj, ej⟩ := mem_getD ha
      rw [List.length_map, Array.length_toList] at hj
      have := h2 j (by omega)
      rw [← ej, ← numAt_eq]
      exact this
end
section
variable {X : Cx}
/-- max(l, default=d) -/
def rMaxKw (K : PySem.W.Frag) : List V → List V → Hp → VK → Prop := fun vs zs H Q => ∃ (a : Addr) (ns : List Int) (d : Int), vs = [.ref a] ∧ zs = [.int d] ∧ SqL K H a (ns.map V.int) ∧ (ns = [] → Q (.int d) H) ∧ ∀ M, M ∈ ns → (∀ y ∈ ns, y ≤ M) → Q (.int M) H
theorem cr_maxKw (hc : X.calm = true) : CallRK X (.builtin "max") [Str.ofString "default"] (rMaxKw X.K) := by
  intro pins s σ H vs zs us ws Q I r rz h
  obtain ⟨a, ns, d, rfl, rfl, hs, q0, q⟩ := h
  obtain ⟨its, rv, hl, _⟩ := I.list hs
  rw [Vals.ref1 r]
  obtain ⟨t, ht⟩ : ∃ t, ws = [.int d t] := by
    cases rz with
    | cons a b =>
      cases b
      obtain ⟨t, e⟩ := a
      exact ⟨t, by rw [e]⟩
  subst ht
  exact raw_kw (I.ok.hd hc) hl.isList rv.ints (fun e h' tk hk => ⟨.int _, H, I.kept hk, ⟨_, rfl⟩, q0 e⟩) fun h' tk M t' hk h1 h2 => ⟨.int _, H, I.kept hk, ⟨_, rfl⟩, q M h1 h2⟩
end
end MX
/-! own methods behind in, len, bool, not, |, ==, != -/
namespace OwT
open PySem PySem.Spec PyProof.Rows L2
section
variable {X : Cx} {CX : CXT} {k : Nat} {f C : Addr} {fd : FuncData} {ps : List Str} {sp : Sp} {E : XK}
/-- a def is called from within a builtin -/
theorem run_in1 {pins : List (Addr × Obj)} {σ : L2.St} {H : Hp} {s : Shared} {Q : VK} {us : List Value} {vs : List V} (F : FnOk X.prog X.w X.K X.mg X.base CX k f fd ps sp) (hr : Room (k + 1) X.A) (hb : Binds X.K fd ps []) (hx : Passes CX X E)
    (I : Inv X pins σ H s) (r : Vals vs us) (h : sp vs H Q E) : wpAny (model X.prog X.w) X.A.in1 (call (.ref f) us) (EP X pins σ Q) X.xe s := by
  have hl : us.length = ps.length := by rw [← r.length]; exact F.len _ _ _ _ h
  refine wpAny_call (codeAny_mono (F.run X.A.in1 X.stack s H ⟨us, []⟩ us vs Q E hr.in1 I.env0.in1 (by
    have := hb s us I.kIn (by simpa using hl)
    simpa using this) r h) fun r s' hq => ?_)
  cases r with
  | error e => exact hx pins σ H s e s' I hq
  | ok fl =>
    cases fl with
    | ret u => exact I.after hq
    | next => exact False.elim hq
    | brk => exact False.elim hq
    | cont => exact False.elim hq
theorem run_here {pins : List (Addr × Obj)} {σ : L2.St} {H : Hp} {s : Shared} {Q : VK} {us : List Value} {vs : List V} (F : FnOk X.prog X.w X.K X.mg X.base CX k f fd ps sp) (hr : Room k X.A) (hb : Binds X.K fd ps []) (hx : Passes CX X E)
    (I : Inv X pins σ H s) (r : Vals vs us) (h : sp vs H Q E) : wpAny (model X.prog X.w) X.A (call (.ref f) us) (EP X pins σ Q) X.xe s :=
  run_fn F hr hb .nil hx I r (by rw [List.append_nil]; exact h)
/-- an own method by its name -/
structure Own (K : PySem.W.Frag) (C : Addr) (m : Str) (f : Addr) : Prop where
  at_ : PySem.W.findIn K (.ref C) m = some (some (.ref f))
  fn : PySem.W.isFn K (.ref f) = true
theorem _root_.L2.Meth.own {K : PySem.W.Frag} {C f : Addr} {m : Str} (h : Meth K C m f) : Own K C m f := ⟨h.at_, h.fn⟩
/-- len(x) -/
def rLen (C : Addr) (sp : Sp) (E : XK) : List V → Hp → VK → Prop := fun xs H Q => ∃ a dx fs, xs = [.ref a] ∧ H a = some (.ins C dx fs) ∧ sp [.ref a] H (fun v H' => ∃ n : Nat, n < 2 ^ 63 ∧ v = .int n ∧ Q (.int n) H') E
theorem cr_len (o : Own X.K C "__len__" f) (F : FnOk X.prog X.w X.K X.mg X.base CX k f fd ps sp) (hr : Room (k + 1) X.A) (hb : Binds X.K fd ps []) (hx : Passes CX X E) : CallR X (.builtin "len") (rLen C sp E) := by
  intro pins s σ H xs us Q I r h
  obtain ⟨a, dx, fs, rfl, ea, q⟩ := h
  obtain rfl := Vals.ref1 r
  obtain ⟨mA, O, _⟩ := ins_get I.hok ea
  obtain ⟨od, J, _⟩ := O.look
  obtain ⟨m, hF⟩ := I.fr
  refine PySem.W.len_K hF I.ok.mod.kin J o.at_ o.fn (thn (run_in1 F hr hb hx I r q) fun u s' z => ?_)
  obtain ⟨v, H', I', rv, n, hn, rfl, q'⟩ := z
  obtain ⟨t, rfl⟩ := (show ∃ t, u = Value.int (n : Int) t from rv)
  exact ⟨⟨Int.natCast_nonneg n, by exact_mod_cast hn⟩, .int n, H', I'.tok _, ⟨_, rfl⟩, q'⟩
/-- the truth of x -/
def rTru (C : Addr) (sp : Sp) (E : XK) : V → Hp → (Bool → Hp → Prop) → Prop := fun x H Q => ∃ a dx fs, x = .ref a ∧ H a = some (.ins C dx fs) ∧ sp [.ref a] H (fun v H' => ∃ b, v = .bl b ∧ Q b H') E
theorem tru_own (o : Own X.K C "__bool__" f) (F : FnOk X.prog X.w X.K X.mg X.base CX k f fd ps sp) (hr : Room k X.A) (hb : Binds X.K fd ps []) (hx : Passes CX X E) : TruR X (rTru C sp E) := by
  intro pins s σ H x v Q I rx h
  obtain ⟨a, dx, fs, rfl, ea, q⟩ := h
  cases rx
  obtain ⟨mA, O, _⟩ := ins_get I.hok ea
  obtain ⟨od, J, _⟩ := O.look
  obtain ⟨m, hF⟩ := I.fr
  refine PySem.W.truthy_K hF I.ok.mod.kin J o.at_ o.fn (thn (run_here (vs := [.ref a]) F hr hb hx I (.cons rfl .nil) q) fun u s' z => ?_)
  obtain ⟨v, H', I', rv, b, rfl, q'⟩ := z
  cases rv
  exact ⟨H', I', q'⟩
/-- y in x -/
def rIn (C : Addr) (sp : Sp) (E : XK) : R2 := fun y x H Q => ∃ a dx fs, x = .ref a ∧ H a = some (.ins C dx fs) ∧ sp [.ref a, y] H (fun v H' => ∃ b, v = .bl b ∧ Q (.bl b) H') E
theorem op_in (o : Own X.K C "__contains__" f) (F : FnOk X.prog X.w X.K X.mg X.base CX k f fd ps sp) (hr : Room k X.A) (hb : Binds X.K fd ps []) (hx : Passes CX X E) : OpR X (compareOp .In) (rIn C sp E) := by
  intro pins s σ H y x u v Q I ry rx h
  obtain ⟨a, dx, fs, rfl, ea, q⟩ := h
  cases rx
  obtain ⟨mA, O, _⟩ := ins_get I.hok ea
  obtain ⟨od, J, _⟩ := O.look
  obtain ⟨m, hF⟩ := I.fr
  refine PySem.W.in_K hF I.ok.mod.kin J o.at_ o.fn (thn (run_here (vs := [.ref a, y]) F hr hb hx I (.cons rfl (.cons ry .nil)) q) fun u s' z => ?_)
  obtain ⟨v, H', I', rv, b, rfl, q'⟩ := z
  cases rv
  exact wpAny_truthy_bool ⟨.bl b, H', I', rfl, q'⟩
/-- x | y, both of one class -/
def rOr (C : Addr) (sp : Sp) (E : XK) : R2 := fun x y H Q => ∃ a dx fs b dy gs, x = .ref a ∧ y = .ref b ∧ H a = some (.ins C dx fs) ∧ H b = some (.ins C dy gs) ∧ sp [.ref a, .ref b] H (fun v H' => (∃ c, v = .ref c) ∧ Q v H') E
theorem op_or (o : Own X.K C "__or__" f) (hc : PySem.W.selfFirst X.K C = true) (F : FnOk X.prog X.w X.K X.mg X.base CX k f fd ps sp) (hr : Room k X.A) (hb : Binds X.K fd ps []) (hx : Passes CX X E) : OpR X (binaryOp .BitOr) (rOr C sp E) := by
  intro pins s σ H x y u v Q I rx ry h
  obtain ⟨a, dx, fs, b, dy, gs, rfl, rfl, ea, eb, q⟩ := h
  cases rx
  cases ry
  obtain ⟨mA, O, _⟩ := ins_get I.hok ea
  obtain ⟨od, J, _⟩ := O.look
  obtain ⟨mB, O', _⟩ := ins_get I.hok eb
  obtain ⟨od', J', _⟩ := O'.look
  obtain ⟨m, hF⟩ := I.fr
  refine PySem.W.binop_K (op := .BitOr) hF I.ok.mod.kin J J'.type hc o.at_ o.fn (thn (run_here (vs := [.ref a, .ref b]) F hr hb hx I (.cons rfl (.cons rfl .nil)) q) fun u s' z => ?_)
  obtain ⟨v, H', I', rv, ⟨c, rfl⟩, q'⟩ := z
  cases rv
  exact ⟨.ref c, H', I', rfl, q'⟩
/-- x == y; y of any kind that is told -/
def rEq (K : PySem.W.Frag) (C : Addr) (sp : Sp) (E : XK) : R2 := fun x y H Q => ∃ a dx fs t, x = .ref a ∧ H a = some (.ins C dx fs) ∧ TyX K H y t ∧ PySem.W.notFirst K C t = true ∧ sp [.ref a, y] H (fun v H' => ∃ b, v = .bl b ∧ Q (.bl b) H') E
theorem op_eq (o : Own X.K C "__eq__" f) (F : FnOk X.prog X.w X.K X.mg X.base CX k f fd ps sp) (hr : Room k X.A) (hb : Binds X.K fd ps []) (hx : Passes CX X E) : OpR X (compareOp .Eq) (rEq X.K C sp E) := by
  intro pins s σ H x y u v Q I rx ry h
  obtain ⟨a, dx, fs, t, rfl, ea, ty, nf, q⟩ := h
  cases rx
  obtain ⟨mA, O, _⟩ := ins_get I.hok ea
  obtain ⟨od, J, _⟩ := O.look
  obtain ⟨m, hF⟩ := I.fr
  obtain ⟨P, Z, p, _⟩ := kit_of I ry ty
  show wpAny (model X.prog X.w) X.A (richCompare .Eq (.ref a) v) (EP X pins σ Q) X.xe s
  refine PySem.W.cmp_K (op := .Eq) hr.units0 hF I.ok.mod.kin J (Z.ty _ _ I.kIn p) nf o.at_ o.fn (thn (run_here (vs := [.ref a, y]) F hr hb hx I (.cons rfl (.cons ry .nil)) q) fun u s' z => ?_)
  obtain ⟨v, H', I', rv, b, rfl, q'⟩ := z
  cases rv
  exact ⟨.bl b, H', I', rfl, q'⟩
end
end OwT
/-! own classes: x[y] and y not in x by own methods -/
namespace OwT
open PySem PySem.Spec PyProof.Rows L2
section
variable {X : Cx} {CX : CXT} {k : Nat} {f C : Addr} {fd : FuncData} {ps : List Str} {sp : Sp} {E : XK}
theorem fn_in {K : PySem.W.Frag} {x qual : Str} {st : Stmt} {f : Addr} {fd : FuncData} (F : Fun K x qual st f fd) : PySem.W.fnIn K f = true := by
  obtain ⟨oc, od, kV, doc, pm, an, cdv, ct, osl, rfl, lk, hcd⟩ := F.ex
  unfold PySem.W.fnIn
  rw [lk]
/-- x[y] -/
def rGet (C : Addr) (sp : Sp) (E : XK) : R2 := fun x y H Q => ∃ a dx fs, x = .ref a ∧ H a = some (.ins C dx fs) ∧ sp [.ref a, y] H Q E
theorem pe_ixO {a b : Expr} {ta tb : TE} {pos : Pos} (o : Own X.K C "__getitem__" f) (fn : PySem.W.fnIn X.K f = true) (F : FnOk X.prog X.w X.K X.mg X.base CX k f fd ps sp) (hr : Room (k + 1) X.A) (hb : Binds X.K fd ps []) (hx : Passes CX X E) (ha : PE X a ta) (hb2 : PE X b tb)
    (hs : ∀ o i, subscripted b true o i = runValue (.builtin "lifetime.subscript" ⟨[o, i], []⟩) := by intro _ _; rfl) : PE X (.Subscript a b pos) (tOp (rGet C sp E) ta tb) := by
  refine ⟨fun pins s σ H Q I h => ?_⟩
  exact Subscript_ (binT ha hb2 I h fun v u s2 y z H2 I2 ry rz q => by
    obtain ⟨a, dx, fs, rfl, ea, q⟩ := q
    cases ry
    obtain ⟨mA, O, _⟩ := ins_get I2.hok ea
    obtain ⟨od, J, _⟩ := O.look
    obtain ⟨m, hF⟩ := I2.fr
    exact PySem.W.sub_K hF I2.ok.mod.kin J o.at_ fn o.fn (run_in1 (vs := [.ref a, z]) F hr hb hx I2 (.cons rfl (.cons rz .nil)) q) (hs _ _))
/-- y not in x -/
def rNotIn (C : Addr) (sp : Sp) (E : XK) : R2 := fun y x H Q => ∃ a dx fs, x = .ref a ∧ H a = some (.ins C dx fs) ∧ sp [.ref a, y] H (fun v H' => ∃ b, v = .bl b ∧ Q (.bl (!b)) H') E
theorem op_notin (o : Own X.K C "__contains__" f) (F : FnOk X.prog X.w X.K X.mg X.base CX k f fd ps sp) (hr : Room k X.A) (hb : Binds X.K fd ps []) (hx : Passes CX X E) : OpR X (compareOp .NotIn) (rNotIn C sp E) := by
  intro pins s σ H y x u v Q I ry rx h
  obtain ⟨a, dx, fs, rfl, ea, q⟩ := h
  cases rx
  obtain ⟨mA, O, _⟩ := ins_get I.hok ea
  obtain ⟨od, J, _⟩ := O.look
  obtain ⟨m, hF⟩ := I.fr
  refine PySem.W.notIn_K hF I.ok.mod.kin J o.at_ o.fn (thn (run_here (vs := [.ref a, y]) F hr hb hx I (.cons rfl (.cons ry .nil)) q) fun u s' z => ?_)
  obtain ⟨v, H', I', rv, b, rfl, q'⟩ := z
  cases rv
  exact wpAny_truthy_bool ⟨.bl (!b), H', I', rfl, q'⟩
end
end OwT
/-! a tuple == a text -/
namespace OwT
open PySem PySem.Spec PyProof.Rows L2
section
variable {X : Cx}
def rEqTS (K : PySem.W.Frag) : R2 := fun x y H Q => ∃ p xs z, x = .ref p ∧ y = .str z ∧ SqT K H p xs ∧ Q (.bl false) H
theorem op_eqTS (hu : X.A.units < cLine) : OpR X (compareOp .Eq) (rEqTS X.K) := by
  intro pins s σ H x y v u Q I rx ry h
  obtain ⟨p, xs, z, rfl, rfl, hq, q⟩ := h
  cases rx
  obtain ⟨t, rfl⟩ := ry
  obtain ⟨its, r, pl, hz⟩ := I.tuple hq
  exact PySem.SeqAt.RcAt.tuple_str z t pl hu _ _ _ _ ⟨.bl false, H, I, rfl, q⟩
/-- x != [] , x != () -/
def rNeNil (K : PySem.W.Frag) : R2 := fun x y H Q => ∃ p r xs, x = .ref p ∧ y = .ref r ∧ (SqL K H p xs ∧ SqL K H r [] ∨ SqT K H p xs ∧ SqT K H r []) ∧ Q (.bl (!xs.isEmpty)) H
theorem op_neNil (hu : X.A.units < cLine) : OpR X (compareOp .NotEq) (rNeNil X.K) := by
  intro pins s σ H x y v u Q I rx ry h
  obtain ⟨p, r, xs, rfl, rfl, hq, q⟩ := h
  cases rx
  cases ry
  rcases hq with ⟨h1, h2⟩ | ⟨h1, h2⟩
  · obtain ⟨its, r1, pl, hz⟩ := I.list h1
    obtain ⟨its2, r2, pl2, hz2⟩ := I.list h2
    cases r2
    cases r1 with
    | nil => exact PySem.SeqAt.RcNeAt.lists (e := fun _ => true) pl.isList pl2.isList rfl hu (fun j h => absurd h (Nat.not_lt_zero j)) _ _ _ _ ⟨.bl false, H, I, rfl, q⟩
    | cons a b => exact PySem.SeqAt.RcNeAt.lists_lengths pl.isList pl2.isList (by simp) hu _ _ _ _ ⟨.bl true, H, I, rfl, q⟩
  · obtain ⟨its, r1, pl, hz⟩ := I.tuple h1
    obtain ⟨its2, r2, pl2, hz2⟩ := I.tuple h2
    cases r2
    have k := PySem.SeqAt.RcNeAt.tuples (A := X.A) (e := fun _ => true) pl pl2 hu (fun j _ h => absurd h (Nat.not_lt_zero j))
    cases r1 with
    | nil => exact k _ _ _ _ ⟨.bl false, H, I, rfl, q⟩
    | cons a b => exact k _ _ _ _ ⟨.bl true, H, I, (by show Value.bool _ = Value.bool _; simp), q⟩
end
end OwT
/-! a list == []; two tuples of the same texts and numbers -/
namespace OwT
open PySem PySem.Spec PyProof.Rows L2
section
variable {X : Cx}
def rEqNil (K : PySem.W.Frag) : R2 := fun x y H Q => ∃ p r xs, x = .ref p ∧ y = .ref r ∧ SqL K H p xs ∧ SqL K H r [] ∧ Q (.bl xs.isEmpty) H
theorem op_eqNil (hu : X.A.units < cLine) : OpR X (compareOp .Eq) (rEqNil X.K) := by
  intro pins s σ H x y v u Q I rx ry h
  obtain ⟨p, r, xs, rfl, rfl, h1, h2, q⟩ := h
  cases rx
  cases ry
  obtain ⟨its, r1, pl, hz⟩ := I.list h1
  obtain ⟨its2, r2, pl2, hz2⟩ := I.list h2
  cases r2
  cases r1 with
  | nil => exact PySem.SeqAt.RcAt.lists (e := fun _ => true) pl.isList pl2.isList rfl hu (fun j h => absurd h (Nat.not_lt_zero j)) _ _ _ _ ⟨.bl true, H, I, rfl, q⟩
  | cons a b => exact PySem.SeqAt.RcAt.lists_lengths pl.isList pl2.isList (by simp) hu _ _ _ _ ⟨.bl false, H, I, rfl, q⟩
def FlatTN (v : V) : Prop := (∃ z, v = .str z) ∨ ∃ i, v = .int i
def rEqTw (K : PySem.W.Frag) : R2 := fun x y H Q => ∃ p r xs, x = .ref p ∧ y = .ref r ∧ SqT K H p xs ∧ SqT K H r xs ∧ (∀ v ∈ xs, FlatTN v) ∧ Q (.bl true) H
theorem all_yes (n : Nat) : (List.range n).all (fun _ => true) = true := by simp
theorem op_eqTw (hu : X.A.units < cLine) : OpR X (compareOp .Eq) (rEqTw X.K) := by
  intro pins s σ H x y v u Q I rx ry h
  obtain ⟨p, r, xs, rfl, rfl, h1, h2, hf, q⟩ := h
  cases rx
  cases ry
  obtain ⟨its, r1, pl, hz⟩ := I.tuple h1
  obtain ⟨its2, r2, pl2, hz2⟩ := I.tuple h2
  have l1 := r1.length
  have l2 := r2.length
  have k := PySem.SeqAt.RcAt.tuples (A := X.A) (e := fun _ => true) pl pl2 hu (fun j hj1 hj2 => by
    have hj1' : j < its.length := by simpa using hj1
    have hj2' : j < its2.length := by simpa using hj2
    have hjx : j < xs.length := by omega
    obtain ⟨u1, e1, g1⟩ := r1.get (List.getElem?_eq_getElem hjx)
    obtain ⟨u2, e2, g2⟩ := r2.get (List.getElem?_eq_getElem hjx)
    rw [List.getElem?_eq_getElem hj1'] at e1
    rw [List.getElem?_eq_getElem hj2'] at e2
    rw [List.getElem_toArray, List.getElem_toArray, Option.some.inj e1, Option.some.inj e2]
    rcases hf _ (List.getElem_mem hjx) with ⟨z, e⟩ | ⟨z, e⟩
    · rw [e] at g1 g2
      obtain ⟨t1, rfl⟩ := g1
      obtain ⟨t2, rfl⟩ := g2
      have := PySem.SeqAt.EqAt.str_str (A := X.A.in1) (s := s) z t1 z t2
      rwa [beq_self_eq_true] at this
    · rw [e] at g1 g2
      obtain ⟨t1, rfl⟩ := g1
      obtain ⟨t2, rfl⟩ := g2
      have := PySem.SeqAt.EqAt.int_int (A := X.A.in1) (s := s) z t1 z t2
      rwa [beq_self_eq_true] at this)
  have e : ((List.range (min its.toArray.size its2.toArray.size)).all (fun _ => true) && its.toArray.size == its2.toArray.size) = true := by
    rw [all_yes, Bool.true_and, List.size_toArray, List.size_toArray, ← l1, ← l2, beq_self_eq_true]
  rw [e] at k
  exact k _ _ _ _ ⟨.bl true, H, I, rfl, q⟩
end
end OwT
namespace EnT
open PySem PySem.Spec PyProof.Rows L2
open Sem (wp)
/-! enumerate of a tuple; math.lcm: rules of our own over what the library draws -/
theorem made1 {v : Value} {o : Obj} {G : Heap → Prop} (B : Begins v o G) :
    Meets (Builtin.«enumerate.__new__» ⟨[.type "enumerate", v], []⟩) (fun _ R s => G s.heap ∧
      R (.ok (.ret (.ref (s.heap.push o).objs.size)))
        { s with heap := (s.heap.push o).push { cls := .type "enumerate", data := .fields #[.none, .bool false, .ref s.heap.objs.size, rawInt 0, .none, .none] } }) := by
  refine .of_wp fun prog w A R s both => ?_
  obtain ⟨begun, rest⟩ := both
  obtain ⟨hp, gl, dp, tk, os⟩ := s
  have sub := sub_enumerate
  have it1 : ∀ {A' : Around} {E' : Value → Shared → Prop} {Q' : Value → Shared → Prop}, Q' (.ref hp.objs.size) ⟨hp.push o, gl, dp, tk, os⟩ → wpAny (model prog w) A' (pyIter v) Q' E' ⟨hp, gl, dp, tk, os⟩ := fun z => B.iter prog w _ _ _ _ begun z
  wp_walk using it1
  refine wpAny_stack_any fun _ => wpAny_pure ?_
  split
  · rename_i c _ _ _ _ _
    cases (c == Value.type "enumerate")
    all_goals
      wp_walk using it1
      exact ⟨_, rfl, rest⟩
  · wp_walk using it1
    exact ⟨_, rfl, rest⟩
theorem called1 {prog : Program} {w : World} {A : Around} {E : Value → Shared → Prop} {s : Shared} {v : Value} {o : Obj} {G : Heap → Prop} {Q : Value → Shared → Prop} (B : Begins v o G) (begun : G s.heap)
    (then_ : ∀ h2, IsEnum h2 (s.heap.objs.size + 1) s.heap.objs.size 0 .none → h2.get? s.heap.objs.size = some o → h2.objs.size = s.heap.objs.size + 2 →
      (∀ b u, s.heap.get? b = some u → h2.get? b = some u) → Q (.ref (s.heap.objs.size + 1)) { s with heap := h2 }) : wpAny (model prog w) A (call (.type "enumerate") [v]) Q E s := by
  have size1 : (s.heap.push o).objs.size = s.heap.objs.size + 1 := Heap.size_push ..
  refine callType_new F.called_enumerate (by decide) (F.typeCall_enumerate_1 _) (F.newCall_enumerate_1 _) (fun ob => F.args_object_init_2 ob _) F.entry_enumerate_new (made1 B) ⟨begun, ?_⟩
  have last := Heap.get?_push_size (s.heap.push o) (o := { cls := .type "enumerate", data := .fields #[.none, .bool false, .ref s.heap.objs.size, rawInt 0, .none, .none] }) rfl
  rw [size1] at last
  show _ ∧ _
  rw [size1]
  exact ⟨⟨_, last, rfl⟩, then_ _ last (Heap.get?_push_of_some _ (Heap.get?_push_size _ B.free)) (by rw [Heap.size_push, size1]) fun b u z => Heap.get?_push_of_some _ (Heap.get?_push_of_some _ z)⟩
/-- the tuple at a, its items with their numbers in new pairs -/
def IteT (K : PySem.W.Frag) (a : Addr) : It where
  go i H := ∃ (xs : List V) (x : V), SqT K H a xs ∧ xs[i]? = some x
  yld i H v H' := ∃ T x, v = .ref T ∧ H T = none ∧ H' = upd H T (.tup [.int (i : Nat), x]) ∧ ∀ xs, SqT K H a xs → xs[i]? = some x
  stop i H := ∃ xs : List V, SqT K H a xs ∧ xs.length = i
theorem turnT {P : Program} {w : World} {K : PySem.W.Frag} {elts : List Expr} {kk : Nat} {tpos : Pos} (a e it : Addr) :
    Turn P w K (.Tuple elts kk tpos) (IteT K a) [e, it] e (fun i h => (∃ old, IsEnum h e it ((i : Nat) : Int) old) ∧ h.IsTupleIter it a i ∧ e ≠ it) := by
  have two : ∀ {b : Addr}, b ∈ [e, it] → b = e ∨ b = it := fun {b} m => by simpa using m
  refine ⟨by simp, fun i h st b hb => ?_, fun i h h2 st k => ?_, ?_, ?_, fun A i s Q E st h => ?_⟩
  · obtain ⟨⟨old, he⟩, ⟨o, ho, _, hd⟩, _⟩ := st
    rcases two hb with rfl | rfl
    · exact ⟨_, he, fun v z => by cases z⟩
    · exact ⟨o, ho, fun v z => by rw [hd] at z; cases z⟩
  · obtain ⟨⟨old, he⟩, hi, ne⟩ := st
    exact ⟨⟨old, k e (by simp) _ he⟩, hi.at fun o z => k it (by simp) o z, ne⟩
  · intro X eP ew eK calm i pins s σ H E I fresh st going
    subst eP ew eK
    obtain ⟨⟨old, he⟩, hit, ne⟩ := st
    obtain ⟨xs, x, sq, hx⟩ := going
    obtain ⟨its, rv, tup, _⟩ := I.tuple sq
    obtain ⟨u, hu, ru⟩ := rv.get hx
    obtain ⟨ot, hot, otc, otd⟩ := id tup
    obtain ⟨oi, hoi, hic, hid⟩ := id hit
    have e_lt : e < s.heap.objs.size := Heap.lt_size he
    have i_lt : it < s.heap.objs.size := Heap.lt_size hoi
    have a_it : a ≠ it := fun z => by
      rw [z, hoi] at hot
      cases hot
      rw [otc] at hic
      simp at hic
    have a_e : e ≠ a := fun z => by
      rw [← z, he] at hot
      cases hot
      simp at otc
    have hilen : i < its.toArray.size := by
      have := (List.getElem?_eq_some_iff.mp hu).1
      simpa using this
    refine wpAny_pyNext_enum_itemD (Draws.tuple (A := X.A.in1) (I.ok.hd calm) it a a_it its.toArray) he ⟨hit, tup⟩ hilen ne (by simp [ne, a_e]) fun u2 h2 tk hu2 hout hst hT hsz kept => ?_
    have eu : u2 = u := by
      have h3 : its.toArray[i]? = some u := by simpa using hu
      exact Option.some.inj (hu2.symm.trans h3)
    subst eu
    refine ⟨_, rfl, wpAny_letOwnedTupleGo_enum (s := { s with heap := h2, toks := tk + 1 }) hout fun h3 he3 sb => ?_⟩
    have hT3 : h3.get? s.heap.objs.size = some { cls := .type "tuple", data := .seq #[.int i tk, u2] } := (sb.2 _ (Nat.ne_of_gt e_lt)).trans hT
    have laid : ObjOk X.prog X.w (upd H s.heap.objs.size (.tup [.int (i : Nat), x])) h3 s.heap.objs.size (.tup [.int (i : Nat), x]) :=
      ⟨by show 2 ≤ sizeLine; decide, [.int i tk, u2], .cons ⟨_, rfl⟩ (.cons ru .nil), ⟨_, hT3, rfl, _, rfl⟩⟩
    refine ⟨.ref s.heap.objs.size, _, I.turnedNew (t' := tk + 1) (ch := [e, it]) (fun b ob off z => ?_) fresh (Nat.le_refl _) laid, rfl, ⟨_, x, rfl, I.hok.fresh (Nat.le_refl _), rfl, fun ys hy => ?_⟩, ⟨⟨u2, ?_⟩, ?_, ne⟩, fun b hb => ?_⟩
    · have b_e : b ≠ e := fun z => off (by simp [z])
      have b_it : b ≠ it := fun z => off (by simp [z])
      exact (sb.2 b b_e).trans (kept b ob b_e b_it z)
    · rw [I.tuple_inj hy sq]
      exact hx
    · have num : ((i + 1 : Nat) : Int) = (i : Int) + 1 := by omega
      rw [num]
      exact he3
    · exact hst.1.at fun o z => (sb.2 it (Ne.symm ne)).trans z
    · have b_lt : b < s.heap.objs.size := by rcases two hb with rfl | rfl <;> assumption
      rw [upd_ne (Nat.ne_of_lt b_lt)]
      exact (fresh b hb).1
  · intro X eP ew eK calm i pins s σ H E I fresh st stop
    subst eP ew eK
    obtain ⟨⟨old, he⟩, hit, ne⟩ := st
    obtain ⟨xs, sq, hx⟩ := stop
    obtain ⟨its, rv, tup, _⟩ := I.tuple sq
    obtain ⟨ot, hot, otc, otd⟩ := id tup
    obtain ⟨oi, hoi, hic, hid⟩ := id hit
    have a_it : a ≠ it := fun z => by
      rw [z, hoi] at hot
      cases hot
      rw [otc] at hic
      simp at hic
    have e_a : e ≠ a := fun z => by
      rw [← z, he] at hot
      cases hot
      simp at otc
    have len : i = its.toArray.size := by
      rw [← hx, List.size_toArray]
      exact rv.length
    obtain ⟨f0, f1, f2, f3, f4, f5⟩ := fresh it (by simp)
    refine wpAny_pyNext_enum_endD (Draws.tuple (A := X.A.in1) (I.ok.hd calm) it a a_it its.toArray) he ⟨len ▸ hit, tup⟩ fun h2 kept => ?_
    exact ⟨rfl, I.turned (t' := s.toks) (fun b o off z => kept b o off z) f0 f1 f3 f4 f5⟩
  · obtain ⟨⟨_, he⟩, _⟩ := st
    exact wpAny_pyIter_enum he h
def iEnumT (K : PySem.W.Frag) (ta : TA) : TI := fun σ H R => ta σ H fun vs H1 => ∃ a xs, vs = [.ref a] ∧ SqT K H1 a xs ∧ R (IteT K a) H1
theorem pi_enumT {X : Cx} {e : Expr} {ta : TA} {p pos tpos : Pos} {elts : List Expr} {kk : Nat} (hg : Gl X "enumerate") (hm : X.mg "enumerate" = none) (ha : PA X [e] ta) (plain : starEach [e] X.env = [(false, eval e X.env)] := by rfl) :
    PI X (.Tuple elts kk tpos) (.Call (.Name "enumerate" p) [e] [] pos) (iEnumT X.K ta) := by
  refine ⟨fun pins s σ H R I want => ?_⟩
  have args := ha.run pos pins s σ H _ I want
  refine Call_ (ld_blt I hg hm boot_enumerate (callWith_type1 (thn args fun us s2 given => ?_) plain rfl))
  obtain ⟨vs, H2, I2, rel, a, xs, rfl, sq, q⟩ := given
  cases rel with
  | cons r rr =>
    cases rr
    cases r
    obtain ⟨its, rv, tup, _⟩ := I2.tuple sq
    refine called1 (begins_tuple a its.toArray) tup fun h3 he hit size kept => wpAny_pyIter_enum he ?_
    have both : ∀ b ∈ [s2.heap.objs.size + 1, s2.heap.objs.size], s2.heap.objs.size ≤ b := fun b m => by
      have : b = s2.heap.objs.size + 1 ∨ b = s2.heap.objs.size := by simpa using m
      rcases this with rfl | rfl
      · exact Nat.le_succ _
      · exact Nat.le_refl _
    exact ⟨s2.heap.objs.size + 1, [s2.heap.objs.size + 1, s2.heap.objs.size], _, _, H2, rfl, I2.kept (t' := s2.toks) kept, turnT a (s2.heap.objs.size + 1) s2.heap.objs.size,
      ⟨⟨.none, he⟩, ⟨_, hit, rfl, rfl⟩, Nat.succ_ne_self _⟩, fun b m => I2.fpOk (both b m) (I2.hok.fresh (both b m)), q⟩
def rLcm : List V → Hp → VK → Prop := fun vs H Q => ∃ a b : Int, vs = [.int a, .int b] ∧ a.natAbs < 2 ^ 9000 ∧ b.natAbs < 2 ^ 9000 ∧ Q (.int ((Nat.lcm a.natAbs b.natAbs : Nat) : Int)) H
theorem cr_lcm {X : Cx} : CallR X (.builtin "math.lcm") rLcm := by
  intro pins s σ H vs us Q I r h
  obtain ⟨a, b, rfl, ha, hb, q⟩ := h
  obtain ⟨t, u, rfl⟩ := Vals.int2 r
  have room : ∀ {n : Nat}, n < 2 ^ 9000 → ¬ n.log2 / 30 + 1 > 450 := fun {n} hn => by
    have : n.log2 < 9000 := by
      by_cases z : n = 0
      · subst z; decide
      · exact (Nat.log2_lt z).mpr hn
    omega
  have one : (1 : Nat) < 2 ^ 9000 := Nat.one_lt_two_pow (by decide)
  have small : (((Nat.lcm 1 a.natAbs).lcm b.natAbs : Nat) : Int).natAbs.log2 < bitsLine := by
    rw [Nat.lcm_one_left]
    show (a.natAbs.lcm b.natAbs).log2 < bitsLine
    have le : a.natAbs.lcm b.natAbs ≤ 2 ^ 9000 * 2 ^ 9000 := Nat.le_trans (Nat.div_le_self _ _) (Nat.mul_le_mul (Nat.le_of_lt ha) (Nat.le_of_lt hb))
    rw [← Nat.pow_add] at le
    have : (a.natAbs.lcm b.natAbs).log2 < 18001 := by
      by_cases z : a.natAbs.lcm b.natAbs = 0
      · rw [z]; decide
      · exact (Nat.log2_lt z).mpr (Nat.lt_of_le_of_lt le (Nat.pow_lt_pow_right (by decide) (by decide)))
    exact Nat.lt_trans this (by decide)
  have g := PySem.W.mg_run_lcm a t b u (room (by show max 1 a.natAbs < 2 ^ 9000; omega)) (room (by show max a.natAbs b.natAbs < 2 ^ 9000; omega)) small
  rw [Nat.lcm_one_left] at g
  exact call_function_meets PySem.W.MGF.kind_lcm PySem.W.MGF.plain_lcm PySem.W.MGF.entry_lcm (PySem.W.MGF.args_lcm _ _) g.meets ⟨.int _, H, I.tok _, ⟨_, rfl⟩, q⟩
/-- // by any divisor but 0 below 2 ^ 9000 -/
def CDivB (_ j : Int) : Prop := j ≠ 0 ∧ j.natAbs < 2 ^ 9000
theorem op_fdivB {X : Cx} : OpR X (binaryOp .FloorDiv) (rI CDivB fun i j => .int (i.fdiv j)) := opI fun i j _ _ _ _ _ hc q =>
  floordiv_int hc.1 q (.inl (PyProof.noPylong_of_log2 ((Nat.log2_lt (by have := hc.1; omega)).mpr hc.2)))
/-- one walk or another one -/
theorem pi_or {X : Cx} {tg it : Expr} {v w : TI} (a : PI X tg it v) (b : PI X tg it w) : PI X tg it fun σ H R => v σ H R ∨ w σ H R :=
  ⟨fun pins s σ H R I h => h.elim (a.run pins s σ H R I) (b.run pins s σ H R I)⟩
/-- name = {k: v for ..} on one line, the name a local -/
theorem sw_dict {kx vx : Expr} {gs : List Comprehension} {scope : Scope} {pos py : Pos} {y : Str} {line : Nat} {env : Env} (hk : env.scope.kind = .function) (hy : env.scope.names.lookup y = some .local) (hl : (py.line == pos.line) = true)
    (off : (scope.names.any fun z => z.1 == y && (z.2 == .local || z.2 == .cell)) = false) : swapsWith (.DictComp kx vx gs scope pos) (some (.Name y py)) line env = pure true := by
  have kind : env.kindOf y = some .local := hy
  have block : env.blockKind = .function := by
    unfold Env.blockKind
    rw [hk]
    rfl
  unfold swapsWith
  simp only [block, kind, off, Expr.pos, hl]
  rfl
theorem ps_setDc {X : Cx} {i : Nat} {y : Str} {py : Pos} {kx vx tg iter : Expr} {ifs : List Expr} {scope : Scope} {own : List (Str × Nat)} {pos spos : Pos} {wi : TI} {g : TG} {tt : TT} {tk tv : TE}
    (calm : X.calm = true) (nodup : X.N.Nodup) (hy : X.N[i]? = some y) (loc : X.env.scope.names.lookup y = some .local)
    (swaps : swapsWith (.DictComp kx vx [⟨tg, iter, ifs, 0⟩] scope pos) (some (.Name y py)) spos.line X.env = pure true) (walk : PI X tg iter wi) (blk : BlkOk X.N X.env.scope scope own)
    (pgs : ∀ (s2 : Shared) (H2 : Hp) (C2 : Addr) (cl : List (Str × Addr)) (fp : List Addr), PG (X.blk s2 H2 scope (compEnvC scope cl C2 X.env) fp) tg g)
    (pts : ∀ (s2 : Shared) (H2 : Hp) (C2 : Addr) (cl : List (Str × Addr)) (fp : List Addr), PTs (X.blk s2 H2 scope (compEnvC scope cl C2 X.env) fp) ifs tt)
    (pks : ∀ (s2 : Shared) (H2 : Hp) (C2 : Addr) (cl : List (Str × Addr)) (fp : List Addr), PE (X.blk s2 H2 scope (compEnvC scope cl C2 X.env) fp) kx tk)
    (pvs : ∀ (s2 : Shared) (H2 : Hp) (C2 : Addr) (cl : List (Str × Addr)) (fp : List Addr), PE (X.blk s2 H2 scope (compEnvC scope cl C2 X.env) fp) vx tv)
    (fold : ∀ z, foldedSetIterable iter X.env z = pure z := by intro _; rfl) : PS X (.Assign [.Name y py] (.DictComp kx vx [⟨tg, iter, ifs, 0⟩] scope pos) spos) (tAsg (tDc wi g tt tk tv (own.map (·.2))) (gName i)) := by
  constructor
  intro pins s σ H Dn I want
  rw [exec_Assign_Name_used _ _ _ _ swaps]
  refine wpAny_bind (wpAny_standAt ?_)
  refine wpAny_bind ?_
  show wpAny _ X.A (do
    let _ ← comprehension (.DictComp kx vx [⟨tg, iter, ifs, 0⟩] scope pos) scope X.env (firstIterPos [⟨tg, iter, ifs, 0⟩] pos) newDict false (eval iter X.env) (some (assign (.Name y py) X.env))) _ _ s
  have want2 : tDc wi g tt tk tv (own.map (·.2)) σ H (fun x H2 => gName i x σ H2 Dn.nx) := want
  have core := dc_core (pos := pos) (Qf := fun _ s2 => SP X pins Dn .next s2) (use := some (assign (.Name y py) X.env)) (pos' := firstIterPos [⟨tg, iter, ifs, 0⟩] pos) calm nodup I walk blk pgs pts pks pvs fold want2 ?_
  · exact wpAny_bind (thn core fun _ s2 got => wpAny_pure (wpAny_pure got))
  · intro L C s2 m H2 I2 q ns off
    obtain ⟨f0, f1, f2, f3, f4, f5⟩ := off
    show wpAny _ _ (assign (.Name y py) X.env (.ref L)) _ _ _
    refine wpAny_assign_Name (store_ok2 (v := V.ref L) I2 nodup hy (.inl loc) rfl ?_ (.inr loc))
    rintro s3 I3 ⟨b, sb, hb⟩
    have apart : C ≠ b := hb.elim (fun z => z ▸ f1) fun z e => f4 y b z e.symm
    exact ⟨m, ns.sameBut sb apart, fun h4 sb4 => ⟨_, H2, I3.turned (t' := s3.toks) (fun c o hc e => (sb4.2 c hc).trans e) f0 f1 f3 f4 f5, q⟩⟩
end EnT
namespace K10
open PySem PySem.Spec PyProof.Rows L2 TL
/-! ### words for all -/
theorem pe_gs {X : Cx} {x : Str} {z : Str} {pos : Pos} (hg : Gl X x) (hm : ∃ t, X.mg x = some (.str z t)) (hd : (x == ("__debug__" : Str)) = false := by decide) : PE X (.Name x pos) (tC (.str z)) :=
  hm.elim fun t h => pe_glob (v := .str z) hg h ⟨t, rfl⟩ hd
theorem pe_gi {X : Cx} {x : Str} {z : Int} {pos : Pos} (hg : Gl X x) (hm : ∃ t, X.mg x = some (.int z t)) (hd : (x == ("__debug__" : Str)) = false := by decide) : PE X (.Name x pos) (tC (.int z)) :=
  hm.elim fun t h => pe_glob (v := .int z) hg h ⟨t, rfl⟩ hd
theorem pe_gr {X : Cx} {x : Str} {r : Addr} {pos : Pos} (hg : Gl X x) (hm : X.mg x = some (.ref r)) (hd : (x == ("__debug__" : Str)) = false := by decide) : PE X (.Name x pos) (tC (.ref r)) := pe_glob (v := .ref r) hg hm rfl hd
theorem same_upd {H : Hp} {p : Addr} {o : HO} (h : H p = none) : Same H (upd H p o) := fun b x e => by
  rw [upd_ne (ne_of_none e h)]
  exact e
/-- a new object of ours changes: what stood before stands -/
theorem same_mut {H H' : Hp} {p : Addr} {o : HO} (s : Same H H') (h : H p = none) : Same H (upd H' p o) := fun b x e => by
  rw [upd_ne (ne_of_none e h)]
  exact s _ _ e
def Big (z : Str) : Prop := z.length ≤ 1000000
theorem bigLine {n : Nat} (h : n ≤ 1000000) : n < sizeLine := Nat.lt_of_le_of_lt h (by decide)
theorem bigLe {n : Nat} (h : n ≤ 1000000) : n ≤ sizeLine := Nat.le_of_lt (bigLine h)
theorem st_ite {c : TT} {t1 t2 : TS} {σ : L2.St} {H : Hp} {D : Ends} {b : Bool} (h : Ans c σ H b) (h1 : b = true → t1 D σ H) (h2 : b = false → t2 D σ H) : tIfS c t1 t2 D σ H := by
  cases b with
  | true => exact st_yes h (h1 rfl)
  | false => exact st_no h (h2 rfl)
theorem while_ans {c : TT} {tb : TS} {D : Ends} {σ : L2.St} {H : Hp} (Pv : Nat → L2.St → Hp → Prop) (m : Nat) (h0 : Pv m σ H)
    (hs : ∀ m σ H, Pv m σ H → ∃ b, Ans c σ H b ∧ (b = true → tb { D with nx := fun σ' H' => ∃ m', m' < m ∧ Pv m' σ' H', ct := fun σ' H' => ∃ m', m' < m ∧ Pv m' σ' H', bk := D.nx } σ H) ∧ (b = false → D.nx σ H)) : tWhile c tb D σ H := by
  refine ⟨Pv, ⟨m, h0⟩, fun m σ H p => ?_⟩
  obtain ⟨b, ha, ht, hf⟩ := hs m σ H p
  refine ha _ ?_
  cases b with
  | true => exact ⟨_, fun σ' H' h => h, ht rfl⟩
  | false => exact hf rfl
/-- a comprehension or loop over the signs of a text -/
theorem lc_str {x : Str} {g : TG} {tt : TT} {te : TE} {vs : List Nat} {σ : L2.St} {H1 : Hp} {D : Addr} {Qd : Hp → Prop} (Pv : Nat → Hp → Prop) (h0 : Pv 0 (upd H1 D (.lst [])))
    (hs : ∀ i c H, x.cps[i]? = some c → Pv i H → g (.str ⟨#[c]⟩) (wipe σ vs) H fun σ2 H2 => wipe σ2 vs = wipe σ vs ∧ tt σ2 H2 fun b H3 =>
      if b = true then te σ2 H3 fun y H4 => ∃ acc, H4 D = some (.lst acc) ∧ acc.length < sizeLine ∧ Pv (i + 1) (upd H4 D (.lst (acc ++ [y]))) else Pv (i + 1) H3) (hd : ∀ H, Pv x.cps.size H → Qd H) :
    ∃ W : Nat → Nat → Hp → Prop, (∃ m, W 0 m (upd H1 D (.lst []))) ∧ ∀ i m H, W i m H →
      ((Its x).stop i H ∧ Qd H) ∨ ((Its x).go i H ∧ ∃ Nx : Hp → Prop, (∀ H', Nx H' → ∃ m', m' < m ∧ W (i + 1) m' H') ∧ ∀ x' H', (Its x).yld i H x' H' → g x' (wipe σ vs) H' fun σ2 H2 => wipe σ2 vs = wipe σ vs ∧ tt σ2 H2 fun b H3 =>
        if b = true then te σ2 H3 fun y H4 => ∃ acc, H4 D = some (.lst acc) ∧ acc.length < sizeLine ∧ Nx (upd H4 D (.lst (acc ++ [y]))) else Nx H3) := by
  refine ⟨fun i m H => m = x.cps.size - i ∧ i ≤ x.cps.size ∧ Pv i H, ⟨x.cps.size, by simp, Nat.zero_le _, h0⟩, ?_⟩
  rintro i m H ⟨rfl, hi, p⟩
  by_cases hlt : i < x.cps.size
  · refine .inr ⟨hlt, Pv (i + 1), fun H' p' => ⟨x.cps.size - (i + 1), by omega, rfl, hlt, p'⟩, fun x' H' y => ?_⟩
    obtain ⟨e, c, hc, y⟩ := y
    subst e y
    exact hs i c _ hc p
  · have e : i = x.cps.size := by omega
    subst e
    exact .inl ⟨Nat.le_refl _, hd H p⟩
/-- f of each sign, put into a new list -/
theorem lc_signs {z : Str} {g : TG} {te : TE} {vs : List Nat} {σ : L2.St} {H1 : Hp} {D : Addr} {Qd : Hp → Prop} (f : Nat → Bool) (hz : Big z) (hD : H1 D = none)
    (hs : ∀ c H (Q : VK), Q (.bl (f c)) H → g (.str ⟨#[c]⟩) (wipe σ vs) H fun σ2 H2 => wipe σ2 vs = wipe σ vs ∧ te σ2 H2 Q) (hd : ∀ H, Same H1 H → H D = some (.lst (((tl z).map f).map V.bl)) → Qd H) :
    ∃ W : Nat → Nat → Hp → Prop, (∃ m, W 0 m (upd H1 D (.lst []))) ∧ ∀ i m H, W i m H →
      ((Its z).stop i H ∧ Qd H) ∨ ((Its z).go i H ∧ ∃ Nx : Hp → Prop, (∀ H', Nx H' → ∃ m', m' < m ∧ W (i + 1) m' H') ∧ ∀ x' H', (Its z).yld i H x' H' → g x' (wipe σ vs) H' fun σ2 H2 => wipe σ2 vs = wipe σ vs ∧ tYes σ2 H2 fun b H3 =>
        if b = true then te σ2 H3 fun y H4 => ∃ acc, H4 D = some (.lst acc) ∧ acc.length < sizeLine ∧ Nx (upd H4 D (.lst (acc ++ [y]))) else Nx H3) := by
  refine lc_str (fun i H' => Same H1 H' ∧ H' D = some (.lst ((((tl z).take i).map f).map V.bl))) ⟨same_upd hD, upd_same⟩ ?_ ?_
  · rintro i c H' hi ⟨s2, hD2⟩
    have hi2 : (tl z)[i]? = some c := by rw [Array.getElem?_toList]; exact hi
    have hil : i < z.length := (Array.getElem?_eq_some_iff.mp hi).1
    have hsz : ((((tl z).take i).map f).map V.bl).length < sizeLine := by
      rw [List.length_map, List.length_map, List.length_take]
      exact Nat.lt_of_le_of_lt (Nat.min_le_left _ _) (bigLine (by unfold Big at hz; omega))
    have := hs c H' (fun y H4 => ∃ acc, H4 D = some (.lst acc) ∧ acc.length < sizeLine ∧ (Same H1 (upd H4 D (.lst (acc ++ [y]))) ∧ (upd H4 D (.lst (acc ++ [y]))) D = some (.lst ((((tl z).take (i + 1)).map f).map V.bl)))) ?_
    · exact this
    · refine ⟨_, hD2, hsz, same_mut s2 hD, ?_⟩
      rw [upd_same, List.take_add_one, hi2, List.map_append, List.map_append]
      rfl
  · rintro H' ⟨s2, hD2⟩
    have et : (tl z).take z.cps.size = tl z := List.take_of_length_le (by rw [Array.length_toList]; exact Nat.le_refl _)
    rw [et] at hD2
    exact hd _ s2 hD2
/-! ### own rules -/
theorem hu65 {A : Around} {k : Nat} (hr : Room k A) : A.units + 65 < cLine := by have := hr.un; omega
section
variable {X : Cx} {pos : Pos}
/-- o.f as a target -/
def gFld (K : PySem.W.Frag) (to : TE) (f : Str) : TG := fun v σ H Q => to σ H fun x H1 => ∃ a C dx fs, x = .ref a ∧ H1 a = some (.ins C dx fs) ∧ Cls K C ∧ NoAttr K C f ∧ fs.length < 1000 ∧ Q σ (upd H1 a (.ins C dx (putF f v fs)))
theorem pg_fld {o : Expr} {f : Str} {to : TE} (ho : PE X o to) : PG X (.Attribute o f pos) (gFld X.K to f) := by
  refine ⟨fun pins s σ H v u Q I r h => ?_⟩
  rw [assign_Attribute]
  refine wpAny_bind (wpAny_holding (thn (ho.run pins s σ H _ I h) fun ov s1 ⟨x, H1, I1, rx, a, C, dx, fs, ex, ea, c, n, l, q⟩ => ?_))
  subst ex
  obtain rfl : ov = Value.ref a := rx
  refine wpAny_bind (wpAny_standAt (wpAny_bind (wpAny_holding (setattr_ok I1 ea c n l r fun s3 I3 => ?_))))
  exact wpAny_release ⟨σ, _, I3, q⟩
/-- x in a tuple of data -/
def rInT (K : PySem.W.Frag) : R2 := fun x y H Q => ∃ d ds, Dp K H x d ∧ Dp K H y (.tuple ds) ∧ SeqAt.shaped d = true ∧ SeqAt.shaped (.tuple ds) = true ∧ Q (.bl (ds.any fun z => PyData.eqv z d)) H
theorem op_inT (hu : X.A.units + 65 < cLine) : OpR X (compareOp .In) (rInT X.K) := by
  intro pins s σ H x y v u Q I rx ry h
  obtain ⟨d, ds, hd, he, sd, se, q⟩ := h
  obtain ⟨as, r1⟩ := Dp.reads I d x v hd rx
  obtain ⟨bs, r2⟩ := Dp.reads I (.tuple ds) y u he ry
  exact SeqAt.in_tuple_reads r2 r1 (SeqAt.canLay_of_shaped se) (SeqAt.canLay_of_shaped sd) (room_in_shaped sd hu) ⟨.bl _, H, I, rfl, q⟩
end
/-! ### the text -/
abbrev LET : Str := "abcdefghijklmnopqrstuvwxyz"
abbrev DIG : Str := "0123456789"
def kws : List V := [.str "globals", .str "kinds", .str "keep", .str "def", .str "if", .str "else", .str "while", .str "risk", .str "raise", .str "try", .str "except", .str "finally", .str "undo", .str "with", .str "swallow", .str "return"]
def bars : List V := [.str "while", .str "try", .str "undo", .str "with", .str "return"]
def top (i : Nat) : Stmt := PySem.Challenge.pw_allornothing_k10_errors_of_names.main.body.getD i (.Pass ⟨0, 0, 0, 0⟩)
abbrev s_parts_of : Stmt := top 14
abbrev s_blocks_in : Stmt := top 15
abbrev s_listed : Stmt := top 16
abbrev s_calls_in : Stmt := top 17
abbrev s_sums_in : Stmt := top 18
abbrev s_assigned_by : Stmt := top 19
abbrev s_locals_of : Stmt := top 20
abbrev s_uses_in : Stmt := top 21
abbrev s_uses_of_target : Stmt := top 22
abbrev s_uses_of_sum : Stmt := top 23
abbrev s_uses_of_variables : Stmt := top 24
abbrev s_uses_of_kinds : Stmt := top 25
abbrev s_uses_of_handlers : Stmt := top 26
abbrev s_uses_of_args : Stmt := top 27
abbrev s_uses_of_made : Stmt := top 28
abbrev s_check_sizes : Stmt := top 42
abbrev s_largest : Stmt := top 43
abbrev s_by_place_in : Stmt := top 44
abbrev s_depth_of : Stmt := top 45
abbrev s_numbers_in : Stmt := top 46
abbrev s_check_names : Stmt := top 47
abbrev s_own_names : Stmt := top 48
abbrev s_check_different : Stmt := top 49
abbrev s_check_known : Stmt := top 50
abbrev s_check_statement : Stmt := top 51
abbrev s_are_fitting : Stmt := top 52
abbrev s_is_barred : Stmt := top 53
abbrev s_is_integer : Stmt := top 55
abbrev s_is_word : Stmt := top 66
abbrev s_is_name : Stmt := top 75
abbrev s_is_tree : Stmt := top 104
abbrev s_is_parted : Stmt := top 105
abbrev s_are_all : Stmt := top 106
abbrev s_are_names : Stmt := top 107
abbrev s_are_some_names : Stmt := top 108
abbrev s_is_keep : Stmt := top 109
abbrev s_is_sum : Stmt := top 110
abbrev s_is_term : Stmt := top 111
abbrev s_is_function : Stmt := top 112
abbrev s_is_param : Stmt := top 113
abbrev s_is_block : Stmt := top 114
abbrev s_is_statement : Stmt := top 115
abbrev s_is_part : Stmt := top 116
abbrev s_is_handler : Stmt := top 117
abbrev s_is_target : Stmt := top 118
abbrev s_is_arg : Stmt := top 119
abbrev s_are_args : Stmt := top 120
abbrev s_is_made : Stmt := top 121
abbrev s_Program___init__ : Stmt := inClass (top 124) 0
abbrev s_named_functions : Stmt := top 125
abbrev s__law_pool : Stmt := top 127
abbrev s__law_mixed : Stmt := top 128
abbrev s__law_draw : Stmt := top 129
abbrev s__law_names : Stmt := top 130
abbrev s_DuplicateName___init__ : Stmt := inClass (top 6) 0
abbrev s_UnknownName___init__ : Stmt := inClass (top 7) 0
abbrev s_WrongArguments___init__ : Stmt := inClass (top 8) 0
abbrev s_InvalidFinally___init__ : Stmt := inClass (top 9) 0
abbrev s__law_parts : Stmt := top 132
abbrev s__law_size : Stmt := top 133
abbrev s__law_numbered : Stmt := top 134
abbrev s__law_own_names : Stmt := top 135
abbrev s__law_pick : Stmt := top 138
abbrev s__law_sum : Stmt := top 139
abbrev s__law_call : Stmt := top 140
abbrev s__law_piece : Stmt := top 141
abbrev s__law_twice : Stmt := top 142
abbrev s__law_words_of : Stmt := top 143
abbrev s__law_of_calls : Stmt := top 144
abbrev s__law_errors : Stmt := top 145
abbrev s__law_due : Stmt := top 146
abbrev s__law_told : Stmt := top 147
abbrev s_law : Stmt := top 148
/-- where the text's defs and classes stand -/
structure Ads where
  f_parts_of : Addr
  f_parts_of_d : FuncData
  f_blocks_in : Addr
  f_blocks_in_d : FuncData
  f_listed : Addr
  f_listed_d : FuncData
  f_calls_in : Addr
  f_calls_in_d : FuncData
  f_sums_in : Addr
  f_sums_in_d : FuncData
  f_assigned_by : Addr
  f_assigned_by_d : FuncData
  f_locals_of : Addr
  f_locals_of_d : FuncData
  f_uses_in : Addr
  f_uses_in_d : FuncData
  f_uses_of_target : Addr
  f_uses_of_target_d : FuncData
  f_uses_of_sum : Addr
  f_uses_of_sum_d : FuncData
  f_uses_of_variables : Addr
  f_uses_of_variables_d : FuncData
  f_uses_of_kinds : Addr
  f_uses_of_kinds_d : FuncData
  f_uses_of_handlers : Addr
  f_uses_of_handlers_d : FuncData
  f_uses_of_args : Addr
  f_uses_of_args_d : FuncData
  f_uses_of_made : Addr
  f_uses_of_made_d : FuncData
  f_check_sizes : Addr
  f_check_sizes_d : FuncData
  f_largest : Addr
  f_largest_d : FuncData
  f_by_place_in : Addr
  f_by_place_in_d : FuncData
  f_depth_of : Addr
  f_depth_of_d : FuncData
  f_numbers_in : Addr
  f_numbers_in_d : FuncData
  f_check_names : Addr
  f_check_names_d : FuncData
  f_own_names : Addr
  f_own_names_d : FuncData
  f_check_different : Addr
  f_check_different_d : FuncData
  f_check_known : Addr
  f_check_known_d : FuncData
  f_check_statement : Addr
  f_check_statement_d : FuncData
  f_are_fitting : Addr
  f_are_fitting_d : FuncData
  f_is_barred : Addr
  f_is_barred_d : FuncData
  f_is_integer : Addr
  f_is_integer_d : FuncData
  f_is_word : Addr
  f_is_word_d : FuncData
  f_is_name : Addr
  f_is_name_d : FuncData
  f_is_tree : Addr
  f_is_tree_d : FuncData
  f_is_parted : Addr
  f_is_parted_d : FuncData
  f_are_all : Addr
  f_are_all_d : FuncData
  f_are_names : Addr
  f_are_names_d : FuncData
  f_are_some_names : Addr
  f_are_some_names_d : FuncData
  f_is_keep : Addr
  f_is_keep_d : FuncData
  f_is_sum : Addr
  f_is_sum_d : FuncData
  f_is_term : Addr
  f_is_term_d : FuncData
  f_is_function : Addr
  f_is_function_d : FuncData
  f_is_param : Addr
  f_is_param_d : FuncData
  f_is_block : Addr
  f_is_block_d : FuncData
  f_is_statement : Addr
  f_is_statement_d : FuncData
  f_is_part : Addr
  f_is_part_d : FuncData
  f_is_handler : Addr
  f_is_handler_d : FuncData
  f_is_target : Addr
  f_is_target_d : FuncData
  f_is_arg : Addr
  f_is_arg_d : FuncData
  f_are_args : Addr
  f_are_args_d : FuncData
  f_is_made : Addr
  f_is_made_d : FuncData
  f_Program___init__ : Addr
  f_Program___init___d : FuncData
  f_named_functions : Addr
  f_named_functions_d : FuncData
  f__law_pool : Addr
  f__law_pool_d : FuncData
  f__law_mixed : Addr
  f__law_mixed_d : FuncData
  f__law_draw : Addr
  f__law_draw_d : FuncData
  f__law_names : Addr
  f__law_names_d : FuncData
  f_DuplicateName___init__ : Addr
  f_DuplicateName___init___d : FuncData
  f_UnknownName___init__ : Addr
  f_UnknownName___init___d : FuncData
  f_WrongArguments___init__ : Addr
  f_WrongArguments___init___d : FuncData
  f_InvalidFinally___init__ : Addr
  f_InvalidFinally___init___d : FuncData
  f__law_parts : Addr
  f__law_parts_d : FuncData
  f__law_size : Addr
  f__law_size_d : FuncData
  f__law_numbered : Addr
  f__law_numbered_d : FuncData
  f__law_own_names : Addr
  f__law_own_names_d : FuncData
  f__law_pick : Addr
  f__law_pick_d : FuncData
  f__law_sum : Addr
  f__law_sum_d : FuncData
  f__law_call : Addr
  f__law_call_d : FuncData
  f__law_piece : Addr
  f__law_piece_d : FuncData
  f__law_twice : Addr
  f__law_twice_d : FuncData
  f__law_words_of : Addr
  f__law_words_of_d : FuncData
  f__law_of_calls : Addr
  f__law_of_calls_d : FuncData
  f__law_errors : Addr
  f__law_errors_d : FuncData
  f__law_due : Addr
  f__law_due_d : FuncData
  f__law_told : Addr
  f__law_told_d : FuncData
  f_law : Addr
  f_law_d : FuncData
  c_Program : Addr
  c_DuplicateName : Addr
  c_UnknownName : Addr
  c_WrongArguments : Addr
  c_InvalidFinally : Addr
  c_ProgramError : Addr
  t_KEYWORDS : Addr
  t_BARRED_FROM_FINALLY : Addr
/-- what the top has left -/
structure Txt (K : PySem.W.Frag) (mg : Str → Option Value) (a : Ads) : Prop where
  F_parts_of : Fun K "parts_of" "parts_of" s_parts_of a.f_parts_of a.f_parts_of_d
  b_parts_of : Binds K a.f_parts_of_d ["statement"] []
  g_parts_of : mg "parts_of" = some (.ref a.f_parts_of)
  F_blocks_in : Fun K "blocks_in" "blocks_in" s_blocks_in a.f_blocks_in a.f_blocks_in_d
  b_blocks_in : Binds K a.f_blocks_in_d ["statement"] []
  g_blocks_in : mg "blocks_in" = some (.ref a.f_blocks_in)
  F_listed : Fun K "listed" "listed" s_listed a.f_listed a.f_listed_d
  b_listed : Binds K a.f_listed_d ["block"] []
  g_listed : mg "listed" = some (.ref a.f_listed)
  F_calls_in : Fun K "calls_in" "calls_in" s_calls_in a.f_calls_in a.f_calls_in_d
  b_calls_in : Binds K a.f_calls_in_d ["statement"] []
  g_calls_in : mg "calls_in" = some (.ref a.f_calls_in)
  F_sums_in : Fun K "sums_in" "sums_in" s_sums_in a.f_sums_in a.f_sums_in_d
  b_sums_in : Binds K a.f_sums_in_d ["statement"] []
  g_sums_in : mg "sums_in" = some (.ref a.f_sums_in)
  F_assigned_by : Fun K "assigned_by" "assigned_by" s_assigned_by a.f_assigned_by a.f_assigned_by_d
  b_assigned_by : Binds K a.f_assigned_by_d ["statement"] []
  g_assigned_by : mg "assigned_by" = some (.ref a.f_assigned_by)
  F_locals_of : Fun K "locals_of" "locals_of" s_locals_of a.f_locals_of a.f_locals_of_d
  b_locals_of : Binds K a.f_locals_of_d ["shared", "function"] []
  g_locals_of : mg "locals_of" = some (.ref a.f_locals_of)
  F_uses_in : Fun K "uses_in" "uses_in" s_uses_in a.f_uses_in a.f_uses_in_d
  b_uses_in : Binds K a.f_uses_in_d ["statement"] []
  g_uses_in : mg "uses_in" = some (.ref a.f_uses_in)
  F_uses_of_target : Fun K "uses_of_target" "uses_of_target" s_uses_of_target a.f_uses_of_target a.f_uses_of_target_d
  b_uses_of_target : Binds K a.f_uses_of_target_d ["part"] []
  g_uses_of_target : mg "uses_of_target" = some (.ref a.f_uses_of_target)
  F_uses_of_sum : Fun K "uses_of_sum" "uses_of_sum" s_uses_of_sum a.f_uses_of_sum a.f_uses_of_sum_d
  b_uses_of_sum : Binds K a.f_uses_of_sum_d ["part"] []
  g_uses_of_sum : mg "uses_of_sum" = some (.ref a.f_uses_of_sum)
  F_uses_of_variables : Fun K "uses_of_variables" "uses_of_variables" s_uses_of_variables a.f_uses_of_variables a.f_uses_of_variables_d
  b_uses_of_variables : Binds K a.f_uses_of_variables_d ["part"] []
  g_uses_of_variables : mg "uses_of_variables" = some (.ref a.f_uses_of_variables)
  F_uses_of_kinds : Fun K "uses_of_kinds" "uses_of_kinds" s_uses_of_kinds a.f_uses_of_kinds a.f_uses_of_kinds_d
  b_uses_of_kinds : Binds K a.f_uses_of_kinds_d ["part"] []
  g_uses_of_kinds : mg "uses_of_kinds" = some (.ref a.f_uses_of_kinds)
  F_uses_of_handlers : Fun K "uses_of_handlers" "uses_of_handlers" s_uses_of_handlers a.f_uses_of_handlers a.f_uses_of_handlers_d
  b_uses_of_handlers : Binds K a.f_uses_of_handlers_d ["part"] []
  g_uses_of_handlers : mg "uses_of_handlers" = some (.ref a.f_uses_of_handlers)
  F_uses_of_args : Fun K "uses_of_args" "uses_of_args" s_uses_of_args a.f_uses_of_args a.f_uses_of_args_d
  b_uses_of_args : Binds K a.f_uses_of_args_d ["part"] []
  g_uses_of_args : mg "uses_of_args" = some (.ref a.f_uses_of_args)
  F_uses_of_made : Fun K "uses_of_made" "uses_of_made" s_uses_of_made a.f_uses_of_made a.f_uses_of_made_d
  b_uses_of_made : Binds K a.f_uses_of_made_d ["part"] []
  g_uses_of_made : mg "uses_of_made" = some (.ref a.f_uses_of_made)
  F_check_sizes : Fun K "check_sizes" "check_sizes" s_check_sizes a.f_check_sizes a.f_check_sizes_d
  b_check_sizes : Binds K a.f_check_sizes_d ["tree"] []
  g_check_sizes : mg "check_sizes" = some (.ref a.f_check_sizes)
  F_largest : Fun K "largest" "largest" s_largest a.f_largest a.f_largest_d
  b_largest : Binds K a.f_largest_d ["numbers"] []
  g_largest : mg "largest" = some (.ref a.f_largest)
  F_by_place_in : Fun K "by_place_in" "by_place_in" s_by_place_in a.f_by_place_in a.f_by_place_in_d
  b_by_place_in : Binds K a.f_by_place_in_d ["params"] []
  g_by_place_in : mg "by_place_in" = some (.ref a.f_by_place_in)
  F_depth_of : Fun K "depth_of" "depth_of" s_depth_of a.f_depth_of a.f_depth_of_d
  b_depth_of : Binds K a.f_depth_of_d ["block"] []
  g_depth_of : mg "depth_of" = some (.ref a.f_depth_of)
  F_numbers_in : Fun K "numbers_in" "numbers_in" s_numbers_in a.f_numbers_in a.f_numbers_in_d
  b_numbers_in : Binds K a.f_numbers_in_d ["tree"] []
  g_numbers_in : mg "numbers_in" = some (.ref a.f_numbers_in)
  F_check_names : Fun K "check_names" "check_names" s_check_names a.f_check_names a.f_check_names_d
  b_check_names : Binds K a.f_check_names_d ["tree"] []
  g_check_names : mg "check_names" = some (.ref a.f_check_names)
  F_own_names : Fun K "own_names" "own_names" s_own_names a.f_own_names a.f_own_names_d
  b_own_names : Binds K a.f_own_names_d ["variables", "function"] []
  g_own_names : mg "own_names" = some (.ref a.f_own_names)
  F_check_different : Fun K "check_different" "check_different" s_check_different a.f_check_different a.f_check_different_d
  b_check_different : Binds K a.f_check_different_d ["names"] []
  g_check_different : mg "check_different" = some (.ref a.f_check_different)
  F_check_known : Fun K "check_known" "check_known" s_check_known a.f_check_known a.f_check_known_d
  b_check_known : Binds K a.f_check_known_d ["names", "known"] []
  g_check_known : mg "check_known" = some (.ref a.f_check_known)
  F_check_statement : Fun K "check_statement" "check_statement" s_check_statement a.f_check_statement a.f_check_statement_d
  b_check_statement : Binds K a.f_check_statement_d ["place", "statement", "known", "params"] []
  g_check_statement : mg "check_statement" = some (.ref a.f_check_statement)
  F_are_fitting : Fun K "are_fitting" "are_fitting" s_are_fitting a.f_are_fitting a.f_are_fitting_d
  b_are_fitting : Binds K a.f_are_fitting_d ["args", "params"] []
  g_are_fitting : mg "are_fitting" = some (.ref a.f_are_fitting)
  F_is_barred : Fun K "is_barred" "is_barred" s_is_barred a.f_is_barred a.f_is_barred_d
  b_is_barred : Binds K a.f_is_barred_d ["block"] []
  g_is_barred : mg "is_barred" = some (.ref a.f_is_barred)
  F_is_integer : Fun K "is_integer" "is_integer" s_is_integer a.f_is_integer a.f_is_integer_d
  b_is_integer : Binds K a.f_is_integer_d ["value"] []
  g_is_integer : mg "is_integer" = some (.ref a.f_is_integer)
  F_is_word : Fun K "is_word" "is_word" s_is_word a.f_is_word a.f_is_word_d
  b_is_word : Binds K a.f_is_word_d ["text"] []
  g_is_word : mg "is_word" = some (.ref a.f_is_word)
  F_is_name : Fun K "is_name" "is_name" s_is_name a.f_is_name a.f_is_name_d
  b_is_name : Binds K a.f_is_name_d ["value"] []
  g_is_name : mg "is_name" = some (.ref a.f_is_name)
  F_is_tree : Fun K "is_tree" "is_tree" s_is_tree a.f_is_tree a.f_is_tree_d
  b_is_tree : Binds K a.f_is_tree_d ["value"] []
  g_is_tree : mg "is_tree" = some (.ref a.f_is_tree)
  F_is_parted : Fun K "is_parted" "is_parted" s_is_parted a.f_is_parted a.f_is_parted_d
  b_is_parted : Binds K a.f_is_parted_d ["value", "parts"] []
  g_is_parted : mg "is_parted" = some (.ref a.f_is_parted)
  F_are_all : Fun K "are_all" "are_all" s_are_all a.f_are_all a.f_are_all_d
  b_are_all : Binds K a.f_are_all_d ["value", "is_one"] []
  g_are_all : mg "are_all" = some (.ref a.f_are_all)
  F_are_names : Fun K "are_names" "are_names" s_are_names a.f_are_names a.f_are_names_d
  b_are_names : Binds K a.f_are_names_d ["value"] []
  g_are_names : mg "are_names" = some (.ref a.f_are_names)
  F_are_some_names : Fun K "are_some_names" "are_some_names" s_are_some_names a.f_are_some_names a.f_are_some_names_d
  b_are_some_names : Binds K a.f_are_some_names_d ["value"] []
  g_are_some_names : mg "are_some_names" = some (.ref a.f_are_some_names)
  F_is_keep : Fun K "is_keep" "is_keep" s_is_keep a.f_is_keep a.f_is_keep_d
  b_is_keep : Binds K a.f_is_keep_d ["value"] []
  g_is_keep : mg "is_keep" = some (.ref a.f_is_keep)
  F_is_sum : Fun K "is_sum" "is_sum" s_is_sum a.f_is_sum a.f_is_sum_d
  b_is_sum : Binds K a.f_is_sum_d ["value"] []
  g_is_sum : mg "is_sum" = some (.ref a.f_is_sum)
  F_is_term : Fun K "is_term" "is_term" s_is_term a.f_is_term a.f_is_term_d
  b_is_term : Binds K a.f_is_term_d ["value"] []
  g_is_term : mg "is_term" = some (.ref a.f_is_term)
  F_is_function : Fun K "is_function" "is_function" s_is_function a.f_is_function a.f_is_function_d
  b_is_function : Binds K a.f_is_function_d ["value"] []
  g_is_function : mg "is_function" = some (.ref a.f_is_function)
  F_is_param : Fun K "is_param" "is_param" s_is_param a.f_is_param a.f_is_param_d
  b_is_param : Binds K a.f_is_param_d ["value"] []
  g_is_param : mg "is_param" = some (.ref a.f_is_param)
  F_is_block : Fun K "is_block" "is_block" s_is_block a.f_is_block a.f_is_block_d
  b_is_block : Binds K a.f_is_block_d ["value", "depth"] []
  g_is_block : mg "is_block" = some (.ref a.f_is_block)
  F_is_statement : Fun K "is_statement" "is_statement" s_is_statement a.f_is_statement a.f_is_statement_d
  b_is_statement : Binds K a.f_is_statement_d ["value", "depth"] []
  g_is_statement : mg "is_statement" = some (.ref a.f_is_statement)
  F_is_part : Fun K "is_part" "is_part" s_is_part a.f_is_part a.f_is_part_d
  b_is_part : Binds K a.f_is_part_d ["sort", "part", "depth"] []
  g_is_part : mg "is_part" = some (.ref a.f_is_part)
  F_is_handler : Fun K "is_handler" "is_handler" s_is_handler a.f_is_handler a.f_is_handler_d
  b_is_handler : Binds K a.f_is_handler_d ["value", "depth"] []
  g_is_handler : mg "is_handler" = some (.ref a.f_is_handler)
  F_is_target : Fun K "is_target" "is_target" s_is_target a.f_is_target a.f_is_target_d
  b_is_target : Binds K a.f_is_target_d ["value"] []
  g_is_target : mg "is_target" = some (.ref a.f_is_target)
  F_is_arg : Fun K "is_arg" "is_arg" s_is_arg a.f_is_arg a.f_is_arg_d
  b_is_arg : Binds K a.f_is_arg_d ["value"] []
  g_is_arg : mg "is_arg" = some (.ref a.f_is_arg)
  F_are_args : Fun K "are_args" "are_args" s_are_args a.f_are_args a.f_are_args_d
  b_are_args : Binds K a.f_are_args_d ["value"] []
  g_are_args : mg "are_args" = some (.ref a.f_are_args)
  F_is_made : Fun K "is_made" "is_made" s_is_made a.f_is_made a.f_is_made_d
  b_is_made : Binds K a.f_is_made_d ["value"] []
  g_is_made : mg "is_made" = some (.ref a.f_is_made)
  F_Program___init__ : Fun K "__init__" "Program.__init__" s_Program___init__ a.f_Program___init__ a.f_Program___init___d
  b_Program___init__ : Binds K a.f_Program___init___d ["self", "tree"] []
  mk_Program : Mk K a.c_Program a.f_Program___init__
  F_named_functions : Fun K "named_functions" "named_functions" s_named_functions a.f_named_functions a.f_named_functions_d
  b_named_functions : Binds K a.f_named_functions_d ["tree"] []
  g_named_functions : mg "named_functions" = some (.ref a.f_named_functions)
  F__law_pool : Fun K "_law_pool" "_law_pool" s__law_pool a.f__law_pool a.f__law_pool_d
  b__law_pool : Binds K a.f__law_pool_d ["_law_script"] []
  g__law_pool : mg "_law_pool" = some (.ref a.f__law_pool)
  F__law_mixed : Fun K "_law_mixed" "_law_mixed" s__law_mixed a.f__law_mixed a.f__law_mixed_d
  b__law_mixed : Binds K a.f__law_mixed_d ["_law_number", "_law_count", "_law_many"] []
  g__law_mixed : mg "_law_mixed" = some (.ref a.f__law_mixed)
  F__law_draw : Fun K "_law_draw" "_law_draw" s__law_draw a.f__law_draw a.f__law_draw_d
  b__law_draw : Binds K a.f__law_draw_d ["_law_pool_here", "_law_many"] []
  g__law_draw : mg "_law_draw" = some (.ref a.f__law_draw)
  F__law_names : Fun K "_law_names" "_law_names" s__law_names a.f__law_names a.f__law_names_d
  b__law_names : Binds K a.f__law_names_d ["_law_pool_here"] []
  g__law_names : mg "_law_names" = some (.ref a.f__law_names)
  F_DuplicateName___init__ : Fun K "__init__" "DuplicateName.__init__" s_DuplicateName___init__ a.f_DuplicateName___init__ a.f_DuplicateName___init___d
  b_DuplicateName___init__ : Binds K a.f_DuplicateName___init___d ["self", "name"] []
  e_DuplicateName : L2E.ErrC K a.c_DuplicateName a.f_DuplicateName___init__ "name"
  s_DuplicateName : ∀ x : Value, PySem.W.subIn K (.ref a.c_DuplicateName) x = some ((Value.ref a.c_DuplicateName :: .ref a.c_ProgramError :: PySem.HandSPX.veTail).contains x)
  F_UnknownName___init__ : Fun K "__init__" "UnknownName.__init__" s_UnknownName___init__ a.f_UnknownName___init__ a.f_UnknownName___init___d
  b_UnknownName___init__ : Binds K a.f_UnknownName___init___d ["self", "name"] []
  e_UnknownName : L2E.ErrC K a.c_UnknownName a.f_UnknownName___init__ "name"
  s_UnknownName : ∀ x : Value, PySem.W.subIn K (.ref a.c_UnknownName) x = some ((Value.ref a.c_UnknownName :: .ref a.c_ProgramError :: PySem.HandSPX.veTail).contains x)
  F_WrongArguments___init__ : Fun K "__init__" "WrongArguments.__init__" s_WrongArguments___init__ a.f_WrongArguments___init__ a.f_WrongArguments___init___d
  b_WrongArguments___init__ : Binds K a.f_WrongArguments___init___d ["self", "place"] []
  e_WrongArguments : L2E.ErrC K a.c_WrongArguments a.f_WrongArguments___init__ "place"
  s_WrongArguments : ∀ x : Value, PySem.W.subIn K (.ref a.c_WrongArguments) x = some ((Value.ref a.c_WrongArguments :: .ref a.c_ProgramError :: PySem.HandSPX.veTail).contains x)
  F_InvalidFinally___init__ : Fun K "__init__" "InvalidFinally.__init__" s_InvalidFinally___init__ a.f_InvalidFinally___init__ a.f_InvalidFinally___init___d
  b_InvalidFinally___init__ : Binds K a.f_InvalidFinally___init___d ["self", "place"] []
  e_InvalidFinally : L2E.ErrC K a.c_InvalidFinally a.f_InvalidFinally___init__ "place"
  s_InvalidFinally : ∀ x : Value, PySem.W.subIn K (.ref a.c_InvalidFinally) x = some ((Value.ref a.c_InvalidFinally :: .ref a.c_ProgramError :: PySem.HandSPX.veTail).contains x)
  F__law_parts : Fun K "_law_parts" "_law_parts" s__law_parts a.f__law_parts a.f__law_parts_d
  b__law_parts : Binds K a.f__law_parts_d ["_law_statement"] []
  g__law_parts : mg "_law_parts" = some (.ref a.f__law_parts)
  F__law_size : Fun K "_law_size" "_law_size" s__law_size a.f__law_size a.f__law_size_d
  b__law_size : Binds K a.f__law_size_d ["_law_block"] []
  g__law_size : mg "_law_size" = some (.ref a.f__law_size)
  F__law_numbered : Fun K "_law_numbered" "_law_numbered" s__law_numbered a.f__law_numbered a.f__law_numbered_d
  b__law_numbered : Binds K a.f__law_numbered_d ["_law_block", "_law_first"] []
  g__law_numbered : mg "_law_numbered" = some (.ref a.f__law_numbered)
  F__law_own_names : Fun K "_law_own_names" "_law_own_names" s__law_own_names a.f__law_own_names a.f__law_own_names_d
  b__law_own_names : Binds K a.f__law_own_names_d ["_law_tree", "_law_function"] []
  g__law_own_names : mg "_law_own_names" = some (.ref a.f__law_own_names)
  F__law_pick : Fun K "_law_pick" "_law_pick" s__law_pick a.f__law_pick a.f__law_pick_d
  b__law_pick : Binds K a.f__law_pick_d ["_law_pool_here", "_law_words"] []
  g__law_pick : mg "_law_pick" = some (.ref a.f__law_pick)
  F__law_sum : Fun K "_law_sum" "_law_sum" s__law_sum a.f__law_sum a.f__law_sum_d
  b__law_sum : Binds K a.f__law_sum_d ["_law_pool_here", "_law_words"] []
  g__law_sum : mg "_law_sum" = some (.ref a.f__law_sum)
  F__law_call : Fun K "_law_call" "_law_call" s__law_call a.f__law_call a.f__law_call_d
  b__law_call : Binds K a.f__law_call_d ["_law_pool_here", "_law_words"] []
  g__law_call : mg "_law_call" = some (.ref a.f__law_call)
  F__law_piece : Fun K "_law_piece" "_law_piece" s__law_piece a.f__law_piece a.f__law_piece_d
  b__law_piece : Binds K a.f__law_piece_d ["_law_pool_here", "_law_words", "_law_depth"] []
  g__law_piece : mg "_law_piece" = some (.ref a.f__law_piece)
  F__law_twice : Fun K "_law_twice" "_law_twice" s__law_twice a.f__law_twice a.f__law_twice_d
  b__law_twice : Binds K a.f__law_twice_d ["_law_words"] []
  g__law_twice : mg "_law_twice" = some (.ref a.f__law_twice)
  F__law_words_of : Fun K "_law_words_of" "_law_words_of" s__law_words_of a.f__law_words_of a.f__law_words_of_d
  b__law_words_of : Binds K a.f__law_words_of_d ["_law_args"] []
  g__law_words_of : mg "_law_words_of" = some (.ref a.f__law_words_of)
  F__law_of_calls : Fun K "_law_of_calls" "_law_of_calls" s__law_of_calls a.f__law_of_calls a.f__law_of_calls_d
  b__law_of_calls : Binds K a.f__law_of_calls_d ["_law_tree", "_law_variables", "_law_place", "_law_calls"] []
  g__law_of_calls : mg "_law_of_calls" = some (.ref a.f__law_of_calls)
  F__law_errors : Fun K "_law_errors" "_law_errors" s__law_errors a.f__law_errors a.f__law_errors_d
  b__law_errors : Binds K a.f__law_errors_d ["_law_tree", "_law_variables", "_law_place", "_law_statement"] []
  g__law_errors : mg "_law_errors" = some (.ref a.f__law_errors)
  F__law_due : Fun K "_law_due" "_law_due" s__law_due a.f__law_due a.f__law_due_d
  b__law_due : Binds K a.f__law_due_d ["_law_tree"] []
  g__law_due : mg "_law_due" = some (.ref a.f__law_due)
  F__law_told : Fun K "_law_told" "_law_told" s__law_told a.f__law_told a.f__law_told_d
  b__law_told : Binds K a.f__law_told_d ["_law_tree"] []
  g__law_told : mg "_law_told" = some (.ref a.f__law_told)
  F_law : Fun K "law" "law" s_law a.f_law a.f_law_d
  g_law : mg "law" = some (.ref a.f_law)
  cl_Program : Cls K a.c_Program
  mg_Program : mg "Program" = some (.ref a.c_Program)
  n_Program_globals : NoAttr K a.c_Program "globals"
  n_Program__tree : NoAttr K a.c_Program "_tree"
  n_Program__named : NoAttr K a.c_Program "_named"
  mg_DuplicateName : mg "DuplicateName" = some (.ref a.c_DuplicateName)
  mg_UnknownName : mg "UnknownName" = some (.ref a.c_UnknownName)
  mg_WrongArguments : mg "WrongArguments" = some (.ref a.c_WrongArguments)
  mg_InvalidFinally : mg "InvalidFinally" = some (.ref a.c_InvalidFinally)
  mg_ProgramError : mg "ProgramError" = some (.ref a.c_ProgramError)
  rd : L2E.ClsRd K
  pe : L2E.ClsP K a.c_ProgramError
  nd : [a.c_DuplicateName, a.c_UnknownName, a.c_WrongArguments, a.c_InvalidFinally, a.c_ProgramError].Nodup
  int : mg "int" = none
  len : mg "len" = none
  all : mg "all" = none
  any : mg "any" = none
  max : mg "max" = none
  isinstance : mg "isinstance" = none
  str : mg "str" = none
  tuple : mg "tuple" = none
  sorted : mg "sorted" = none
  abs : mg "abs" = none
  range : mg "range" = none
  bool : mg "bool" = none
  list : mg "list" = none
  sum : mg "sum" = none
  zip : mg "zip" = none
  enumerate : mg "enumerate" = none
  set : mg "set" = none
  g_LETTERS : ∃ t, mg "LETTERS" = some (.str LET t)
  g_DIGITS : ∃ t, mg "DIGITS" = some (.str DIG t)
  g_MOST_GLOBALS : ∃ t, mg "MOST_GLOBALS" = some (.int 4 t)
  g_MOST_KINDS : ∃ t, mg "MOST_KINDS" = some (.int 3 t)
  g_MOST_KEEPS : ∃ t, mg "MOST_KEEPS" = some (.int 4 t)
  g_MOST_FUNCTIONS : ∃ t, mg "MOST_FUNCTIONS" = some (.int 6 t)
  g_MOST_PARAMETERS : ∃ t, mg "MOST_PARAMETERS" = some (.int 3 t)
  g_MOST_BY_PLACE : ∃ t, mg "MOST_BY_PLACE" = some (.int 2 t)
  g_MOST_LOCALS : ∃ t, mg "MOST_LOCALS" = some (.int 3 t)
  g_MOST_STATEMENTS : ∃ t, mg "MOST_STATEMENTS" = some (.int 60 t)
  g_MOST_NESTING : ∃ t, mg "MOST_NESTING" = some (.int 6 t)
  g_LARGEST_NUMBER : ∃ t, mg "LARGEST_NUMBER" = some (.int 999999999999 t)
  g_MOST_NESTED : ∃ t, mg "MOST_NESTED" = some (.int 30 t)
  g_KEYWORDS : mg "KEYWORDS" = some (.ref a.t_KEYWORDS)
  q_KEYWORDS : ∀ H, SqT K H a.t_KEYWORDS kws
  g_BARRED_FROM_FINALLY : mg "BARRED_FROM_FINALLY" = some (.ref a.t_BARRED_FROM_FINALLY)
  q_BARRED_FROM_FINALLY : ∀ H, SqT K H a.t_BARRED_FROM_FINALLY bars

/-! ### names -/
def letter (c : Nat) : Bool := decide (c ∈ LET.cps.toList)
def digit (c : Nat) : Bool := decide (c ∈ DIG.cps.toList)
def blank (c : Nat) : Bool := decide (c ∈ (Str.ofString " \n").cps.toList)
def alnum (c : Nat) : Bool := letter c || digit c
def isW (z : Str) : Bool := match tl z with
  | [] => false
  | c :: r => letter c && (c :: r).all alnum
theorem isW_cons {z : Str} {c : Nat} {r : List Nat} (e : tl z = c :: r) (hc : letter c = true) : isW z = ((tl z).map alnum).all id := by
  unfold isW
  rw [e]
  show (letter c && (c :: r).all alnum) = ((c :: r).map alnum).all id
  rw [hc, Bool.true_and, List.all_map]
  rfl
theorem isW_not {z : Str} {c : Nat} {r : List Nat} (e : tl z = c :: r) (hc : letter c = false) : isW z = false := by
  unfold isW
  rw [e]
  show (letter c && (c :: r).all alnum) = false
  rw [hc, Bool.false_and]
theorem isW_nil {z : Str} (e : tl z = []) : isW z = false := by
  unfold isW
  rw [e]
theorem tl_empty : tl (Str.ofString "") = [] := by decide +kernel
theorem at0 {z : Str} {c : Nat} {r : List Nat} (e : tl z = c :: r) : atI z.cps.toList 0 = some c := by
  show atI (tl z) 0 = some c
  rw [e]
  exact atI_nat (j := 0) rfl
def spWord : Sp := fun vs H Q _ => ∃ z, vs = [.str z] ∧ Big z ∧ ∀ H', Same H H' → Q (.bl (isW z)) H'
def isN (z : Str) : Bool := isW z && !inV (.str z) kws
theorem kws_flat : kws.all flatV = true := by decide +kernel
def spIsInt : Sp := fun vs H Q _ => ∃ i : Int, vs = [.int i] ∧ Q (.bl true) H
def spName : Sp := fun vs H Q _ => ∃ z, vs = [.str z] ∧ Big z ∧ ∀ H', Same H H' → Q (.bl (isN z)) H'
section
variable {P : Program} {w : World} {K : PySem.W.Frag} {mg : Str → Option Value} {base : Heap} {a : Ads}
theorem sc_is_integer : FnScope ["value"] ["value"] (defScope s_is_integer) := ⟨rfl, rfl, rfl, by decide +kernel, rfl, by decide +kernel, by decide +kernel⟩
theorem ok_is_integer (T : Txt K mg a) : FnOk P w K mg base CX0 1 a.f_is_integer a.f_is_integer_d ["value"] spIsInt := by
  refine T.F_is_integer.ok sc_is_integer (fun vs H Q E h => ?_) (fun cdv A outer s H vs Q E hr h => ?_)
  · obtain ⟨i, rfl, _⟩ := h
    rfl
  obtain ⟨i, rfl, q⟩ := h
  refine ⟨_, (pss_one (ps_ret (pe_and (pe_callB call_isi (by rfl) T.isinstance (by decide +kernel) (pa_cons (pv 0) (pa_cons (pe_bltn (v := .ty "int") (by rfl) T.int (by decide +kernel) rfl) pa_nil))) (pe_one (pe_not (pe_callB call_isi (by rfl) T.isinstance (by decide +kernel) (pa_cons (pv 0) (pa_cons (pe_bltn (v := .ty "bool") (by rfl) T.bool (by decide +kernel) rfl) pa_nil)))))))), ?_⟩
  refine ⟨_, rfl, .int i, .ty "int", .type "int", .type "int", true, rfl, .ty "int", .base (.int i), kit_ty (by decide +kernel), _, rfl, ite2 (fun _ => ?_) (fun e => absurd rfl e)⟩
  exact ⟨_, rfl, .int i, .ty "bool", .type "int", .type "bool", false, rfl, .ty "bool", .base (.int i), kit_ty (by decide +kernel), _, rfl, q⟩
theorem sc_is_word : FnScope ["text", "sign"] ["text"] (defScope s_is_word) := ⟨rfl, rfl, rfl, by decide +kernel, rfl, by decide +kernel, by decide +kernel⟩
theorem ok_is_word (T : Txt K mg a) : FnOk P w K mg base CX0 1 a.f_is_word a.f_is_word_d ["text"] spWord := by
  refine T.F_is_word.ok sc_is_word (fun vs H Q E h => ?_) (fun cdv A outer s H vs Q E hr h => ?_)
  · obtain ⟨z, rfl, _⟩ := h
    rfl
  obtain ⟨z, rfl, hz, q⟩ := h
  refine ⟨_, (pss_cons (ps_if (PW.pt (pw_or (pt_cmpR op_eq (pv 0) pe_str (nomark _)) (pw_or1 (pt_cmpR op_notIn_sign (pe_ix ix_str (pv 0) pe_int (fun _ _ => rfl)) (pe_gs rfl T.g_LETTERS) (by rfl)))))
      (pss_one (ps_ret pe_bl))
      pss_nil)
    (pss_one (ps_ret (pe_callB (cr_all rfl) (by rfl) T.all (by decide +kernel) (pa_cons (pe_lc (own := [("sign", 1)]) (g := gName 1) (tt := tYes) (by rfl) sc_is_word.nd (pi_str (pv 0)) (blkOk_by (own := [("sign", 1)]) (N := ["text", "sign"]) (sc := defScope s_is_word) (by decide +kernel)) (fun _ _ _ _ _ => pg_name (i := 1) sc_is_word.nd rfl (Or.inl rfl)) (fun _ _ _ _ _ => pts_nil) (fun _ _ _ _ _ => (pe_or (pe_cmpR op_in_sign (pv 1) (pe_gs rfl T.g_LETTERS) (by rfl)) (pe_one (pe_cmpR op_in_sign (pv 1) (pe_gs rfl T.g_DIGITS) (by rfl)))))) pa_nil))))), ?_⟩
  cases hc : tl z with
  | nil =>
    have ez : z = Str.ofString "" := ext_tl (hc.trans tl_empty.symm)
    refine st_seq (st_yes (ans_or1 (ans_eq (fun Q q => ⟨_, rfl, q⟩) (fun Q q => q) rfl (decide_eq_true (congrArg V.str ez)))) ?_)
    have := q H (Same.refl H)
    rw [isW_nil hc] at this
    exact this
  | cons c r =>
    have ez : ¬ z = Str.ofString "" := fun e => by
      rw [e, tl_empty] at hc
      cases hc
    refine st_seq (st_ite (ans_or (ans_eq (fun Q q => ⟨_, rfl, q⟩) (fun Q q => q) rfl (decide_eq_false fun e => ez (V.str.inj e))) (b := !letter c) (fun Q q => ⟨_, rfl, z, 0, c, rfl, rfl, bigLe hz, at0 hc, c, LET, rfl, rfl, _, rfl, q⟩)) (fun e => ?_) (fun e => ?_))
    · have := q H (Same.refl H)
      rw [isW_not hc (by simpa using e)] at this
      exact this
    · have hl : letter c = true := by simpa using e
      refine ⟨_, rfl, z, rfl, fun D hD => lc_signs alnum hz hD (fun c' H' Q' q' => ⟨rfl, _, rfl, c', LET, rfl, rfl, _, rfl, ite2 (fun e => ?_) (fun e => ?_)⟩) (fun H' s2 hD2 => ⟨D, _, rfl, SqL.of hD2, ?_⟩)⟩
      · have : alnum c' = true := by unfold alnum letter; rw [e]; rfl
        rw [this] at q'
        exact q'
      · refine ⟨_, rfl, c', DIG, rfl, rfl, ?_⟩
        have : alnum c' = digit c' := by unfold alnum letter; rw [Bool.eq_false_iff.mpr e, Bool.false_or]
        rw [this] at q'
        exact q'
      · rw [← isW_cons hc hl]
        exact q _ s2
theorem sc_is_name : FnScope ["value"] ["value"] (defScope s_is_name) := ⟨rfl, rfl, rfl, by decide +kernel, rfl, by decide +kernel, by decide +kernel⟩
theorem ok_is_name (T : Txt K mg a) : FnOk P w K mg base CX0 2 a.f_is_name a.f_is_name_d ["value"] spName := by
  refine T.F_is_name.ok sc_is_name (fun vs H Q E h => ?_) (fun cdv A outer s H vs Q E hr h => ?_)
  · obtain ⟨z, rfl, _⟩ := h
    rfl
  obtain ⟨z, rfl, hz, q⟩ := h
  refine ⟨_, (pss_one (ps_ret (pe_and (pe_callB call_isi (by rfl) T.isinstance (by decide +kernel) (pa_cons (pv 0) (pa_cons (pe_bltn (v := .ty "str") (by rfl) T.str (by decide +kernel) rfl) pa_nil))) (pe_and (pe_call (ok_is_word T) (hr.mono (by decide)) (by rfl) T.g_is_word T.F_is_word.kp T.b_is_word .nil pass0 (pa_cons (pv 0) pa_nil)) (pe_one (pe_cmpR op_notIn_seq (pv 0) (pe_gr rfl T.g_KEYWORDS) (by rfl))))))), ?_⟩
  refine ⟨_, rfl, _, _, _, _, true, rfl, .ty "str", .base (.str z), kit_ty (by decide +kernel), true, rfl, iteT ⟨_, rfl, z, rfl, hz, fun H1 s1 => ⟨isW z, rfl, ite2 (fun e => ?_) (fun e => ?_)⟩⟩⟩
  · refine ⟨_, rfl, a.t_KEYWORDS, kws, rfl, .inr (T.q_KEYWORDS H1), rfl, kws_flat, ?_⟩
    have := q H1 s1
    unfold isN at this
    rw [e, Bool.true_and] at this
    exact this
  · have := q H1 s1
    unfold isN at this
    rw [Bool.eq_false_iff.mpr e, Bool.false_and] at this
    exact this
end
end K10
namespace K10
open PySem PySem.Spec PyProof.Rows L2 TL
theorem len_take {α β : Type} {l : List α} {g : α → β} {i n : Nat} (h : l.length ≤ n) (hn : n ≤ 1000000) : ((l.take i).map g).length < sizeLine := by
  rw [List.length_map, List.length_take]
  exact bigLine (by omega)
theorem get_map {α β : Type} {l : List α} {g : α → β} {i : Nat} {d : β} (h : (l.map g)[i]? = some d) : ∃ x, l[i]? = some x ∧ g x = d := by
  rw [List.getElem?_map] at h
  cases e : l[i]? with
  | none => rw [e] at h; cases h
  | some z => rw [e] at h; exact ⟨z, rfl, Option.some.inj h⟩
def RepP (H : Hp) : List Addr → List (Str × Int) → Prop
  | [], [] => True
  | a :: as, t :: ts => H a = some (.tup [.str t.1, .int t.2]) ∧ RepP H as ts
  | _, _ => False
theorem RepP.same {H H' : Hp} (s : Same H H') : ∀ {as : List Addr} {ts : List (Str × Int)}, RepP H as ts → RepP H' as ts
  | [], [], _ => trivial
  | _ :: _, _ :: _, h => ⟨s _ _ h.1, RepP.same s h.2⟩
  | [], _ :: _, h => h.elim
  | _ :: _, [], h => h.elim
theorem RepP.app {H : Hp} {a : Addr} {t : Str × Int} (ha : H a = some (.tup [.str t.1, .int t.2])) : ∀ {as : List Addr} {ts : List (Str × Int)}, RepP H as ts → RepP H (as ++ [a]) (ts ++ [t])
  | [], [], _ => ⟨ha, trivial⟩
  | _ :: _, _ :: _, h => ⟨h.1, RepP.app ha h.2⟩
  | [], _ :: _, h => h.elim
  | _ :: _, [], h => h.elim
theorem RepP.offX {H : Hp} {L : Addr} {u o : HO} (hL : H L = some u) (hu : ∀ xs, u ≠ .tup xs) : ∀ {as : List Addr} {ts : List (Str × Int)}, RepP H as ts → RepP (upd H L o) as ts
  | [], [], _ => trivial
  | _ :: _, _ :: _, h => ⟨by rw [upd_ne (ne_of h.1 hL (fun z => hu _ z.symm))]; exact h.1, RepP.offX hL hu h.2⟩
  | [], _ :: _, h => h.elim
  | _ :: _, [], h => h.elim
theorem RepP.len {H : Hp} : ∀ {as : List Addr} {ts : List (Str × Int)}, RepP H as ts → as.length = ts.length
  | [], [], _ => rfl
  | _ :: _, _ :: _, h => by rw [List.length_cons, List.length_cons, RepP.len h.2]
  | [], _ :: _, h => h.elim
  | _ :: _, [], h => h.elim
theorem RepP.get {H : Hp} : ∀ {as : List Addr} {ts : List (Str × Int)} {j : Nat} {x : V}, RepP H as ts → (as.map V.ref)[j]? = some x → ∃ a t, x = .ref a ∧ ts[j]? = some t ∧ H a = some (.tup [.str t.1, .int t.2])
  | [], [], j, t, _, h => by simp at h
  | a :: _, t :: _, 0, x, h, e => ⟨a, t, (Option.some.inj e).symm, rfl, h.1⟩
  | _ :: as, _ :: ts, j + 1, x, h, e => RepP.get (as := as) (ts := ts) (j := j) h.2 e
  | [], _ :: _, _, _, h, _ => h.elim
  | _ :: _, [], _, _, h, _ => h.elim
/-! ### sorted texts are one -/
theorem eq_of_strict {α : Type} {R : α → α → Prop} (irr : ∀ a, ¬ R a a) (asy : ∀ a b, R a b → ¬ R b a) : ∀ {l1 l2 : List α}, l1.Pairwise R → l2.Pairwise R → (∀ x, x ∈ l1 ↔ x ∈ l2) → l1 = l2
  | [], [], _, _, _ => rfl
  | [], b :: _, _, _, h => absurd ((h b).mpr List.mem_cons_self) (by simp)
  | a :: _, [], _, _, h => absurd ((h a).mp List.mem_cons_self) (by simp)
  | a :: l1, b :: l2, h1, h2, h => by
    obtain ⟨p1, q1⟩ := List.pairwise_cons.mp h1
    obtain ⟨p2, q2⟩ := List.pairwise_cons.mp h2
    have e : a = b := by
      rcases List.mem_cons.mp ((h a).mp List.mem_cons_self) with e | m
      · exact e
      · rcases List.mem_cons.mp ((h b).mpr List.mem_cons_self) with e | m'
        · exact e.symm
        · exact absurd (p1 b m') (asy _ _ (p2 a m))
    subst e
    congr 1
    refine eq_of_strict irr asy q1 q2 fun x => ⟨fun hx => ?_, fun hx => ?_⟩
    · rcases List.mem_cons.mp ((h x).mp (List.mem_cons_of_mem _ hx)) with e | m
      · exact absurd (e ▸ p1 x hx) (irr _)
      · exact m
    · rcases List.mem_cons.mp ((h x).mpr (List.mem_cons_of_mem _ hx)) with e | m
      · exact absurd (e ▸ p2 x hx) (irr _)
      · exact m
def Lt (a b : Str) : Prop := tl a < tl b
theorem lt_irr (a : Str) : ¬ Lt a a := List.lt_irrefl _
theorem lt_asy (a b : Str) (h : Lt a b) : ¬ Lt b a := fun h' => List.lt_irrefl _ (List.lt_trans h h')
theorem rising_all : ∀ (l : List Str) (p : Str), risingS p l = true → ∀ x ∈ l, ¬ Lt x p
  | [], _, _, x, h => by cases h
  | y :: r, p, h, x, hx => by
    have h' : (!ltCps y.cps.toList p.cps.toList && risingS y r) = true := h
    rw [Bool.and_eq_true] at h'
    have h1 : ¬ Lt y p := fun z => by
      have e : ltCps y.cps.toList p.cps.toList = true := by
        rw [ltCps_eq]
        exact decide_eq_true z
      rw [e] at h'
      exact absurd h'.1 (by decide)
    rcases List.mem_cons.mp hx with e | m
    · rw [e]
      exact h1
    · have h2 := rising_all r y h'.2 x m
      intro z
      exact h1 (List.lt_of_le_of_lt (List.not_lt.mp h2) z)
theorem sorted_strict : ∀ {l : List Str}, sortedS l = true → l.Nodup → l.Pairwise Lt
  | [], _, _ => List.Pairwise.nil
  | x :: r, h, hn => by
    have h' : risingS x r = true := h
    have hr : sortedS r = true := by
      cases r with
      | nil => rfl
      | cons y r =>
        have h2 : (!ltCps y.cps.toList x.cps.toList && risingS y r) = true := h'
        rw [Bool.and_eq_true] at h2
        exact h2.2
    obtain ⟨n1, n2⟩ := List.nodup_cons.mp hn
    refine List.pairwise_cons.mpr ⟨fun y hy => ?_, sorted_strict hr n2⟩
    have h3 := rising_all r x h' y hy
    by_cases z : Lt x y
    · exact z
    · have e : tl x = tl y := List.le_antisymm (List.not_lt.mp h3) (List.not_lt.mp z)
      exact absurd (ext_tl e ▸ hy) n1
/-! ### data in one another: tuples, texts, numbers, truths, none -/
mutual
inductive D where
  | non
  | bl (b : Bool)
  | int (i : Int)
  | str (s : Str)
  | tup (l : DL)
inductive DL where
  | nil
  | cons (d : D) (l : DL)
end
def DL.of : List D → DL
  | [] => .nil
  | d :: l => .cons d (DL.of l)
abbrev tp (l : List D) : D := .tup (DL.of l)
mutual
def Dv (H : Hp) (v : V) : D → Prop
  | .non => v = .non
  | .bl b => v = .bl b
  | .int i => v = .int i
  | .str s => v = .str s
  | .tup l => ∃ (p : Addr) (xs : List V), v = .ref p ∧ H p = some (.tup xs) ∧ Dvs H xs l
def Dvs (H : Hp) (xs : List V) : DL → Prop
  | .nil => xs = []
  | .cons d l => ∃ (x : V) (r : List V), xs = x :: r ∧ Dv H x d ∧ Dvs H r l
end
/-- all tuples stand -/
def TK (H H' : Hp) : Prop := ∀ p xs, H p = some (.tup xs) → H' p = some (.tup xs)
theorem TK.refl (H : Hp) : TK H H := fun _ _ h => h
theorem TK.trans {H H1 H2 : Hp} (a : TK H H1) (b : TK H1 H2) : TK H H2 := fun p xs h => b p xs (a p xs h)
theorem TK.of {H H' : Hp} (s : Same H H') : TK H H' := fun p xs h => s p _ h
theorem TK.upd {H : Hp} {o : Addr} {u x : HO} (h : H o = some u) (n : ∀ xs, u ≠ .tup xs) : TK H (upd H o x) := fun p xs e => by
  rw [upd_ne (fun z => by subst z; rw [h] at e; exact n xs (Option.some.inj e))]
  exact e
mutual
theorem Dv.mono {H H' : Hp} (t : TK H H') {v : V} : ∀ {d : D}, Dv H v d → Dv H' v d
  | .non, h => h
  | .bl _, h => h
  | .int _, h => h
  | .str _, h => h
  | .tup _, ⟨p, xs, e, h1, h2⟩ => ⟨p, xs, e, t p xs h1, Dvs.mono t h2⟩
theorem Dvs.mono {H H' : Hp} (t : TK H H') {xs : List V} : ∀ {l : DL}, Dvs H xs l → Dvs H' xs l
  | .nil, h => h
  | .cons _ _, ⟨x, r, e, h1, h2⟩ => ⟨x, r, e, Dv.mono t h1, Dvs.mono t h2⟩
end
theorem Dvs.len {H : Hp} : ∀ {l : List D} {xs : List V}, Dvs H xs (DL.of l) → xs.length = l.length
  | [], _, h => by rw [show _ = ([] : List V) from h]; rfl
  | _ :: _, _, ⟨x, r, e, _, h⟩ => by rw [e, List.length_cons, List.length_cons, Dvs.len h]
theorem Dvs.get {H : Hp} : ∀ {l : List D} {xs : List V} {j : Nat} {x : V}, Dvs H xs (DL.of l) → xs[j]? = some x → ∃ d, l[j]? = some d ∧ Dv H x d
  | [], xs, j, x, h, e => by rw [show xs = [] from h] at e; simp at e
  | d :: _, _, 0, x, ⟨y, r, e, hy, _⟩, e2 => by
    subst e
    exact ⟨d, rfl, Option.some.inj e2 ▸ hy⟩
  | _ :: l, _, j + 1, x, ⟨y, r, e, _, h⟩, e2 => by
    subst e
    exact Dvs.get (l := l) (j := j) h e2
theorem Dvs.app {H : Hp} {x : V} {d : D} (hx : Dv H x d) : ∀ {l : List D} {xs : List V}, Dvs H xs (DL.of l) → Dvs H (xs ++ [x]) (DL.of (l ++ [d]))
  | [], xs, h => by
    rw [show xs = [] from h]
    exact ⟨x, [], rfl, hx, rfl⟩
  | _ :: _, _, ⟨y, r, e, hy, h⟩ => ⟨y, r ++ [x], by rw [e]; rfl, hy, Dvs.app hx h⟩
theorem Dvs.strs {H : Hp} : ∀ {ns : List Str} {xs : List V}, Dvs H xs (DL.of (ns.map D.str)) → xs = ns.map V.str
  | [], _, h => h
  | _ :: _, _, ⟨x, r, e, hx, h⟩ => by rw [e, show x = _ from hx, Dvs.strs h]; rfl
theorem Dvs.of_strs (H : Hp) : ∀ (ns : List Str), Dvs H (ns.map V.str) (DL.of (ns.map D.str))
  | [] => rfl
  | v :: r => ⟨.str v, _, rfl, rfl, Dvs.of_strs H r⟩
theorem Dv.strs {H : Hp} {v : V} {ns : List Str} (h : Dv H v (.tup (DL.of (ns.map D.str)))) : ∃ p, v = .ref p ∧ H p = some (.tup (ns.map V.str)) := by
  obtain ⟨p, xs, e, h1, h2⟩ := h
  exact ⟨p, e, by rw [← h2.strs]; exact h1⟩
theorem Dv.tup1 {H : Hp} {v : V} {l : List D} (h : Dv H v (tp l)) : ∃ p xs, v = .ref p ∧ H p = some (.tup xs) ∧ Dvs H xs (DL.of l) := h
/-! ### expressions -/
abbrev Ex := Int × List (Str × Int)
def dTm (t : Str × Int) : D := tp [.str t.1, .int t.2]
def dE (e : Ex) : D := tp [.int e.1, .tup (DL.of (e.2.map dTm))]
theorem Dvs.terms {H : Hp} : ∀ {l : List (Str × Int)} {xs : List V}, Dvs H xs (DL.of (l.map dTm)) → ∃ as : List Addr, xs = as.map V.ref ∧ RepP H as l
  | [], _, h => ⟨[], h, trivial⟩
  | t :: l, _, ⟨x, r, e, ⟨p, ys, e1, h1, ⟨_, _, e2, hx, ⟨_, _, e3, hy, e4⟩⟩⟩, h⟩ => by
    obtain ⟨as, ea, hR⟩ := Dvs.terms h
    refine ⟨p :: as, by rw [e, e1, ea]; rfl, ?_, hR⟩
    rw [h1, e2, e3, show _ = _ from hx, show _ = _ from hy, show _ = _ from e4]
theorem Dvs.of_terms {H : Hp} : ∀ {l : List (Str × Int)} {as : List Addr}, RepP H as l → Dvs H (as.map V.ref) (DL.of (l.map dTm))
  | [], [], _ => rfl
  | _ :: _, a :: _, h => ⟨.ref a, _, rfl, ⟨a, _, rfl, h.1, _, _, rfl, rfl, _, _, rfl, rfl, rfl⟩, Dvs.of_terms h.2⟩
  | [], _ :: _, h => h.elim
  | _ :: _, [], h => h.elim
theorem Dv.ex {H : Hp} {v : V} {e : Ex} (h : Dv H v (dE e)) : ∃ (p pt : Addr) (as : List Addr), v = .ref p ∧ H p = some (.tup [.int e.1, .ref pt]) ∧ H pt = some (.tup (as.map V.ref)) ∧ RepP H as e.2 := by
  obtain ⟨p, _, rfl, hp, x1, _, rfl, hx1, x2, _, rfl, hx2, e3⟩ := h
  obtain ⟨pt, xs, rfl, hpt, hxs⟩ := hx2
  obtain ⟨as, rfl, hR⟩ := hxs.terms
  refine ⟨p, pt, as, rfl, ?_, hpt, hR⟩
  rw [hp, show x1 = _ from hx1, show _ = _ from e3]
theorem Dv.of_ex {H : Hp} {p pt : Addr} {as : List Addr} {e : Ex} (h1 : H p = some (.tup [.int e.1, .ref pt])) (h2 : H pt = some (.tup (as.map V.ref))) (h3 : RepP H as e.2) : Dv H (.ref p) (dE e) :=
  ⟨p, _, rfl, h1, _, _, rfl, rfl, _, _, rfl, ⟨pt, _, rfl, h2, Dvs.of_terms h3⟩, rfl⟩
/-! ### trees -/
inductive Ar where
  | pla (v : Str)
  | val (e : Ex)
inductive P0 where
  | set (v : Str) (e : Ex)
  | inp (v : Str)
  | call (t : Option Str) (f : Str) (as : List Ar)
  | risk (ks : List Str)
  | rse (k : Str)
  | ret (e : Ex)
mutual
inductive TS where
  | pl (p : P0)
  | iff (x y : TB)
  | whl (x : TB)
  | undo (vs : List Str) (x : TB)
  | tr (x : TB) (hs : TH) (y : TB)
  | wth (f : Str) (as : List Ar) (g : Str) (bs : List Ar) (ks : List Str) (x : TB)
inductive TB where
  | nil
  | cons (s : TS) (r : TB)
inductive TH where
  | nil
  | cons (ks : List Str) (x : TB) (r : TH)
end
def TB.L : TB → List TS
  | .nil => []
  | .cons s r => s :: r.L
def TH.L : TH → List (List Str × TB)
  | .nil => []
  | .cons ks x r => (ks, x) :: r.L
def TB.of : List TS → TB
  | [] => .nil
  | s :: r => .cons s (TB.of r)
def TH.of : List (List Str × TB) → TH
  | [] => .nil
  | s :: r => .cons s.1 s.2 (TH.of r)
theorem TB.L_of : ∀ l : List TS, (TB.of l).L = l
  | [] => rfl
  | s :: r => by show s :: (TB.of r).L = _; rw [TB.L_of r]
theorem TH.L_of : ∀ l : List (List Str × TB), (TH.of l).L = l
  | [] => rfl
  | s :: r => by show (s.1, s.2) :: (TH.of r).L = _; rw [TH.L_of r]
abbrev dNs (ns : List Str) : D := .tup (DL.of (ns.map D.str))
def dA : Ar → D
  | .pla v => tp [.str "place", .str v]
  | .val e => tp [.str "value", dE e]
def dCall (f : Str) (as : List Ar) : D := tp [.str f, .tup (DL.of (as.map dA))]
def dP : P0 → D
  | .set v e => tp [.str "set", .str v, dE e]
  | .inp v => tp [.str "input", .str v]
  | .call none f as => tp [.str "call", .non, .str f, .tup (DL.of (as.map dA))]
  | .call (some t) f as => tp [.str "call", .str t, .str f, .tup (DL.of (as.map dA))]
  | .risk ks => tp [.str "risk", dNs ks]
  | .rse k => tp [.str "raise", .str k]
  | .ret e => tp [.str "return", dE e]
mutual
def dS : TS → D
  | .pl p => dP p
  | .iff x y => tp [.str "if", .tup (dB x), .tup (dB y)]
  | .whl x => tp [.str "while", .tup (dB x)]
  | .undo vs x => tp [.str "undo", dNs vs, .tup (dB x)]
  | .tr x hs y => tp [.str "try", .tup (dB x), .tup (dH hs), .tup (dB y)]
  | .wth f as g bs ks x => tp [.str "with", dCall f as, dCall g bs, dNs ks, .tup (dB x)]
def dB : TB → DL
  | .nil => .nil
  | .cons s r => .cons (dS s) (dB r)
def dH : TH → DL
  | .nil => .nil
  | .cons ks x r => .cons (tp [dNs ks, .tup (dB x)]) (dH r)
end
def dHd (h : List Str × TB) : D := tp [dNs h.1, .tup (dB h.2)]
theorem dB_of : ∀ x : TB, dB x = DL.of (x.L.map dS)
  | .nil => rfl
  | .cons s r => by show DL.cons (dS s) (dB r) = _; rw [dB_of r]; rfl
theorem dH_of : ∀ x : TH, dH x = DL.of (x.L.map dHd)
  | .nil => rfl
  | .cons ks x r => by show DL.cons _ (dH r) = _; rw [dH_of r]; rfl
mutual
def TS.ht : TS → Nat
  | .pl _ => 0
  | .iff x y => max x.ht y.ht + 1
  | .whl x => x.ht + 1
  | .undo _ x => x.ht + 1
  | .tr x hs y => max x.ht (max hs.ht y.ht) + 1
  | .wth _ _ _ _ _ x => x.ht + 1
def TB.ht : TB → Nat
  | .nil => 0
  | .cons s r => max s.ht r.ht
def TH.ht : TH → Nat
  | .nil => 0
  | .cons _ x r => max x.ht r.ht
end
/-! how many statements -/
mutual
def TS.sz : TS → Nat
  | .pl _ => 1
  | .iff x y => x.sz + y.sz + 1
  | .whl x => x.sz + 1
  | .undo _ x => x.sz + 1
  | .tr x hs y => x.sz + hs.sz + y.sz + 1
  | .wth _ _ _ _ _ x => x.sz + 1
def TB.sz : TB → Nat
  | .nil => 0
  | .cons s r => s.sz + r.sz
def TH.sz : TH → Nat
  | .nil => 0
  | .cons _ x r => x.sz + r.sz
end
def dPa (p : Str × Bool) : D := tp [.str p.1, .bl p.2]
structure FnT where
  nm : Str
  ps : List (Str × Bool)
  bk : TB
structure Tree where
  gs : List Str
  ks : List Str
  kp : List Ex
  fs : List FnT
def dFn (f : FnT) : D := tp [.str f.nm, .tup (DL.of (f.ps.map dPa)), .tup (dB f.bk)]
def dT (t : Tree) : D := tp [dNs t.gs, dNs t.ks, .tup (DL.of (t.kp.map dE)), .tup (DL.of (t.fs.map dFn))]
/-! ### the parts of a statement -/
inductive Part where
  | var (v : Str)
  | sum (e : Ex)
  | tgt (o : Option Str)
  | fn (f : Str)
  | args (as : List Ar)
  | blk (x : TB)
  | knds (ks : List Str)
  | knd (k : Str)
  | hds (h : TH)
  | vars (vs : List Str)
  | made (f : Str) (as : List Ar)
  | swal (ks : List Str)
def Part.sort : Part → Str
  | .var _ => "variable"
  | .sum _ => "sum"
  | .tgt _ => "target"
  | .fn _ => "function"
  | .args _ => "args"
  | .blk _ => "block"
  | .knds _ => "kinds"
  | .knd _ => "kind"
  | .hds _ => "handlers"
  | .vars _ => "variables"
  | .made _ _ => "made"
  | .swal _ => "swallowed"
def Part.d : Part → D
  | .var v => .str v
  | .sum e => dE e
  | .tgt none => .non
  | .tgt (some v) => .str v
  | .fn f => .str f
  | .args as => .tup (DL.of (as.map dA))
  | .blk x => .tup (dB x)
  | .knds ks => dNs ks
  | .knd k => .str k
  | .hds h => .tup (dH h)
  | .vars vs => dNs vs
  | .made f as => dCall f as
  | .swal ks => dNs ks
def TS.word : TS → Str
  | .pl (.set _ _) => "set"
  | .pl (.inp _) => "input"
  | .pl (.call _ _ _) => "call"
  | .pl (.risk _) => "risk"
  | .pl (.rse _) => "raise"
  | .pl (.ret _) => "return"
  | .iff _ _ => "if"
  | .whl _ => "while"
  | .undo _ _ => "undo"
  | .tr _ _ _ => "try"
  | .wth _ _ _ _ _ _ => "with"
def TS.parts : TS → List Part
  | .pl (.set v e) => [.var v, .sum e]
  | .pl (.inp v) => [.var v]
  | .pl (.call t f as) => [.tgt t, .fn f, .args as]
  | .pl (.risk ks) => [.knds ks]
  | .pl (.rse k) => [.knd k]
  | .pl (.ret e) => [.sum e]
  | .iff x y => [.blk x, .blk y]
  | .whl x => [.blk x]
  | .undo vs x => [.vars vs, .blk x]
  | .tr x h y => [.blk x, .hds h, .blk y]
  | .wth f as g bs ks x => [.made f as, .made g bs, .swal ks, .blk x]
theorem dS_is : ∀ s : TS, dS s = tp (.str s.word :: s.parts.map Part.d)
  | .pl (.set _ _) => rfl
  | .pl (.inp _) => rfl
  | .pl (.call none _ _) => rfl
  | .pl (.call (some _) _ _) => rfl
  | .pl (.risk _) => rfl
  | .pl (.rse _) => rfl
  | .pl (.ret _) => rfl
  | .iff _ _ => rfl
  | .whl _ => rfl
  | .undo _ _ => rfl
  | .tr _ _ _ => rfl
  | .wth _ _ _ _ _ _ => rfl
def Part.dp (p : Part) : D := tp [.str p.sort, p.d]
theorem parts_len : ∀ s : TS, s.parts.length ≤ 4
  | .pl (.set _ _) => Nat.le_of_ble_eq_true rfl
  | .pl (.inp _) => Nat.le_of_ble_eq_true rfl
  | .pl (.call _ _ _) => Nat.le_of_ble_eq_true rfl
  | .pl (.risk _) => Nat.le_of_ble_eq_true rfl
  | .pl (.rse _) => Nat.le_of_ble_eq_true rfl
  | .pl (.ret _) => Nat.le_of_ble_eq_true rfl
  | .iff _ _ => Nat.le_of_ble_eq_true rfl
  | .whl _ => Nat.le_of_ble_eq_true rfl
  | .undo _ _ => Nat.le_of_ble_eq_true rfl
  | .tr _ _ _ => Nat.le_of_ble_eq_true rfl
  | .wth _ _ _ _ _ _ => Nat.le_of_ble_eq_true rfl
/-! ### what the parts hold -/
def Part.blks : Part → List TB
  | .blk x => [x]
  | .hds h => h.L.map (·.2)
  | _ => []
def TS.blks (s : TS) : List TB := s.parts.flatMap Part.blks
mutual
def listS : TS → List TS
  | .pl p => [.pl p]
  | .iff x y => .iff x y :: (listB x ++ listB y)
  | .whl x => .whl x :: listB x
  | .undo vs x => .undo vs x :: listB x
  | .tr x h y => .tr x h y :: (listB x ++ (listH h ++ listB y))
  | .wth f as g bs ks x => .wth f as g bs ks x :: listB x
def listB : TB → List TS
  | .nil => []
  | .cons s r => listS s ++ listB r
def listH : TH → List TS
  | .nil => []
  | .cons _ x r => listB x ++ listH r
end
theorem listH_is : ∀ h : TH, listH h = (h.L.map (·.2)).flatMap listB
  | .nil => rfl
  | .cons _ x r => by
    show listB x ++ listH r = listB x ++ (r.L.map (·.2)).flatMap listB
    rw [listH_is r]
theorem listS_is : ∀ s : TS, listS s = s :: s.blks.flatMap listB
  | .pl (.set _ _) => rfl
  | .pl (.inp _) => rfl
  | .pl (.call _ _ _) => rfl
  | .pl (.risk _) => rfl
  | .pl (.rse _) => rfl
  | .pl (.ret _) => rfl
  | .iff x y => by
    show _ = TS.iff x y :: (listB x ++ (listB y ++ []))
    rw [List.append_nil]
    rfl
  | .whl x => by
    show _ = TS.whl x :: (listB x ++ [])
    rw [List.append_nil]
    rfl
  | .undo vs x => by
    show _ = TS.undo vs x :: (listB x ++ [])
    rw [List.append_nil]
    rfl
  | .tr x h y => by
    have e : (TS.tr x h y).blks = [x] ++ (h.L.map (·.2) ++ ([y] ++ [])) := rfl
    rw [e, List.flatMap_append, List.flatMap_append, ← listH_is]
    show TS.tr x h y :: (listB x ++ (listH h ++ listB y)) = TS.tr x h y :: ((listB x ++ []) ++ (listH h ++ (listB y ++ [])))
    rw [List.append_nil, List.append_nil]
  | .wth f as g bs ks x => by
    show _ = TS.wth f as g bs ks x :: (listB x ++ [])
    rw [List.append_nil]
    rfl
theorem listB_is : ∀ x : TB, listB x = x.L.flatMap listS
  | .nil => rfl
  | .cons s r => by
    show listS s ++ listB r = listS s ++ r.L.flatMap listS
    rw [listB_is r]
mutual
theorem list_szS : ∀ s : TS, (listS s).length = s.sz
  | .pl _ => rfl
  | .iff x y => by show ((listB x ++ listB y).length + 1 : Nat) = x.sz + y.sz + 1; rw [List.length_append, list_szB x, list_szB y]
  | .whl x => by show ((listB x).length + 1 : Nat) = x.sz + 1; rw [list_szB x]
  | .undo _ x => by show ((listB x).length + 1 : Nat) = x.sz + 1; rw [list_szB x]
  | .tr x h y => by show ((listB x ++ (listH h ++ listB y)).length + 1 : Nat) = x.sz + h.sz + y.sz + 1; rw [List.length_append, List.length_append, list_szB x, list_szH h, list_szB y]; omega
  | .wth _ _ _ _ _ x => by show ((listB x).length + 1 : Nat) = x.sz + 1; rw [list_szB x]
theorem list_szB : ∀ x : TB, (listB x).length = x.sz
  | .nil => rfl
  | .cons s r => by show (listS s ++ listB r).length = s.sz + r.sz; rw [List.length_append, list_szS s, list_szB r]
theorem list_szH : ∀ h : TH, (listH h).length = h.sz
  | .nil => rfl
  | .cons _ x r => by show (listB x ++ listH r).length = x.sz + r.sz; rw [List.length_append, list_szB x, list_szH r]
end
def Part.calls : Part → List (Str × List Ar)
  | .made f as => [(f, as)]
  | _ => []
def TS.calls : TS → List (Str × List Ar)
  | .pl (.call _ f as) => [(f, as)]
  | s => s.parts.flatMap Part.calls
def arSums : List Ar → List Ex := fun as => as.filterMap fun a => match a with
  | .val e => some e
  | .pla _ => none
def Part.sums : Part → List Ex
  | .sum e => [e]
  | _ => []
def TS.sums (s : TS) : List Ex := s.parts.flatMap Part.sums ++ s.calls.flatMap fun c => arSums c.2
def TS.asg : TS → Option Str
  | .pl (.set v _) => some v
  | .pl (.inp v) => some v
  | .pl (.call t _ _) => t
  | _ => none
def locStep (st : List Str × List Str) (s : TS) : List Str × List Str := match s.asg with
  | some v => if v ∈ st.1 then st else (st.1 ++ [v], st.2 ++ [v])
  | none => st
def localsT (shared : List Str) (f : FnT) : List Str := ((listB f.bk).foldl locStep (shared ++ f.ps.map (·.1), [])).2
def vr (v : Str) : Str × Str := ("variable", v)
def kn (v : Str) : Str × Str := ("kind", v)
def exUses (e : Ex) : List (Str × Str) := e.2.map fun t => vr t.1
def arUses : Ar → List (Str × Str)
  | .pla v => [vr v]
  | .val e => exUses e
def Part.uses : Part → List (Str × Str)
  | .var v => [vr v]
  | .sum e => exUses e
  | .tgt none => []
  | .tgt (some v) => [vr v]
  | .fn f => [("function", f)]
  | .args as => as.flatMap arUses
  | .blk _ => []
  | .knds ks => ks.map kn
  | .knd k => [kn k]
  | .hds h => h.L.flatMap fun p => p.1.map kn
  | .vars vs => vs.map vr
  | .made f as => ("function", f) :: as.flatMap arUses
  | .swal ks => ks.map kn
def TS.uses (s : TS) : List (Str × Str) := s.parts.flatMap Part.uses
/-! ### which trees have the form -/
def NmOk (v : Str) : Prop := isN v = true ∧ v.length ≤ 1000
def Mid12 (i : Int) : Prop := -999999999999 ≤ i ∧ i ≤ 999999999999
structure SumF (e : Ex) : Prop where
  srt : e.2.Pairwise fun s t => Lt s.1 t.1
  nm : ∀ t ∈ e.2, NmOk t.1 ∧ t.2 ≠ 0 ∧ Mid12 t.2
  len : e.2.length ≤ 50
  c : Mid12 e.1
structure NsF (ns : List Str) : Prop where
  nm : ∀ v ∈ ns, NmOk v
  len : ns.length ≤ 1000
def ArF : Ar → Prop
  | .pla v => NmOk v
  | .val e => SumF e
structure ArsF (as : List Ar) : Prop where
  ok : ∀ x ∈ as, ArF x
  len : as.length ≤ 50
def P0F : P0 → Prop
  | .set v e => NmOk v ∧ SumF e
  | .inp v => NmOk v
  | .call t f as => (∀ v, t = some v → NmOk v) ∧ NmOk f ∧ ArsF as
  | .risk ks => ks ≠ [] ∧ NsF ks
  | .rse k => NmOk k
  | .ret e => SumF e
mutual
def TS.F : TS → Prop
  | .pl p => P0F p
  | .iff x y => x.F ∧ y.F
  | .whl x => x.F
  | .undo vs x => vs ≠ [] ∧ NsF vs ∧ x.F
  | .tr x hs y => x.F ∧ hs.L.length ≤ 1000 ∧ hs.F ∧ y.F
  | .wth f as g bs ks x => NmOk f ∧ ArsF as ∧ NmOk g ∧ ArsF bs ∧ NsF ks ∧ x.F
def TB.F : TB → Prop
  | .nil => True
  | .cons s r => s.F ∧ r.F
def TH.F : TH → Prop
  | .nil => True
  | .cons ks x r => ks ≠ [] ∧ NsF ks ∧ x.F ∧ r.F
end
theorem TB.f_mem : ∀ {x : TB} {s : TS}, x.F → s ∈ x.L → s.F
  | .nil, _, _, h => by cases h
  | .cons _ _, s, ⟨h1, h2⟩, h => by
    rcases List.mem_cons.mp h with rfl | h
    · exact h1
    · exact TB.f_mem h2 h
theorem TH.f_mem : ∀ {x : TH} {s : List Str × TB}, x.F → s ∈ x.L → s.1 ≠ [] ∧ NsF s.1 ∧ s.2.F
  | .nil, _, _, h => by cases h
  | .cons _ _ _, s, ⟨h1, h2, h3, h4⟩, h => by
    rcases List.mem_cons.mp h with rfl | h
    · exact ⟨h1, h2, h3⟩
    · exact TH.f_mem h4 h
/-- the form of a part -/
def Part.F : Part → Prop
  | .var v => NmOk v
  | .sum e => SumF e
  | .tgt o => ∀ v, o = some v → NmOk v
  | .fn f => NmOk f
  | .args as => ArsF as
  | .blk x => x.F
  | .knds ks => ks ≠ [] ∧ NsF ks
  | .knd k => NmOk k
  | .hds h => h.L.length ≤ 1000 ∧ h.F
  | .vars vs => vs ≠ [] ∧ NsF vs
  | .made f as => NmOk f ∧ ArsF as
  | .swal ks => NsF ks
theorem TS.f_parts : ∀ {s : TS}, s.F → ∀ p ∈ s.parts, p.F := by
  intro s h p hp
  cases s with
  | pl q =>
    cases q with
    | set v e =>
      simp only [TS.parts, List.mem_cons, List.not_mem_nil, or_false] at hp
      rcases hp with rfl | rfl
      · exact h.1
      · exact h.2
    | inp v =>
      rw [List.mem_singleton.mp hp]
      exact h
    | call t f as =>
      simp only [TS.parts, List.mem_cons, List.not_mem_nil, or_false] at hp
      rcases hp with rfl | rfl | rfl
      · exact h.1
      · exact h.2.1
      · exact h.2.2
    | risk ks =>
      rw [List.mem_singleton.mp hp]
      exact h
    | rse k =>
      rw [List.mem_singleton.mp hp]
      exact h
    | ret e =>
      rw [List.mem_singleton.mp hp]
      exact h
  | iff x y =>
    simp only [TS.parts, List.mem_cons, List.not_mem_nil, or_false] at hp
    rcases hp with rfl | rfl
    · exact h.1
    · exact h.2
  | whl x =>
    rw [List.mem_singleton.mp hp]
    exact h
  | undo vs x =>
    simp only [TS.parts, List.mem_cons, List.not_mem_nil, or_false] at hp
    rcases hp with rfl | rfl
    · exact ⟨h.1, h.2.1⟩
    · exact h.2.2
  | tr x hs y =>
    simp only [TS.parts, List.mem_cons, List.not_mem_nil, or_false] at hp
    rcases hp with rfl | rfl | rfl
    · exact h.1
    · exact ⟨h.2.1, h.2.2.1⟩
    · exact h.2.2.2
  | wth f as g bs ks x =>
    obtain ⟨h1, h2, h3, h4, h5, h6⟩ := h
    simp only [TS.parts, List.mem_cons, List.not_mem_nil, or_false] at hp
    rcases hp with rfl | rfl | rfl | rfl
    · exact ⟨h1, h2⟩
    · exact ⟨h3, h4⟩
    · exact h5
    · exact h6
theorem Part.f_blks {p : Part} (h : p.F) : (∀ x ∈ p.blks, x.F) ∧ p.blks.length ≤ 1000 := by
  cases p with
  | blk x => exact ⟨fun y hy => by rw [List.mem_singleton.mp hy]; exact h, by show 1 ≤ 1000; decide⟩
  | hds hs =>
    refine ⟨fun y hy => ?_, by show (hs.L.map (·.2)).length ≤ 1000; rw [List.length_map]; exact h.1⟩
    obtain ⟨q, hq, rfl⟩ := List.mem_map.mp hy
    exact (TH.f_mem h.2 hq).2.2
  | _ => exact ⟨(fun y hy => by cases hy), Nat.zero_le _⟩
/-- all that the parts hold, up to one of them -/
theorem flat_le {α β : Type} {g : α → List β} {m : Nat} : ∀ {l : List α}, (∀ x ∈ l, (g x).length ≤ m) → (l.flatMap g).length ≤ l.length * m
  | [], _ => Nat.zero_le _
  | x :: r, h => by
    have h1 := h x List.mem_cons_self
    have h2 := flat_le (l := r) fun y hy => h y (List.mem_cons_of_mem _ hy)
    rw [List.flatMap_cons, List.length_append, List.length_cons, Nat.add_mul, Nat.one_mul]
    omega
theorem flat_take {α β : Type} {g : α → List β} {l : List α} {i : Nat} {x : α} (h : l[i]? = some x) : (l.take (i + 1)).flatMap g = (l.take i).flatMap g ++ g x := by
  rw [List.take_add_one, h, List.flatMap_append]
  show _ ++ (g x ++ []) = _
  rw [List.append_nil]
theorem TS.f_blks {s : TS} (h : s.F) : (∀ x ∈ s.blks, x.F) ∧ s.blks.length ≤ 4000 := by
  refine ⟨fun x hx => ?_, ?_⟩
  · obtain ⟨p, hp, hx⟩ := List.mem_flatMap.mp hx
    exact (Part.f_blks (TS.f_parts h p hp)).1 x hx
  · exact Nat.le_trans (flat_le (m := 1000) fun p hp => (Part.f_blks (TS.f_parts h p hp)).2) (Nat.mul_le_mul_right 1000 (parts_len s))
theorem Dvs.append {H : Hp} : ∀ {l m : List D} {xs ys : List V}, Dvs H xs (DL.of l) → Dvs H ys (DL.of m) → Dvs H (xs ++ ys) (DL.of (l ++ m))
  | [], _, xs, _, h1, h2 => by
    rw [show xs = [] from h1]
    exact h2
  | _ :: _, _, _, _, ⟨x, r, e, hx, h1⟩, h2 => ⟨x, r ++ _, by rw [e]; rfl, hx, Dvs.append h1 h2⟩
end K10
namespace K10
open PySem PySem.Spec PyProof.Rows L2 TL
/-- a module's dict holds a tuple of texts at a key -/
def KTup (K : PySem.W.Frag) (p : Addr) (x : Str) (vs : List Str) : Prop := ∃ t, PySem.W.nsIn K p x = some (some (.ref t)) ∧ ∀ H, SqT K H t (vs.map V.str)
/-- the tables of shapes, uses and forms -/
structure Tabs (K : PySem.W.Frag) (w : World) (mg : Str → Option Value) (a : Ads) (tS tU tF : Addr) : Prop where
  gS : mg "SHAPES" = some (.ref tS)
  gU : mg "USES" = some (.ref tU)
  gF : mg "FORMS" = some (.ref tF)
  dS : ∃ es n, KDict K w tS es n
  dU : ∃ es n, KDict K w tU es n
  dF : ∃ es n, KDict K w tF es n
  s1 : KTup K tS "set" ["variable", "sum"]
  s2 : KTup K tS "input" ["variable"]
  s3 : KTup K tS "call" ["target", "function", "args"]
  s4 : KTup K tS "if" ["block", "block"]
  s5 : KTup K tS "while" ["block"]
  s6 : KTup K tS "risk" ["kinds"]
  s7 : KTup K tS "raise" ["kind"]
  s8 : KTup K tS "try" ["block", "handlers", "block"]
  s9 : KTup K tS "undo" ["variables", "block"]
  s10 : KTup K tS "with" ["made", "made", "swallowed", "block"]
  s11 : KTup K tS "return" ["sum"]
  u1 : PySem.W.nsIn K tU "target" = some (some (.ref a.f_uses_of_target))
  u2 : PySem.W.nsIn K tU "sum" = some (some (.ref a.f_uses_of_sum))
  u3 : PySem.W.nsIn K tU "variables" = some (some (.ref a.f_uses_of_variables))
  u4 : PySem.W.nsIn K tU "kinds" = some (some (.ref a.f_uses_of_kinds))
  u5 : PySem.W.nsIn K tU "swallowed" = some (some (.ref a.f_uses_of_kinds))
  u6 : PySem.W.nsIn K tU "handlers" = some (some (.ref a.f_uses_of_handlers))
  u7 : PySem.W.nsIn K tU "args" = some (some (.ref a.f_uses_of_args))
  u8 : PySem.W.nsIn K tU "made" = some (some (.ref a.f_uses_of_made))
  u9 : PySem.W.nsIn K tU "block" = some none
  f1 : PySem.W.nsIn K tF "variable" = some (some (.ref a.f_is_name))
  f2 : PySem.W.nsIn K tF "kind" = some (some (.ref a.f_is_name))
  f3 : PySem.W.nsIn K tF "function" = some (some (.ref a.f_is_name))
  f4 : PySem.W.nsIn K tF "target" = some (some (.ref a.f_is_target))
  f5 : PySem.W.nsIn K tF "sum" = some (some (.ref a.f_is_sum))
  f6 : PySem.W.nsIn K tF "variables" = some (some (.ref a.f_are_some_names))
  f7 : PySem.W.nsIn K tF "kinds" = some (some (.ref a.f_are_some_names))
  f8 : PySem.W.nsIn K tF "swallowed" = some (some (.ref a.f_are_names))
  f9 : PySem.W.nsIn K tF "args" = some (some (.ref a.f_are_args))
  f10 : PySem.W.nsIn K tF "made" = some (some (.ref a.f_is_made))
theorem Tabs.shape {K : PySem.W.Frag} {w : World} {mg : Str → Option Value} {a : Ads} {tS tU tF : Addr} (B : Tabs K w mg a tS tU tF) : ∀ s : TS, KTup K tS s.word (s.parts.map Part.sort)
  | .pl (.set _ _) => B.s1
  | .pl (.inp _) => B.s2
  | .pl (.call _ _ _) => B.s3
  | .iff _ _ => B.s4
  | .whl _ => B.s5
  | .pl (.risk _) => B.s6
  | .pl (.rse _) => B.s7
  | .tr _ _ _ => B.s8
  | .undo _ _ => B.s9
  | .wth _ _ _ _ _ _ => B.s10
  | .pl (.ret _) => B.s11
theorem KTup.kd {K : PySem.W.Frag} {w : World} {p : Addr} {x : Str} {vs : List Str} (d : ∃ es n, KDict K w p es n) (h : KTup K p x vs) : ∃ t, KDct K w p x (.ref t) ∧ ∀ H, SqT K H t (vs.map V.str) := by
  obtain ⟨es, n, D⟩ := d
  obtain ⟨t, h1, h2⟩ := h
  exact ⟨t, ⟨es, n, _, D.at_, D.lit, h1, rfl⟩, h2⟩
def spParts : Sp := fun vs H Q _ => ∃ (v : V) (s : TS), vs = [v] ∧ Dv H v (dS s) ∧ ∀ (H' : Hp) (L : Addr) (xs : List V), Same H H' → H L = none → H' L = some (.lst xs) → Dvs H' xs (DL.of (s.parts.map Part.dp)) → Q (.ref L) H'
theorem pairs_dv {H : Hp} : ∀ {ps : List Part} {ts : List Addr} {kvs : List (Key × V)}, kvs.map (·.1) = ps.map (fun p => (Sum.inr p.sort : Key)) → Dvs H (kvs.map (·.2)) (DL.of (ps.map Part.d)) → Paired (fun (t : Addr) (q : Key × V) => H t = some (.tup [kV q.1, q.2])) ts kvs → Dvs H (ts.map V.ref) (DL.of (ps.map Part.dp))
  | [], _, [], _, _, .nil => rfl
  | p :: ps, _, q :: kvs, h1, h2, .cons h3 h4 => by
    obtain ⟨x, r, e, hx, hr⟩ := h2
    have e1 : q.2 = x := (List.cons.inj e).1
    have e2 : kvs.map (·.2) = r := (List.cons.inj e).2
    have e3 : q.1 = (Sum.inr p.sort : Key) := (List.cons.inj h1).1
    refine ⟨_, _, rfl, ⟨_, _, rfl, h3, _, _, rfl, ?_, _, _, rfl, ?_, rfl⟩, pairs_dv (List.cons.inj h1).2 (by rw [e2]; exact hr) h4⟩
    · rw [e3]
      rfl
    · rw [e1]
      exact hx
  | [], _, q :: _, h1, _, _ => by cases h1
  | _ :: _, _, [], h1, _, _ => by cases h1
theorem cut_one {x : V} {xs : List V} : cutV (x :: xs) (some 1) none = xs := by
  unfold cutV
  rw [show HT.sIx (x :: xs).length 0 (some 1) = min 1 (x :: xs).length from HT.sIx_nat _ _ 1, HT.sIx_none, List.length_cons, Nat.min_eq_left (by omega)]
  show xs.take (xs.length + 1 - 1) = xs
  exact List.take_of_length_le (by omega)
section
variable {P : Program} {w : World} {K : PySem.W.Frag} {mg : Str → Option Value} {base : Heap} {a : Ads}
theorem sc_parts_of : FnScope ["statement"] ["statement"] (defScope s_parts_of) := ⟨rfl, rfl, rfl, by decide +kernel, rfl, by decide +kernel, by decide +kernel⟩
theorem ok_parts_of (T : Txt K mg a) {tS tU tF : Addr} (B : Tabs K w mg a tS tU tF) : FnOk P w K mg base CX0 1 a.f_parts_of a.f_parts_of_d ["statement"] spParts := by
  refine T.F_parts_of.ok sc_parts_of (fun vs H Q E h => ?_) (fun cdv A outer s H vs Q E hr h => ?_)
  · obtain ⟨v, s, rfl, _⟩ := h
    rfl
  obtain ⟨v, st, rfl, hv, q⟩ := h
  refine ⟨_, (pss_one (ps_ret (LZ.pe_listZip rfl (by rfl) T.list (by decide +kernel) (by rfl) T.zip (pa_cons (pe_ix (show IxR _ (rIxD K w) from ix_kdict) (pe_gr rfl B.gS) (pe_ix ix_tup (pv 0) pe_int (fun _ _ => rfl)) (fun _ _ => rfl)) (pa_cons (pe_slice sl_tup (pv 0) (po_some pe_int) po_none) pa_nil))))), ?_⟩
  rw [dS_is] at hv
  obtain ⟨r, _, rfl, hr0, x0, xs, rfl, hx0, hxs⟩ := hv
  have hx0 : x0 = .str st.word := hx0
  subst hx0
  obtain ⟨t, hk, ht⟩ := (B.shape st).kd B.dS
  have hl := hxs.len
  rw [List.length_map] at hl
  refine ⟨_, rfl, r, _, _, _, rfl, rfl, .inl (.inl hr0), atI_nat (j := 0) rfl, tS, _, _, rfl, rfl, hk, _, rfl, 1, rfl, r, _, rfl, .inl (.inl hr0), ?_, fun c nc => ?_⟩
  · rintro ⟨h1, _⟩
    rw [show HT.sIx (V.str st.word :: xs).length 0 (some 1) = min 1 (V.str st.word :: xs).length from HT.sIx_nat _ _ 1, List.length_cons] at h1
    omega
  rw [cut_one]
  have sc := same_upd (o := .tup xs) nc
  have lz : (st.parts.map fun p => (Sum.inr p.sort : Key)).length = xs.length := by rw [List.length_map, hl]
  have z1 : ((st.parts.map fun p => (Sum.inr p.sort : Key)).zip xs).map (·.1) = st.parts.map fun p => (Sum.inr p.sort : Key) := List.map_fst_zip (Nat.le_of_eq lz)
  have z2 : ((st.parts.map fun p => (Sum.inr p.sort : Key)).zip xs).map (·.2) = xs := List.map_snd_zip (Nat.le_of_eq lz.symm)
  refine ⟨t, c, (st.parts.map fun p => (Sum.inr p.sort : Key)).zip xs, rfl, ?_, ?_, ?_, fun H2 L ts x2 nL nts nin hL hp => ?_⟩
  · have e : ((st.parts.map fun p => (Sum.inr p.sort : Key)).zip xs).map (fun p => kV p.1) = (st.parts.map Part.sort).map V.str := by
      rw [show ((st.parts.map fun p => (Sum.inr p.sort : Key)).zip xs).map (fun p => kV p.1) = (((st.parts.map fun p => (Sum.inr p.sort : Key)).zip xs).map (·.1)).map kV by rw [List.map_map]; rfl, z1, List.map_map, List.map_map]
      rfl
    rw [e]
    exact ht _
  · rw [z2]
    exact .inl (.inl upd_same)
  · rw [List.length_zip, lz, Nat.min_self, hl]
    exact Nat.le_trans (parts_len st) (by decide)
  · have s2 : Same H H2 := sc.trans x2
    exact q H2 L _ s2 (sc.free nL) hL (pairs_dv z1 (by rw [z2]; exact hxs.mono (TK.of s2)) hp)
end
end K10
namespace K10
open PySem PySem.Spec PyProof.Rows L2 TL
theorem no_blk (x : Str) (h : (decide (V.str x = V.str "block") || decide (V.str x = V.str "handlers")) = false) : decide (V.str x = V.str "block") = false ∧ decide (V.str x = V.str "handlers") = false := by
  rw [Bool.or_eq_false_iff] at h
  exact h
theorem no_blk2 : decide (V.str (Str.ofString "handlers") = V.str "block") = false := by decide +kernel
/-- the second of two -/
def sndD : D → D
  | .tup (.cons _ (.cons d _)) => d
  | d => d
theorem filter_yes {α : Type} (l : List α) : l.filter (fun _ => true) = l := List.filter_eq_self.mpr fun _ _ => rfl
theorem part_kinds (p : Part) : (∃ x, p = .blk x) ∨ (∃ h, p = .hds h) ∨ (p.blks = [] ∧ decide (V.str p.sort = V.str "block") = false ∧ decide (V.str p.sort = V.str "handlers") = false) := by
  cases p with
  | blk x => exact .inl ⟨x, rfl⟩
  | hds h => exact .inr (.inl ⟨h, rfl⟩)
  | var _ => exact .inr (.inr ⟨rfl, no_blk "variable" (by decide +kernel)⟩)
  | sum _ => exact .inr (.inr ⟨rfl, no_blk "sum" (by decide +kernel)⟩)
  | tgt _ => exact .inr (.inr ⟨rfl, no_blk "target" (by decide +kernel)⟩)
  | fn _ => exact .inr (.inr ⟨rfl, no_blk "function" (by decide +kernel)⟩)
  | args _ => exact .inr (.inr ⟨rfl, no_blk "args" (by decide +kernel)⟩)
  | knds _ => exact .inr (.inr ⟨rfl, no_blk "kinds" (by decide +kernel)⟩)
  | knd _ => exact .inr (.inr ⟨rfl, no_blk "kind" (by decide +kernel)⟩)
  | vars _ => exact .inr (.inr ⟨rfl, no_blk "variables" (by decide +kernel)⟩)
  | made _ _ => exact .inr (.inr ⟨rfl, no_blk "made" (by decide +kernel)⟩)
  | swal _ => exact .inr (.inr ⟨rfl, no_blk "swallowed" (by decide +kernel)⟩)
abbrev dBk (x : TB) : D := .tup (dB x)
def spBlocks : Sp := fun vs H Q _ => ∃ (v : V) (s : TS), vs = [v] ∧ Dv H v (dS s) ∧ s.F ∧ ∀ (H' : Hp) (L : Addr) (xs : List V), Same H H' → H L = none → H' L = some (.lst xs) → Dvs H' xs (DL.of (s.blks.map dBk)) → Q (.ref L) H'
/-- the elements of what the parts hold -/
theorem Dv.part {H : Hp} {x : V} {p : Part} (h : Dv H x p.dp) : ∃ r u, x = .ref r ∧ H r = some (.tup [.str p.sort, u]) ∧ Dv H u p.d := by
  obtain ⟨r, _, rfl, hr, _, _, rfl, rfl, u, _, rfl, hu, rfl⟩ := h
  exact ⟨r, u, rfl, hr, hu⟩
/-! ### comprehensions over data -/
theorem lc_tupD {K : PySem.W.Frag} {r : Addr} {xs : List V} {ds : List D} {g : TG} {tt : TT} {te : TE} {vs : List Nat} {σ : L2.St} {H1 : Hp} {N : Addr} {Qd : Hp → Prop} (p : D → Bool) (f : D → D) (hN : H1 N = none) (hr : H1 r = some (.tup xs)) (hx : Dvs H1 xs (DL.of ds)) (hn : ds.length ≤ 1000000)
    (hs : ∀ x d H' (Q : VK) (M : Hp → Prop), d ∈ ds → Dv H' x d → Same H1 H' → (p d = true → ∀ y H2, Same H' H2 → Dv H2 y (f d) → Q y H2) → (p d = false → ∀ H2, Same H' H2 → M H2) → g x (wipe σ vs) H' fun σ2 H2 => wipe σ2 vs = wipe σ vs ∧ tt σ2 H2 fun b H3 => if b = true then te σ2 H3 Q else M H3)
    (hd : ∀ H' ys, Same H1 H' → H' N = some (.lst ys) → Dvs H' ys (DL.of ((ds.filter p).map f)) → Qd H') :
    ∃ W : Nat → Nat → Hp → Prop, (∃ m, W 0 m (upd H1 N (.lst []))) ∧ ∀ i m H, W i m H →
      ((Itt K r).stop i H ∧ Qd H) ∨ ((Itt K r).go i H ∧ ∃ Nx : Hp → Prop, (∀ H', Nx H' → ∃ m', m' < m ∧ W (i + 1) m' H') ∧ ∀ x H', (Itt K r).yld i H x H' → g x (wipe σ vs) H' fun σ2 H2 => wipe σ2 vs = wipe σ vs ∧ tt σ2 H2 fun b H3 =>
        if b = true then te σ2 H3 fun y H4 => ∃ acc, H4 N = some (.lst acc) ∧ acc.length < sizeLine ∧ Nx (upd H4 N (.lst (acc ++ [y]))) else Nx H3) := by
  have hl := hx.len
  refine lc_tup (K := K) (a := r) (xs := xs) (fun i H' => Same H1 H' ∧ ∃ ys, H' N = some (.lst ys) ∧ Dvs H' ys (DL.of (((ds.take i).filter p).map f))) ⟨same_upd hN, [], upd_same, rfl⟩ (fun i H' _ hh => .inl (.inl (hh.1 _ _ hr))) ?_ ?_
  · rintro i x H' hi ⟨s1, ys, hy, hD⟩
    obtain ⟨d, hdi, hxd⟩ := (hx.mono (TK.of s1)).get hi
    have et : (ds.take (i + 1)).filter p = (ds.take i).filter p ++ [d].filter p := by
      rw [List.take_add_one, hdi, List.filter_append]
      rfl
    have hyl := hD.len
    rw [List.length_map] at hyl
    have hfl := List.length_filter_le p (ds.take i)
    rw [List.length_take] at hfl
    refine hs x d H' _ _ (List.mem_of_getElem? hdi) hxd s1 (fun e y H2 s2 hv => ?_) (fun e H2 s2 => ?_)
    · have hy2 := s2 _ _ hy
      have tk : TK H2 (upd H2 N (.lst (ys ++ [y]))) := TK.upd hy2 (fun _ z => by cases z)
      refine ⟨ys, hy2, bigLine (by omega), same_mut (s1.trans s2) hN, ys ++ [y], upd_same, ?_⟩
      rw [et, List.filter_cons_of_pos e, List.map_append]
      exact Dvs.app (hv.mono tk) (hD.mono ((TK.of s2).trans tk))
    · refine ⟨s1.trans s2, ys, s2 _ _ hy, ?_⟩
      rw [et, List.filter_cons_of_neg (by rw [e]; exact Bool.false_ne_true)]
      show Dvs H2 ys (DL.of (((ds.take i).filter p ++ []).map f))
      rw [List.append_nil]
      exact hD.mono (TK.of s2)
  · rintro H' ⟨s1, ys, hy, hD⟩
    rw [hl, List.take_length] at hD
    exact hd H' ys s1 hy hD
theorem lc_lstD {K : PySem.W.Frag} {r : Addr} {xs : List V} {ds : List D} {g : TG} {tt : TT} {te : TE} {vs : List Nat} {σ : L2.St} {H1 : Hp} {N : Addr} {Qd : Hp → Prop} (p : D → Bool) (f : D → D) (hN : H1 N = none) (hr : H1 r = some (.lst xs)) (hx : Dvs H1 xs (DL.of ds)) (hn : ds.length ≤ 1000000)
    (hs : ∀ x d H' (Q : VK) (M : Hp → Prop), d ∈ ds → Dv H' x d → Same H1 H' → (p d = true → ∀ y H2, Same H' H2 → Dv H2 y (f d) → Q y H2) → (p d = false → ∀ H2, Same H' H2 → M H2) → g x (wipe σ vs) H' fun σ2 H2 => wipe σ2 vs = wipe σ vs ∧ tt σ2 H2 fun b H3 => if b = true then te σ2 H3 Q else M H3)
    (hd : ∀ H' ys, Same H1 H' → H' N = some (.lst ys) → Dvs H' ys (DL.of ((ds.filter p).map f)) → Qd H') :
    ∃ W : Nat → Nat → Hp → Prop, (∃ m, W 0 m (upd H1 N (.lst []))) ∧ ∀ i m H, W i m H →
      ((Itl K r).stop i H ∧ Qd H) ∨ ((Itl K r).go i H ∧ ∃ Nx : Hp → Prop, (∀ H', Nx H' → ∃ m', m' < m ∧ W (i + 1) m' H') ∧ ∀ x H', (Itl K r).yld i H x H' → g x (wipe σ vs) H' fun σ2 H2 => wipe σ2 vs = wipe σ vs ∧ tt σ2 H2 fun b H3 =>
        if b = true then te σ2 H3 fun y H4 => ∃ acc, H4 N = some (.lst acc) ∧ acc.length < sizeLine ∧ Nx (upd H4 N (.lst (acc ++ [y]))) else Nx H3) := by
  have hl := hx.len
  refine lc_list (K := K) (a := r) (xs := xs) (fun i H' => Same H1 H' ∧ ∃ ys, H' N = some (.lst ys) ∧ Dvs H' ys (DL.of (((ds.take i).filter p).map f))) ⟨same_upd hN, [], upd_same, rfl⟩ (fun i H' _ hh => SqL.of (hh.1 _ _ hr)) ?_ ?_
  · rintro i x H' hi ⟨s1, ys, hy, hD⟩
    obtain ⟨d, hdi, hxd⟩ := (hx.mono (TK.of s1)).get hi
    have et : (ds.take (i + 1)).filter p = (ds.take i).filter p ++ [d].filter p := by
      rw [List.take_add_one, hdi, List.filter_append]
      rfl
    have hyl := hD.len
    rw [List.length_map] at hyl
    have hfl := List.length_filter_le p (ds.take i)
    rw [List.length_take] at hfl
    refine hs x d H' _ _ (List.mem_of_getElem? hdi) hxd s1 (fun e y H2 s2 hv => ?_) (fun e H2 s2 => ?_)
    · have hy2 := s2 _ _ hy
      have tk : TK H2 (upd H2 N (.lst (ys ++ [y]))) := TK.upd hy2 (fun _ z => by cases z)
      refine ⟨ys, hy2, bigLine (by omega), same_mut (s1.trans s2) hN, ys ++ [y], upd_same, ?_⟩
      rw [et, List.filter_cons_of_pos e, List.map_append]
      exact Dvs.app (hv.mono tk) (hD.mono ((TK.of s2).trans tk))
    · refine ⟨s1.trans s2, ys, s2 _ _ hy, ?_⟩
      rw [et, List.filter_cons_of_neg (by rw [e]; exact Bool.false_ne_true)]
      show Dvs H2 ys (DL.of (((ds.take i).filter p ++ []).map f))
      rw [List.append_nil]
      exact hD.mono (TK.of s2)
  · rintro H' ⟨s1, ys, hy, hD⟩
    rw [hl, List.take_length] at hD
    exact hd H' ys s1 hy hD
section
variable {P : Program} {w : World} {K : PySem.W.Frag} {mg : Str → Option Value} {base : Heap} {a : Ads}
theorem sc_blocks_in : FnScope ["statement", "found", "sort", "part", "_", "block"] ["statement"] (defScope s_blocks_in) := ⟨rfl, rfl, rfl, by decide +kernel, rfl, by decide +kernel, by decide +kernel⟩
theorem ok_blocks_in (T : Txt K mg a) {tS tU tF : Addr} (B : Tabs K w mg a tS tU tF) : FnOk P w K mg base CX0 2 a.f_blocks_in a.f_blocks_in_d ["statement"] spBlocks := by
  refine T.F_blocks_in.ok sc_blocks_in (fun vs H Q E h => ?_) (fun cdv A outer s H vs Q E hr h => ?_)
  · obtain ⟨v, s, rfl, _⟩ := h
    rfl
  obtain ⟨v, st, rfl, hv, hF, q⟩ := h
  refine ⟨_, (pss_cons (ps_set (i := 1) sc_blocks_in.nd rfl (Or.inl rfl) (pe_lst pa_nil))
    (pss_cons (ps_for PassesOwn.never rfl (pi_list (pe_call (ok_parts_of T B) (hr.mono (by decide)) (by rfl) T.g_parts_of T.F_parts_of.kp T.b_parts_of .nil pass0 (pa_cons (pv 0) pa_nil))) (pg_tup (by rfl) (pgs_cons (pg_name (i := 2) sc_blocks_in.nd rfl (Or.inl rfl)) (pgs_cons (pg_name (i := 3) sc_blocks_in.nd rfl (Or.inl rfl)) pgs_nil)))
      (pss_one (ps_if (pt_cmpR op_eq (pv 2) pe_str (nomark _))
        (pss_one (ps_expr (pe_bm PySem.F.plainAttrs_list PySem.F.slot_list_append PySem.F.type_list_append mt_append (pv 1) (pa_cons (pv 3) pa_nil))))
        (pss_one (ps_if (pt_cmpR op_eq (pv 2) pe_str (nomark _))
          (pss_one (ps_expr (pe_bm PySem.F.plainAttrs_list PySem.F.slot_list_extend PySem.F.type_list_extend mt_extend (pv 1) (pa_cons (pe_lc (own := [("_", 4), ("block", 5)]) (g := gTup K 2 (gCons (gName 4) (gCons (gName 5) gNil))) (tt := tYes) (by rfl) sc_blocks_in.nd (pi_tup (pv 3)) (blkOk_by (own := [("_", 4), ("block", 5)]) (N := ["statement", "found", "sort", "part", "_", "block"]) (sc := defScope s_blocks_in) (by decide +kernel)) (fun _ _ _ _ _ => pg_tup (by rfl) (pgs_cons (pg_name (i := 4) sc_blocks_in.nd rfl (Or.inl rfl)) (pgs_cons (pg_name (i := 5) sc_blocks_in.nd rfl (Or.inl rfl)) pgs_nil))) (fun _ _ _ _ _ => pts_nil) (fun _ _ _ _ _ => (pv 5))) pa_nil))))
          pss_nil)))))
    (pss_one (ps_ret (pv 1))))), ?_⟩
  obtain ⟨hFb, hFl⟩ := TS.f_blks hF
  refine ⟨Nat.zero_le _, fun N nN => ?_⟩
  have sN := same_upd (o := .lst []) nN
  have hN : (upd H N (.lst [])) N = some (.lst []) := upd_same
  dsimp only [gName]
  generalize upd H N (.lst []) = H1 at sN hN
  refine st_seq ⟨_, rfl, v, st, rfl, hv.mono (TK.of sN), fun H2 L xs s2 nL hL hx => ?_⟩
  have hNL : N ≠ L := ne_of_none hN nL
  refine ⟨L, rfl, ⟨_, SqL.of hL⟩, for_list (K := K) (a := L) (xs := xs) (fun i σ H' => ∃ (v3 v4 v5 v6 : Option V) (ys : List V), σ = [some v, some (.ref N), v3, v4, v5, v6] ∧ Same H H' ∧ H' L = some (.lst xs) ∧ H' N = some (.lst ys) ∧ Dvs H' ys (DL.of (((st.parts.take i).flatMap Part.blks).map dBk)) ∧ Dvs H' xs (DL.of (st.parts.map Part.dp)))
    ⟨none, none, none, none, [], rfl, sN.trans s2, hL, s2 _ _ hN, rfl, hx⟩ (fun i σ H' _ ⟨_, _, _, _, _, _, _, h, _⟩ => SqL.of h) ?_ ?_⟩
  · rintro i x σ H3 hi ⟨v3, v4, v5, v6, ys, rfl, s3, hL3, hN3, hD3, hx3⟩
    obtain ⟨d, hd, hxd⟩ := hx3.get hi
    obtain ⟨p, hp, rfl⟩ := get_map hd
    obtain ⟨r, u, rfl, hr3, hu⟩ := hxd.part
    have et := flat_take (g := Part.blks) hp
    have hyl := hD3.len
    rw [List.length_map] at hyl
    have hbl : ((st.parts.take i).flatMap Part.blks).length ≤ 4000 := Nat.le_trans (flat_le (m := 1000) fun y hy => (Part.f_blks (TS.f_parts hF y (List.mem_of_mem_take hy))).2) (by
      have := parts_len st
      rw [List.length_take]
      have h2 : min i st.parts.length * 1000 ≤ 4 * 1000 := Nat.mul_le_mul_right _ (by omega)
      omega)
    have tkN : ∀ u : V, TK H3 (upd H3 N (.lst (ys ++ [u]))) := fun u => TK.upd hN3 (fun _ z => by cases z)
    refine ⟨r, _, rfl, .inl (.inl hr3), rfl, .str p.sort, _, rfl, u, [], rfl, rfl, ?_⟩
    dsimp only [gName]
    rcases part_kinds p with ⟨x, rfl⟩ | ⟨h, rfl⟩ | ⟨hb, k1, k2⟩
    · refine st_yes (fun Q q => ⟨_, rfl, rfl, _, rfl, (by rw [show decide (V.str (Part.blk x).sort = V.str "block") = true from decide_eq_true rfl]; exact q)⟩) ?_
      refine ⟨_, rfl, .inl ⟨rfl, _, SqL.of hN3⟩, _, rfl, N, _, _, rfl, rfl, hN3, bigLine (by omega), ?_⟩
      have tk := tkN u
      refine ⟨_, _, _, _, ys ++ [u], rfl, same_mut s3 nN, by rw [upd_ne hNL.symm]; exact hL3, upd_same, ?_, hx3.mono tk⟩
      rw [et, List.map_append]
      exact Dvs.append (hD3.mono tk) ⟨u, [], rfl, hu.mono tk, rfl⟩
    · refine st_no (fun Q q => ⟨_, rfl, rfl, _, rfl, (by rw [show decide (V.str (Part.hds h).sort = V.str "block") = false from (no_blk2 : decide (V.str (Str.ofString "handlers") = V.str "block") = false)]; exact q)⟩) ?_
      refine st_yes (fun Q q => ⟨_, rfl, rfl, _, rfl, (by rw [show decide (V.str (Part.hds h).sort = V.str "handlers") = true from decide_eq_true rfl]; exact q)⟩) ?_
      obtain ⟨rh, zs, rfl, hrh, hzs⟩ := hu
      have hzs : Dvs H3 zs (dH h) := hzs
      rw [dH_of] at hzs
      have hF3 := TS.f_parts hF _ (List.mem_of_getElem? hp)
      refine ⟨_, rfl, .inl ⟨rfl, _, SqL.of hN3⟩, _, rfl, rh, rfl, ⟨_, .inl (.inl hrh)⟩, fun M nM => lc_tupD (fun _ => true) sndD nM hrh hzs (by rw [List.length_map]; exact Nat.le_trans hF3.1 (by decide)) (fun x d H' Q M' hd hxd s1 hy _ => ?_) (fun H' zs s1 hM hz => ?_)⟩
      · obtain ⟨e, he, rfl⟩ := List.mem_map.mp hd
        obtain ⟨r2, _, rfl, hr2, a1, _, rfl, _, a2, _, rfl, ha2, rfl⟩ := hxd
        exact ⟨r2, _, rfl, .inl (.inl hr2), rfl, a1, _, rfl, a2, [], rfl, rfl, rfl, _, rfl, hy rfl _ H' (Same.refl _) ha2⟩
      · rw [filter_yes, List.map_map] at hz
        have hzl := hz.len
        rw [List.length_map] at hzl
        have hN4 := s1 _ _ hN3
        have h1 := hF3.1
        refine ⟨N, M, _, _, rfl, rfl, hN4, hM, bigLe (by omega), ?_⟩
        have tk : TK H3 (upd H' N (.lst (ys ++ zs))) := (TK.of s1).trans (TK.upd hN4 (fun _ z => by cases z))
        refine ⟨_, _, _, _, ys ++ zs, rfl, same_mut (s3.trans s1) nN, by rw [upd_ne hNL.symm]; exact s1 _ _ hL3, upd_same, ?_, hx3.mono tk⟩
        rw [et, List.map_append]
        refine Dvs.append (hD3.mono tk) ?_
        show Dvs _ zs (DL.of ((h.L.map (·.2)).map dBk))
        rw [List.map_map]
        exact hz.mono (TK.upd hN4 (fun _ z => by cases z))
    · refine st_no (fun Q q => ⟨_, rfl, rfl, _, rfl, (by rw [k1]; exact q)⟩) ?_
      refine st_no (fun Q q => ⟨_, rfl, rfl, _, rfl, (by rw [k2]; exact q)⟩) ?_
      refine ⟨_, _, _, _, ys, rfl, s3, hL3, hN3, ?_, hx3⟩
      rw [et, hb, List.append_nil]
      exact hD3
  · rintro σ H3 ⟨v3, v4, v5, v6, ys, rfl, s3, hL3, hN3, hD3, hx3⟩
    have hl := hx.len
    rw [List.length_map] at hl
    rw [hl, List.take_length] at hD3
    exact ⟨_, rfl, q H3 N ys s3 nN hN3 hD3⟩
end
end K10
namespace K10
open PySem PySem.Spec PyProof.Rows L2 TL
theorem flat_take_le {α β : Type} {g : α → List β} : ∀ {l : List α} {i : Nat}, ((l.take i).flatMap g).length ≤ (l.flatMap g).length
  | [], i => by rw [List.take_nil]; exact Nat.le_refl _
  | x :: r, 0 => Nat.zero_le _
  | x :: r, i + 1 => by
    rw [List.take_succ_cons, List.flatMap_cons, List.flatMap_cons, List.length_append, List.length_append]
    exact Nat.add_le_add_left flat_take_le _
def spList : Nat → Sp
  | 0 => fun _ _ _ _ => False
  | n + 1 => fun vs H Q _ => ∃ (v : V) (x : TB), vs = [v] ∧ Dv H v (dBk x) ∧ x.F ∧ x.ht ≤ n ∧ x.sz ≤ 100000 ∧ ∀ (H' : Hp) (L : Addr) (xs : List V), Same H H' → H L = none → H' L = some (.lst xs) → Dvs H' xs (DL.of ((listB x).map dS)) → Q (.ref L) H'
mutual
theorem blks_htS : ∀ {s : TS} {n : Nat}, s.ht ≤ n → ∀ x ∈ s.blks, x.ht + 1 ≤ n := by
  intro s n h x hx
  cases s with
  | pl p => cases p <;> (try cases hx)
  | iff y z =>
    have h : max y.ht z.ht + 1 ≤ n := h
    have hx : x ∈ [y, z] := hx
    simp only [List.mem_cons, List.not_mem_nil, or_false] at hx
    rcases hx with rfl | rfl <;> omega
  | whl y =>
    have h : y.ht + 1 ≤ n := h
    rw [List.mem_singleton.mp hx]
    exact h
  | undo vs y =>
    have h : y.ht + 1 ≤ n := h
    rw [List.mem_singleton.mp hx]
    exact h
  | tr y hs z =>
    have h : max y.ht (max hs.ht z.ht) + 1 ≤ n := h
    have hx : x ∈ [y] ++ (hs.L.map (·.2) ++ ([z] ++ [])) := hx
    rcases List.mem_append.mp hx with hx | hx
    · rw [List.mem_singleton.mp hx]
      omega
    · rcases List.mem_append.mp hx with hx | hx
      · obtain ⟨q, hq, rfl⟩ := List.mem_map.mp hx
        have := TH.ht_mem2 hq
        omega
      · rw [List.append_nil] at hx
        rw [List.mem_singleton.mp hx]
        omega
  | wth f as g bs ks y =>
    have h : y.ht + 1 ≤ n := h
    rw [List.mem_singleton.mp hx]
    exact h
theorem TH.ht_mem2 : ∀ {x : TH} {s : List Str × TB}, s ∈ x.L → s.2.ht ≤ x.ht
  | .nil, _, h => by cases h
  | .cons _ _ r, s, h => by
    rcases List.mem_cons.mp h with rfl | h
    · exact Nat.le_max_left _ _
    · exact Nat.le_trans (TH.ht_mem2 h) (Nat.le_max_right _ _)
end
theorem TB.ht_mem2 : ∀ {x : TB} {s : TS}, s ∈ x.L → s.ht ≤ x.ht
  | .nil, _, h => by cases h
  | .cons _ r, s, h => by
    rcases List.mem_cons.mp h with rfl | h
    · exact Nat.le_max_left _ _
    · exact Nat.le_trans (TB.ht_mem2 h) (Nat.le_max_right _ _)
theorem dB_L : ∀ x : TB, dB x = DL.of (x.L.map dS)
  | .nil => rfl
  | .cons s r => by show DL.cons (dS s) (dB r) = _; rw [dB_L r]; rfl
section
variable {P : Program} {w : World} {K : PySem.W.Frag} {mg : Str → Option Value} {base : Heap} {a : Ads}
theorem sc_listed : FnScope ["block", "found", "statement", "inner"] ["block"] (defScope s_listed) := ⟨rfl, rfl, rfl, by decide +kernel, rfl, by decide +kernel, by decide +kernel⟩
theorem ok_listed1 (T : Txt K mg a) {tS tU tF : Addr} (B : Tabs K w mg a tS tU tF) (n k : Nat) (hk : 2 ≤ k) (ih : FnOk P w K mg base CX0 k a.f_listed a.f_listed_d ["block"] (spList n)) : FnOk P w K mg base CX0 (k + 1) a.f_listed a.f_listed_d ["block"] (spList (n + 1)) := by
  refine T.F_listed.ok sc_listed (fun vs H Q E h => ?_) (fun cdv A outer s H vs Q E hr h => ?_)
  · obtain ⟨v, x, rfl, _⟩ := h
    rfl
  obtain ⟨v, x, rfl, hv, hF, hht, hsz, q⟩ := h
  refine ⟨_, (pss_cons (ps_set (i := 1) sc_listed.nd rfl (Or.inl rfl) (pe_lst pa_nil))
    (pss_cons (ps_for PassesOwn.never rfl (pi_tup (pv 0)) (pg_name (i := 2) sc_listed.nd rfl (Or.inl rfl))
      (pss_cons (ps_expr (pe_bm PySem.F.plainAttrs_list PySem.F.slot_list_append PySem.F.type_list_append mt_append (pv 1) (pa_cons (pv 2) pa_nil)))
      (pss_one (ps_for PassesOwn.never rfl (pi_list (pe_call (ok_blocks_in T B) (hr.mono (by omega)) (by rfl) T.g_blocks_in T.F_blocks_in.kp T.b_blocks_in .nil pass0 (pa_cons (pv 2) pa_nil))) (pg_name (i := 3) sc_listed.nd rfl (Or.inl rfl))
        (pss_one (ps_expr (pe_bm PySem.F.plainAttrs_list PySem.F.slot_list_extend PySem.F.type_list_extend mt_extend (pv 1) (pa_cons (pe_call ih hr (by rfl) T.g_listed T.F_listed.kp T.b_listed .nil pass0 (pa_cons (pv 3) pa_nil)) pa_nil))))))))
    (pss_one (ps_ret (pv 1))))), ?_⟩
  obtain ⟨r, xs, rfl, hr0, hxs⟩ := hv
  have hxs : Dvs H xs (dB x) := hxs
  rw [dB_L] at hxs
  have hlb := list_szB x
  have hli := listB_is x
  refine ⟨Nat.zero_le _, fun N nN => ?_⟩
  have sN := same_upd (o := .lst []) nN
  have hN : (upd H N (.lst [])) N = some (.lst []) := upd_same
  dsimp only [gName]
  generalize upd H N (.lst []) = H1 at sN hN
  refine st_seq ⟨_, rfl, r, rfl, ⟨_, .inl (.inl (sN _ _ hr0))⟩, for_tup (K := K) (a := r) (xs := xs) (fun i σ H' => ∃ (v2 v3 : Option V) (ys : List V), σ = [some (.ref r), some (.ref N), v2, v3] ∧ Same H H' ∧ H' N = some (.lst ys) ∧ Dvs H' ys (DL.of (((x.L.take i).flatMap listS).map dS)))
    ⟨none, none, [], rfl, sN, hN, rfl⟩ (fun i σ H' _ ⟨_, _, _, _, s', _⟩ => .inl (.inl (s' _ _ hr0))) ?_ ?_⟩
  · rintro i y σ H2 hi ⟨v2, v3, ys, rfl, s2, hN2, hD2⟩
    obtain ⟨d, hd, hyd⟩ := (hxs.mono (TK.of s2)).get hi
    obtain ⟨st, hst, rfl⟩ := get_map hd
    have hm := List.mem_of_getElem? hst
    have hsF := TB.f_mem hF hm
    have hsH := TB.ht_mem2 hm
    have et := flat_take (g := listS) hst
    have hyl := hD2.len
    rw [List.length_map] at hyl
    have b0 : ((x.L.take (i + 1)).flatMap listS).length ≤ x.sz := by rw [← hlb, hli]; exact flat_take_le
    rw [et, listS_is, List.length_append, List.length_cons] at b0
    have tkN : ∀ {H' : Hp} {zs zs' : List V}, H' N = some (.lst zs) → TK H' (upd H' N (.lst zs')) := fun h => TK.upd h (fun _ z => by cases z)
    dsimp only [gName]
    refine st_seq ⟨_, rfl, .inl ⟨rfl, _, SqL.of hN2⟩, _, rfl, N, _, _, rfl, rfl, hN2, bigLine (by omega), ?_⟩
    have hN3 : (upd H2 N (.lst (ys ++ [y]))) N = some (.lst (ys ++ [y])) := upd_same
    have s3 : Same H (upd H2 N (.lst (ys ++ [y]))) := same_mut s2 nN
    have hD3 : Dvs (upd H2 N (.lst (ys ++ [y]))) (ys ++ [y]) (DL.of (((x.L.take i).flatMap listS ++ [st]).map dS)) := by
      rw [List.map_append]
      exact Dvs.append (hD2.mono (tkN hN2)) ⟨y, [], rfl, hyd.mono (tkN hN2), rfl⟩
    have hyd3 := hyd.mono (tkN (zs' := ys ++ [y]) hN2)
    generalize upd H2 N (.lst (ys ++ [y])) = H3 at hN3 s3 hD3 hyd3
    generalize hys : ys ++ [y] = ys3 at hN3 hD3
    have hl3 : ys3.length = ((x.L.take i).flatMap listS).length + 1 := by
      rw [← hys, List.length_append, hyl]
      rfl
    obtain ⟨hFb, hFl⟩ := TS.f_blks hsF
    dsimp only
    refine ⟨_, rfl, y, st, rfl, hyd3, hsF, fun H4 L ls s4 nL hL hls => ?_⟩
    have hNL : N ≠ L := ne_of_none hN3 nL
    have hll := hls.len
    rw [List.length_map] at hll
    refine ⟨L, rfl, ⟨_, SqL.of hL⟩, for_list (K := K) (a := L) (xs := ls) (fun j σ H' => ∃ (v3 : Option V) (zs : List V), σ = [some (.ref r), some (.ref N), some y, v3] ∧ Same H H' ∧ H' L = some (.lst ls) ∧ H' N = some (.lst zs) ∧ Dvs H' zs (DL.of ((((x.L.take i).flatMap listS ++ [st]) ++ (st.blks.take j).flatMap listB).map dS)) ∧ Dvs H' ls (DL.of (st.blks.map dBk)))
      ⟨v3, ys3, rfl, s3.trans s4, hL, s4 _ _ hN3, by rw [List.take_zero, List.flatMap_nil, List.append_nil]; exact hD3.mono (TK.of s4), hls⟩ (fun j σ H' _ ⟨_, _, _, _, h, _⟩ => SqL.of h) ?_ ?_⟩
    · rintro j u σ H5 hj ⟨v3', zs, rfl, s5, hL5, hN5, hD5, hls5⟩
      obtain ⟨d5, hd5, hu⟩ := hls5.get hj
      obtain ⟨bx, hbx, rfl⟩ := get_map hd5
      have hbm := List.mem_of_getElem? hbx
      have ej := flat_take (g := listB) hbx
      have hzl := hD5.len
      rw [List.length_map] at hzl
      have b1 : ((st.blks.take (j + 1)).flatMap listB).length ≤ (st.blks.flatMap listB).length := flat_take_le
      rw [ej, List.length_append, list_szB] at b1
      have bh := blks_htS (Nat.le_trans hsH hht) bx hbm
      obtain ⟨m, rfl⟩ : ∃ m, n = m + 1 := ⟨n - 1, by omega⟩
      dsimp only [gName]
      rw [List.length_append, List.length_append, List.length_singleton] at hzl
      refine ⟨_, rfl, .inl ⟨rfl, _, SqL.of hN5⟩, _, rfl, u, bx, rfl, hu, hFb bx hbm, by omega, by omega, fun H6 M ms s6 nM hM hms => ?_⟩
      have hN6 := s6 _ _ hN5
      have hml := hms.len
      rw [List.length_map, list_szB] at hml
      refine ⟨N, M, _, _, rfl, rfl, hN6, hM, bigLe (by omega), ?_⟩
      have tk : TK H5 (upd H6 N (.lst (zs ++ ms))) := (TK.of s6).trans (tkN hN6)
      refine ⟨_, zs ++ ms, rfl, same_mut (s5.trans s6) nN, by rw [upd_ne hNL.symm]; exact s6 _ _ hL5, upd_same, ?_, hls5.mono tk⟩
      rw [ej, ← List.append_assoc, List.map_append]
      exact Dvs.append (hD5.mono tk) (hms.mono (tkN hN6))
    · rintro σ H5 ⟨v3', zs, rfl, s5, hL5, hN5, hD5, hls5⟩
      rw [hll, List.take_length] at hD5
      refine ⟨_, _, zs, rfl, s5, hN5, ?_⟩
      rw [et, listS_is, show (x.L.take i).flatMap listS ++ st :: st.blks.flatMap listB = ((x.L.take i).flatMap listS ++ [st]) ++ st.blks.flatMap listB by rw [List.append_assoc]; rfl]
      exact hD5
  · rintro σ H2 ⟨v2, v3, ys, rfl, s2, hN2, hD2⟩
    have hl := hxs.len
    rw [List.length_map] at hl
    rw [hl, List.take_length, ← hli] at hD2
    exact ⟨_, rfl, q H2 N ys s2 nN hN2 hD2⟩
theorem ok_listed (T : Txt K mg a) {tS tU tF : Addr} (B : Tabs K w mg a tS tU tF) : ∀ n : Nat, FnOk P w K mg base CX0 (2 + n) a.f_listed a.f_listed_d ["block"] (spList n)
  | 0 => ⟨fun _ _ _ _ h => h.elim, fun _ _ _ _ _ _ _ _ _ _ _ _ _ h => h.elim⟩
  | n + 1 => ok_listed1 T B n (2 + n) (Nat.le_add_right _ _) (ok_listed T B n)
end
end K10
namespace K10
open PySem PySem.Spec PyProof.Rows L2 TL
def dCl (c : Str × List Ar) : D := dCall c.1 c.2
def spCalls : Sp := fun vs H Q _ => ∃ (v : V) (s : TS), vs = [v] ∧ Dv H v (dS s) ∧ ∀ (H' : Hp) (L : Addr) (xs : List V), Same H H' → H L = none → H' L = some (.lst xs) → Dvs H' xs (DL.of (s.calls.map dCl)) → Q (.ref L) H'
theorem word_call (s : TS) : (∃ t f as, s = .pl (.call t f as)) ∨ (decide (V.str s.word = V.str "call") = false ∧ s.calls = s.parts.flatMap Part.calls) := by
  cases s with
  | pl p =>
    cases p with
    | call t f as => exact .inl ⟨t, f, as, rfl⟩
    | set _ _ => exact .inr ⟨(by decide +kernel : decide (V.str (Str.ofString "set") = V.str "call") = false), rfl⟩
    | inp _ => exact .inr ⟨(by decide +kernel : decide (V.str (Str.ofString "input") = V.str "call") = false), rfl⟩
    | risk _ => exact .inr ⟨(by decide +kernel : decide (V.str (Str.ofString "risk") = V.str "call") = false), rfl⟩
    | rse _ => exact .inr ⟨(by decide +kernel : decide (V.str (Str.ofString "raise") = V.str "call") = false), rfl⟩
    | ret _ => exact .inr ⟨(by decide +kernel : decide (V.str (Str.ofString "return") = V.str "call") = false), rfl⟩
  | iff _ _ => exact .inr ⟨(by decide +kernel : decide (V.str (Str.ofString "if") = V.str "call") = false), rfl⟩
  | whl _ => exact .inr ⟨(by decide +kernel : decide (V.str (Str.ofString "while") = V.str "call") = false), rfl⟩
  | undo _ _ => exact .inr ⟨(by decide +kernel : decide (V.str (Str.ofString "undo") = V.str "call") = false), rfl⟩
  | tr _ _ _ => exact .inr ⟨(by decide +kernel : decide (V.str (Str.ofString "try") = V.str "call") = false), rfl⟩
  | wth _ _ _ _ _ _ => exact .inr ⟨(by decide +kernel : decide (V.str (Str.ofString "with") = V.str "call") = false), rfl⟩
/-- is it of this sort -/
def ofSort (x : Str) : D → Bool
  | .tup (.cons (.str s) _) => decide (V.str s = V.str x)
  | _ => false
theorem sort_of (x : Str) (p : Part) : ofSort x p.dp = decide (V.str p.sort = V.str x) := rfl
theorem snd_of (p : Part) : sndD p.dp = p.d := rfl
theorem parts_sort {α : Type} {x : Str} {g : Part → List α} {d : α → D} (h : ∀ p : Part, (decide (V.str p.sort = V.str x) = true ∧ ∃ y, g p = [y] ∧ d y = p.d) ∨ (decide (V.str p.sort = V.str x) = false ∧ g p = [])) : ∀ ps : List Part, ((ps.map Part.dp).filter (ofSort x)).map sndD = (ps.flatMap g).map d
  | [] => rfl
  | p :: r => by
    rw [List.map_cons, List.flatMap_cons, List.map_append]
    rcases h p with ⟨h1, y, h2, h3⟩ | ⟨h1, h2⟩
    · rw [List.filter_cons_of_pos (show ofSort x p.dp = true from h1), List.map_cons, parts_sort h r, h2, snd_of, ← h3]
      rfl
    · rw [List.filter_cons_of_neg (show ¬ ofSort x p.dp = true from by rw [sort_of, h1]; exact Bool.false_ne_true), parts_sort h r, h2]
      rfl
theorem dif {x y : Str} (h : decide (V.str x = V.str y) = false) : decide (V.str x = V.str y) = false := h
theorem calls_sort (p : Part) : (decide (V.str p.sort = V.str "made") = true ∧ ∃ y, Part.calls p = [y] ∧ dCl y = p.d) ∨ (decide (V.str p.sort = V.str "made") = false ∧ Part.calls p = []) := by
  cases p with
  | made f as => exact .inl ⟨decide_eq_true rfl, (f, as), rfl, rfl⟩
  | blk x => exact .inr ⟨dif (x := "block") (by decide +kernel), rfl⟩
  | hds h => exact .inr ⟨dif (x := "handlers") (by decide +kernel), rfl⟩
  | var _ => exact .inr ⟨dif (x := "variable") (by decide +kernel), rfl⟩
  | sum _ => exact .inr ⟨dif (x := "sum") (by decide +kernel), rfl⟩
  | tgt _ => exact .inr ⟨dif (x := "target") (by decide +kernel), rfl⟩
  | fn _ => exact .inr ⟨dif (x := "function") (by decide +kernel), rfl⟩
  | args _ => exact .inr ⟨dif (x := "args") (by decide +kernel), rfl⟩
  | knds _ => exact .inr ⟨dif (x := "kinds") (by decide +kernel), rfl⟩
  | knd _ => exact .inr ⟨dif (x := "kind") (by decide +kernel), rfl⟩
  | vars _ => exact .inr ⟨dif (x := "variables") (by decide +kernel), rfl⟩
  | swal _ => exact .inr ⟨dif (x := "swallowed") (by decide +kernel), rfl⟩
theorem sums_sort (p : Part) : (decide (V.str p.sort = V.str "sum") = true ∧ ∃ y, Part.sums p = [y] ∧ dE y = p.d) ∨ (decide (V.str p.sort = V.str "sum") = false ∧ Part.sums p = []) := by
  cases p with
  | sum e => exact .inl ⟨decide_eq_true rfl, e, rfl, rfl⟩
  | made f as => exact .inr ⟨dif (x := "made") (by decide +kernel), rfl⟩
  | blk x => exact .inr ⟨dif (x := "block") (by decide +kernel), rfl⟩
  | hds h => exact .inr ⟨dif (x := "handlers") (by decide +kernel), rfl⟩
  | var _ => exact .inr ⟨dif (x := "variable") (by decide +kernel), rfl⟩
  | tgt _ => exact .inr ⟨dif (x := "target") (by decide +kernel), rfl⟩
  | fn _ => exact .inr ⟨dif (x := "function") (by decide +kernel), rfl⟩
  | args _ => exact .inr ⟨dif (x := "args") (by decide +kernel), rfl⟩
  | knds _ => exact .inr ⟨dif (x := "kinds") (by decide +kernel), rfl⟩
  | knd _ => exact .inr ⟨dif (x := "kind") (by decide +kernel), rfl⟩
  | vars _ => exact .inr ⟨dif (x := "variables") (by decide +kernel), rfl⟩
  | swal _ => exact .inr ⟨dif (x := "swallowed") (by decide +kernel), rfl⟩
section
variable {P : Program} {w : World} {K : PySem.W.Frag} {mg : Str → Option Value} {base : Heap} {a : Ads}
theorem sc_calls_in : FnScope ["statement", "sort", "part"] ["statement"] (defScope s_calls_in) := ⟨rfl, rfl, rfl, by decide +kernel, rfl, by decide +kernel, by decide +kernel⟩
theorem ok_calls_in (T : Txt K mg a) {tS tU tF : Addr} (B : Tabs K w mg a tS tU tF) : FnOk P w K mg base CX0 2 a.f_calls_in a.f_calls_in_d ["statement"] spCalls := by
  refine T.F_calls_in.ok sc_calls_in (fun vs H Q E h => ?_) (fun cdv A outer s H vs Q E hr h => ?_)
  · obtain ⟨v, s, rfl, _⟩ := h
    rfl
  obtain ⟨v, st, rfl, hv, q⟩ := h
  refine ⟨_, (pss_cons (ps_if (pt_cmpR op_eq (pe_ix ix_tup (pv 0) pe_int (fun _ _ => rfl)) pe_str (nomark _))
      (pss_one (ps_ret (pe_lst (pa_cons (pe_slice sl_tup (pv 0) (po_some pe_int) po_none) pa_nil))))
      pss_nil)
    (pss_one (ps_ret (pe_lc (own := [("sort", 1), ("part", 2)]) (g := gTup K 2 (gCons (gName 1) (gCons (gName 2) gNil))) (tt := _) (by rfl) sc_calls_in.nd (pi_list (pe_call (ok_parts_of T B) (hr.mono (by decide)) (by rfl) T.g_parts_of T.F_parts_of.kp T.b_parts_of .nil pass0 (pa_cons (pv 0) pa_nil))) (blkOk_by (own := [("sort", 1), ("part", 2)]) (N := ["statement", "sort", "part"]) (sc := defScope s_calls_in) (by decide +kernel)) (fun _ _ _ _ _ => pg_tup (by rfl) (pgs_cons (pg_name (i := 1) sc_calls_in.nd rfl (Or.inl rfl)) (pgs_cons (pg_name (i := 2) sc_calls_in.nd rfl (Or.inl rfl)) pgs_nil))) (fun _ _ _ _ _ => (pts_one (pt_cmpR op_eq (pv 1) pe_str (nomark _)))) (fun _ _ _ _ _ => (pv 2)))))), ?_⟩
  have hv0 := hv
  rw [dS_is] at hv
  obtain ⟨r, _, rfl, hr0, x0, xs, rfl, hx0, hxs⟩ := hv
  have hx0 : x0 = .str st.word := hx0
  subst hx0
  rcases word_call st with ⟨t, f, as, rfl⟩ | ⟨hw, hc⟩
  · refine st_seq (st_yes (fun Q q => ⟨_, rfl, r, _, _, _, rfl, rfl, .inl (.inl hr0), atI_nat (j := 0) rfl, rfl, _, rfl, (by rw [show decide (V.str (TS.word (.pl (.call t f as))) = V.str "call") = true from decide_eq_true rfl]; exact q)⟩) ?_)
    obtain ⟨x1, _, rfl, _, x2, _, rfl, h2, x3, _, rfl, h3, rfl⟩ := hxs
    refine ⟨_, rfl, 2, rfl, r, _, rfl, .inl (.inl hr0), ?_, fun c nc => ⟨(by show 1 ≤ sizeLine; decide), fun L nL => ?_⟩⟩
    · rintro ⟨h1, _⟩
      cases h1
    · have sc := same_upd (o := .tup (cutV [.str (TS.word (.pl (.call t f as))), x1, x2, x3] (some 2) none)) nc
      have sL := same_upd (o := .lst [.ref c]) nL
      refine q _ L [.ref c] (sc.trans sL) (sc.free nL) upd_same ⟨.ref c, [], rfl, ⟨c, [x2, x3], rfl, sL _ _ upd_same, x2, [x3], rfl, h2, x3, [], rfl, h3.mono (TK.of (sc.trans sL)), rfl⟩, rfl⟩
  · refine st_seq (st_no (fun Q q => ⟨_, rfl, r, _, _, _, rfl, rfl, .inl (.inl hr0), atI_nat (j := 0) rfl, rfl, _, rfl, (by rw [hw]; exact q)⟩) ?_)
    dsimp only [tNext]
    refine ⟨_, rfl, .ref r, st, rfl, hv0, fun H2 L ls s2 nL hL hls => ⟨L, rfl, ⟨_, SqL.of hL⟩, fun N nN => lc_lstD (ofSort "made") sndD nN hL hls (by rw [List.length_map]; exact Nat.le_trans (parts_len st) (by decide)) (fun x d H' Q M hd hxd s1 hy hn => ?_) (fun H' zs s1 hN hz => ?_)⟩⟩
    · obtain ⟨p, hp, rfl⟩ := List.mem_map.mp hd
      obtain ⟨r2, u, rfl, hr2, hu⟩ := hxd.part
      refine ⟨r2, _, rfl, .inl (.inl hr2), rfl, .str p.sort, _, rfl, u, [], rfl, rfl, rfl, ?_⟩
      exact ⟨_, rfl, rfl, _, rfl, ite2 (fun e => ⟨_, rfl, hy e _ H' (Same.refl _) hu⟩) (fun e => hn (Bool.eq_false_iff.mpr e) H' (Same.refl _))⟩
    · rw [parts_sort calls_sort, ← hc] at hz
      exact q H' N zs (s2.trans s1) (s2.free nN) hN hz
def spSumsIn : Sp := fun vs H Q _ => ∃ (v : V) (s : TS), vs = [v] ∧ Dv H v (dS s) ∧ s.F ∧ ∀ (H' : Hp) (L : Addr) (xs : List V), Same H H' → H L = none → H' L = some (.lst xs) → Dvs H' xs (DL.of (s.sums.map dE)) → Q (.ref L) H'
theorem ar_sort0 (v : Str) : ofSort "value" (dA (.pla v)) = false := by
  show decide (V.str "place" = V.str "value") = false
  decide +kernel
theorem ar_sort1 (e : Ex) : ofSort "value" (dA (.val e)) = true := by
  show decide (V.str "value" = V.str "value") = true
  exact decide_eq_true rfl
theorem ar_sums : ∀ as : List Ar, ((as.map dA).filter (ofSort "value")).map sndD = (arSums as).map dE
  | [] => rfl
  | .pla v :: r => by
    rw [List.map_cons, List.filter_cons_of_neg (by rw [ar_sort0]; exact Bool.false_ne_true), ar_sums r]
    rfl
  | .val e :: r => by
    rw [List.map_cons, List.filter_cons_of_pos (ar_sort1 e), List.map_cons, ar_sums r]
    rfl
theorem calls_ok {s : TS} (h : s.F) : s.calls.length ≤ 2 ∧ ∀ c ∈ s.calls, NmOk c.1 ∧ ArsF c.2 := by
  cases s with
  | pl p =>
    cases p with
    | call t f as => exact ⟨by show 1 ≤ 2; decide, fun c hc => by rw [List.mem_singleton.mp hc]; exact ⟨h.2.1, h.2.2⟩⟩
    | _ => exact ⟨Nat.zero_le _, fun c hc => by cases hc⟩
  | wth f as g bs ks x =>
    obtain ⟨h1, h2, h3, h4, _, _⟩ := h
    refine ⟨Nat.le_refl _, fun c hc => ?_⟩
    have hc : c ∈ [(f, as), (g, bs)] := hc
    simp only [List.mem_cons, List.not_mem_nil, or_false] at hc
    rcases hc with rfl | rfl
    · exact ⟨h1, h2⟩
    · exact ⟨h3, h4⟩
  | _ => exact ⟨Nat.zero_le _, fun c hc => by cases hc⟩
theorem sc_sums_in : FnScope ["statement", "found", "_", "args", "sort", "part", "word", "held"] ["statement"] (defScope s_sums_in) := ⟨rfl, rfl, rfl, by decide +kernel, rfl, by decide +kernel, by decide +kernel⟩
theorem ok_sums_in (T : Txt K mg a) {tS tU tF : Addr} (B : Tabs K w mg a tS tU tF) : FnOk P w K mg base CX0 3 a.f_sums_in a.f_sums_in_d ["statement"] spSumsIn := by
  refine T.F_sums_in.ok sc_sums_in (fun vs H Q E h => ?_) (fun cdv A outer s H vs Q E hr h => ?_)
  · obtain ⟨v, s, rfl, _⟩ := h
    rfl
  obtain ⟨v, st, rfl, hv, hF, q⟩ := h
  refine ⟨_, (pss_cons (ps_setLc (i := 1) (own := [("sort", 4), ("part", 5)]) (g := gTup K 2 (gCons (gName 4) (gCons (gName 5) gNil))) (tt := _) (by rfl) sc_sums_in.nd rfl rfl (sw_true rfl rfl rfl (by decide +kernel)) (pi_list (pe_call (ok_parts_of T B) (hr.mono (by decide)) (by rfl) T.g_parts_of T.F_parts_of.kp T.b_parts_of .nil pass0 (pa_cons (pv 0) pa_nil))) (blkOk_by (own := [("sort", 4), ("part", 5)]) (N := ["statement", "found", "_", "args", "sort", "part", "word", "held"]) (sc := defScope s_sums_in) (by decide +kernel)) (fun _ _ _ _ _ => pg_tup (by rfl) (pgs_cons (pg_name (i := 4) sc_sums_in.nd rfl (Or.inl rfl)) (pgs_cons (pg_name (i := 5) sc_sums_in.nd rfl (Or.inl rfl)) pgs_nil))) (fun _ _ _ _ _ => (pts_one (pt_cmpR op_eq (pv 4) pe_str (nomark _)))) (fun _ _ _ _ _ => (pv 5)))
    (pss_cons (ps_for PassesOwn.never rfl (pi_list (pe_call (ok_calls_in T B) (hr.mono (by decide)) (by rfl) T.g_calls_in T.F_calls_in.kp T.b_calls_in .nil pass0 (pa_cons (pv 0) pa_nil))) (pg_tup (by rfl) (pgs_cons (pg_name (i := 2) sc_sums_in.nd rfl (Or.inl rfl)) (pgs_cons (pg_name (i := 3) sc_sums_in.nd rfl (Or.inl rfl)) pgs_nil)))
      (pss_one (ps_expr (pe_bm PySem.F.plainAttrs_list PySem.F.slot_list_extend PySem.F.type_list_extend mt_extend (pv 1) (pa_cons (pe_lc (own := [("word", 6), ("held", 7)]) (g := gTup K 2 (gCons (gName 6) (gCons (gName 7) gNil))) (tt := _) (by rfl) sc_sums_in.nd (pi_tup (pv 3)) (blkOk_by (own := [("word", 6), ("held", 7)]) (N := ["statement", "found", "_", "args", "sort", "part", "word", "held"]) (sc := defScope s_sums_in) (by decide +kernel)) (fun _ _ _ _ _ => pg_tup (by rfl) (pgs_cons (pg_name (i := 6) sc_sums_in.nd rfl (Or.inl rfl)) (pgs_cons (pg_name (i := 7) sc_sums_in.nd rfl (Or.inl rfl)) pgs_nil))) (fun _ _ _ _ _ => (pts_one (pt_cmpR op_eq (pv 6) pe_str (nomark _)))) (fun _ _ _ _ _ => (pv 7))) pa_nil)))))
    (pss_one (ps_ret (pv 1))))), ?_⟩
  refine st_seq ⟨_, rfl, v, st, rfl, hv, fun H2 L ls s2 nL hL hls => ⟨L, rfl, ⟨_, SqL.of hL⟩, fun N nN => lc_lstD (ofSort "sum") sndD nN hL hls (by rw [List.length_map]; exact Nat.le_trans (parts_len st) (by decide)) (fun x d H' Q M hd hxd s1 hy hn => ?_) (fun H3 ys s3 hN hD => ?_)⟩⟩
  · obtain ⟨p, hp, rfl⟩ := List.mem_map.mp hd
    obtain ⟨r2, u, rfl, hr2, hu⟩ := hxd.part
    refine ⟨r2, _, rfl, .inl (.inl hr2), rfl, .str p.sort, _, rfl, u, [], rfl, rfl, rfl, ?_⟩
    exact ⟨_, rfl, rfl, _, rfl, ite2 (fun e => ⟨_, rfl, hy e _ H' (Same.refl _) hu⟩) (fun e => hn (Bool.eq_false_iff.mpr e) H' (Same.refl _))⟩
  rw [parts_sort sums_sort] at hD
  dsimp only [gName]
  have sH := s2.trans s3
  have nN' : H N = none := s2.free nN
  have hc0 := calls_ok hF
  refine st_seq ⟨_, rfl, v, st, rfl, hv.mono (TK.of sH), fun H4 C cs s4 nC hC hcs => ?_⟩
  have hNC : N ≠ C := ne_of_none hN nC
  have hcl := hcs.len
  rw [List.length_map] at hcl
  have pl : (st.parts.flatMap Part.sums).length ≤ 4 := by
    have := flat_le (g := Part.sums) (m := 1) (l := st.parts) fun p _ => by
      rcases sums_sort p with ⟨_, y, e, _⟩ | ⟨_, e⟩
      · rw [e]
        exact Nat.le_refl _
      · rw [e]
        exact Nat.zero_le _
    have := parts_len st
    omega
  refine ⟨C, rfl, ⟨_, SqL.of hC⟩, for_list (K := K) (a := C) (xs := cs) (fun i σ H' => ∃ (v2 v3 v4 v5 v6 v7 : Option V) (zs : List V), σ = [some v, some (.ref N), v2, v3, v4, v5, v6, v7] ∧ Same H H' ∧ H' C = some (.lst cs) ∧ H' N = some (.lst zs) ∧ Dvs H' zs (DL.of ((st.parts.flatMap Part.sums ++ (st.calls.take i).flatMap fun c => arSums c.2).map dE)) ∧ Dvs H' cs (DL.of (st.calls.map dCl)))
    ⟨none, none, none, none, none, none, ys, rfl, sH.trans s4, hC, s4 _ _ hN, by rw [List.take_zero, List.flatMap_nil, List.append_nil]; exact hD.mono (TK.of s4), hcs⟩ (fun i σ H' _ ⟨_, _, _, _, _, _, _, _, _, h, _⟩ => SqL.of h) ?_ ?_⟩
  · rintro i x σ H5 hi ⟨v2, v3, v4, v5, v6, v7, zs, rfl, s5, hC5, hN5, hD5, hcs5⟩
    obtain ⟨d, hd, hx⟩ := hcs5.get hi
    obtain ⟨c, hc, rfl⟩ := get_map hd
    have hcm := List.mem_of_getElem? hc
    obtain ⟨_, hcF⟩ := hc0.2 c hcm
    have et := flat_take (g := fun c : Str × List Ar => arSums c.2) hc
    obtain ⟨r, _, rfl, hr5, x1, _, rfl, h1, u, _, rfl, hu, rfl⟩ := hx
    obtain ⟨ra, as, rfl, hra, has⟩ := hu
    have hzl := hD5.len
    rw [List.length_map, List.length_append] at hzl
    have al : ((st.calls.take i).flatMap fun c => arSums c.2).length ≤ 2 * 1000 := by
      have f1 := flat_le (g := fun c : Str × List Ar => arSums c.2) (m := 1000) (l := st.calls.take i) fun y hy => Nat.le_trans (Nat.le_trans (List.length_filterMap_le _ _) (hc0.2 y (List.mem_of_mem_take hy)).2.len) (by decide)
      have f2 := hc0.1
      rw [List.length_take] at f1
      have f3 : min i st.calls.length * 1000 ≤ 2 * 1000 := Nat.mul_le_mul_right _ (by omega)
      omega
    have tkN : ∀ {H' : Hp} {zs zs' : List V}, H' N = some (.lst zs) → TK H' (upd H' N (.lst zs')) := fun h => TK.upd h (fun _ z => by cases z)
    refine ⟨r, _, rfl, .inl (.inl hr5), rfl, x1, _, rfl, .ref ra, [], rfl, rfl, ?_⟩
    dsimp only [gName]
    refine ⟨_, rfl, .inl ⟨rfl, _, SqL.of hN5⟩, _, rfl, ra, rfl, ⟨_, .inl (.inl hra)⟩, fun M nM => lc_tupD (ofSort "value") sndD nM hra has (by rw [List.length_map]; exact Nat.le_trans hcF.len (by decide)) (fun x d H' Q M' hd hxd s1 hy hn => ?_) (fun H' ms s1 hM hm => ?_)⟩
    · obtain ⟨e, he, rfl⟩ := List.mem_map.mp hd
      cases e with
      | pla v =>
        obtain ⟨r2, _, rfl, hr2, a1, _, rfl, ha1, a2, _, rfl, ha2, rfl⟩ := hxd
        have ha1 : a1 = .str "place" := ha1
        subst ha1
        refine ⟨r2, _, rfl, .inl (.inl hr2), rfl, _, _, rfl, a2, [], rfl, rfl, rfl, ?_⟩
        exact ⟨_, rfl, rfl, _, rfl, ite2 (fun e => absurd e (by rw [show decide (V.str "place" = V.str "value") = false from ar_sort0 v]; exact Bool.false_ne_true)) (fun e => hn (ar_sort0 v) H' (Same.refl _))⟩
      | val e =>
        obtain ⟨r2, _, rfl, hr2, a1, _, rfl, ha1, a2, _, rfl, ha2, rfl⟩ := hxd
        have ha1 : a1 = .str "value" := ha1
        subst ha1
        refine ⟨r2, _, rfl, .inl (.inl hr2), rfl, _, _, rfl, a2, [], rfl, rfl, rfl, ?_⟩
        exact ⟨_, rfl, rfl, _, rfl, ite2 (fun _ => ⟨_, rfl, hy (ar_sort1 e) _ H' (Same.refl _) ha2⟩) (fun z => absurd (ar_sort1 e) z)⟩
    · rw [ar_sums] at hm
      have hml := hm.len
      rw [List.length_map] at hml
      have am : (arSums c.2).length ≤ 1000 := Nat.le_trans (Nat.le_trans (List.length_filterMap_le _ _) hcF.len) (by decide)
      have hN6 := s1 _ _ hN5
      refine ⟨N, M, _, _, rfl, rfl, hN6, hM, bigLe (by omega), ?_⟩
      have tk : TK H5 (upd H' N (.lst (zs ++ ms))) := (TK.of s1).trans (tkN hN6)
      refine ⟨_, _, _, _, _, _, zs ++ ms, rfl, same_mut (s5.trans s1) nN', by rw [upd_ne hNC.symm]; exact s1 _ _ hC5, upd_same, ?_, hcs5.mono tk⟩
      rw [et, ← List.append_assoc, List.map_append]
      exact Dvs.append (hD5.mono tk) (hm.mono (tkN hN6))
  · rintro σ H5 ⟨v2, v3, v4, v5, v6, v7, zs, rfl, s5, hC5, hN5, hD5, hcs5⟩
    rw [hcl, List.take_length] at hD5
    exact ⟨_, rfl, q H5 N zs s5 nN' hN5 hD5⟩
end
end K10
namespace K10
open PySem PySem.Spec PyProof.Rows L2 TL
def asgV (s : TS) : V := match s.asg with
  | some v => .str v
  | none => .non
def spAsgBy : Sp := fun vs H Q _ => ∃ (v : V) (s : TS), vs = [v] ∧ Dv H v (dS s) ∧ ∀ H', Same H H' → Q (asgV s) H'
def sicV : List V := [.str "set", .str "input", .str "call"]
theorem sic_set : inV (.str "set") sicV = true := by decide +kernel
theorem sic_input : inV (.str "input") sicV = true := by decide +kernel
theorem sic_call : inV (.str "call") sicV = true := by decide +kernel
theorem sic_risk : inV (.str "risk") sicV = false := by decide +kernel
theorem sic_raise : inV (.str "raise") sicV = false := by decide +kernel
theorem sic_return : inV (.str "return") sicV = false := by decide +kernel
theorem sic_if : inV (.str "if") sicV = false := by decide +kernel
theorem sic_while : inV (.str "while") sicV = false := by decide +kernel
theorem sic_undo : inV (.str "undo") sicV = false := by decide +kernel
theorem sic_try : inV (.str "try") sicV = false := by decide +kernel
theorem sic_with : inV (.str "with") sicV = false := by decide +kernel
theorem word_asg (s : TS) : (inV (.str s.word) sicV = true ∧ ∃ t r, s.parts = t :: r ∧ ∀ (H : Hp) (u : V), Dv H u t.d → u = asgV s) ∨ (inV (.str s.word) sicV = false ∧ asgV s = .non) := by
  cases s with
  | pl p =>
    cases p with
    | set v e => exact .inl ⟨sic_set, _, _, rfl, fun _ _ h => h⟩
    | inp v => exact .inl ⟨sic_input, _, _, rfl, fun _ _ h => h⟩
    | call t f as =>
      cases t with
      | none => exact .inl ⟨sic_call, _, _, rfl, fun _ _ h => h⟩
      | some t => exact .inl ⟨sic_call, _, _, rfl, fun _ _ h => h⟩
    | risk _ => exact .inr ⟨sic_risk, rfl⟩
    | rse _ => exact .inr ⟨sic_raise, rfl⟩
    | ret _ => exact .inr ⟨sic_return, rfl⟩
  | iff _ _ => exact .inr ⟨sic_if, rfl⟩
  | whl _ => exact .inr ⟨sic_while, rfl⟩
  | undo _ _ => exact .inr ⟨sic_undo, rfl⟩
  | tr _ _ _ => exact .inr ⟨sic_try, rfl⟩
  | wth _ _ _ _ _ _ => exact .inr ⟨sic_with, rfl⟩
section
variable {P : Program} {w : World} {K : PySem.W.Frag} {mg : Str → Option Value} {base : Heap} {a : Ads}
theorem sc_assigned_by : FnScope ["statement"] ["statement"] (defScope s_assigned_by) := ⟨rfl, rfl, rfl, by decide +kernel, rfl, by decide +kernel, by decide +kernel⟩
theorem ok_assigned_by (T : Txt K mg a) : FnOk P w K mg base CX0 1 a.f_assigned_by a.f_assigned_by_d ["statement"] spAsgBy := by
  refine T.F_assigned_by.ok sc_assigned_by (fun vs H Q E h => ?_) (fun cdv A outer s H vs Q E hr h => ?_)
  · obtain ⟨v, s, rfl, _⟩ := h
    rfl
  obtain ⟨v, st, rfl, hv, q⟩ := h
  refine ⟨_, (pss_cons (ps_if (pt_cmpR op_in_seq (pe_ix ix_tup (pv 0) pe_int (fun _ _ => rfl)) (pe_tup (pa_cons pe_str (pa_cons pe_str (pa_cons pe_str pa_nil)))) (by rfl))
      (pss_one (ps_ret (pe_ix ix_tup (pv 0) pe_int (fun _ _ => rfl))))
      pss_nil)
    (pss_one (ps_ret pe_non))), ?_⟩
  rw [dS_is] at hv
  obtain ⟨r, _, rfl, hr0, x0, xs, rfl, hx0, hxs⟩ := hv
  have hx0 : x0 = .str st.word := hx0
  subst hx0
  have fl : sicV.all flatV = true := by decide +kernel
  rcases word_asg st with ⟨hw, t, ps, ep, hu⟩ | ⟨hw, ha⟩
  · refine st_seq (st_yesH (P := fun H' => Same H H') (fun Q q => ⟨_, rfl, r, _, _, _, rfl, rfl, .inl (.inl hr0), atI_nat (j := 0) rfl, (by show 3 ≤ sizeLine; decide), fun c nc => ⟨c, sicV, rfl, .inr (.inl (.inl upd_same)), rfl, fl, _, rfl, ?_⟩⟩) (fun H' s' => ?_))
    · rw [hw]
      exact q _ (same_upd nc)
    · rw [ep] at hxs
      obtain ⟨u, us, rfl, hu0, _⟩ := hxs
      have := hu _ _ hu0
      subst this
      exact ⟨_, rfl, r, _, _, _, rfl, rfl, .inl (.inl (s' _ _ hr0)), atI_nat (j := 1) rfl, q H' s'⟩
  · refine st_seq (st_noH (P := fun H' => Same H H') (fun Q q => ⟨_, rfl, r, _, _, _, rfl, rfl, .inl (.inl hr0), atI_nat (j := 0) rfl, (by show 3 ≤ sizeLine; decide), fun c nc => ⟨c, sicV, rfl, .inr (.inl (.inl upd_same)), rfl, fl, _, rfl, ?_⟩⟩) (fun H' s' => ?_))
    · rw [hw]
      exact q _ (same_upd nc)
    · rw [ha] at q
      exact q H' s'
end
end K10
namespace K10
open PySem PySem.Spec PyProof.Rows L2 TL
def spLocals : Sp := fun vs H Q _ => ∃ (v1 v2 : V) (gs : List Str) (f : FnT), vs = [v1, v2] ∧ Dv H v1 (dNs gs) ∧ Dv H v2 (dFn f) ∧ gs.length ≤ 1000 ∧ f.ps.length ≤ 1000 ∧ f.bk.F ∧ f.bk.ht ≤ 7 ∧ f.bk.sz ≤ 1000 ∧
  ∀ (H' : Hp) (L : Addr), Same H H' → H L = none → H' L = some (.lst ((localsT gs f).map V.str)) → Q (.ref L) H'
/-- the first of two -/
def fstD : D → D
  | .tup (.cons d _) => d
  | d => d
theorem inV_strs (v : Str) (ys : List Str) : inV (.str v) (ys.map V.str) = decide (v ∈ ys) := by
  cases e : inV (.str v) (ys.map V.str) with
  | true =>
    unfold inV at e
    obtain ⟨y, hy, he⟩ := List.any_eq_true.mp e
    obtain ⟨z, hz, rfl⟩ := List.mem_map.mp hy
    have ez : z = v := eq_of_beq (show (z == v) = true from he)
    rw [← ez]
    exact (decide_eq_true hz).symm
  | false =>
    refine (decide_eq_false fun hm => ?_).symm
    have : inV (.str v) (ys.map V.str) = true := by
      unfold inV
      exact List.any_eq_true.mpr ⟨.str v, List.mem_map.mpr ⟨v, hm, rfl⟩, (beq_self_eq_true v : (v == v) = true)⟩
    rw [e] at this
    cases this
theorem loc_len : ∀ (l : List TS) (st : List Str × List Str), (l.foldl locStep st).1.length ≤ st.1.length + l.length ∧ (l.foldl locStep st).2.length ≤ st.2.length + l.length
  | [], st => ⟨Nat.le_refl _, Nat.le_refl _⟩
  | s :: r, st => by
    have ih := loc_len r (locStep st s)
    have h : (locStep st s).1.length ≤ st.1.length + 1 ∧ (locStep st s).2.length ≤ st.2.length + 1 := by
      unfold locStep
      split
      · split
        · exact ⟨Nat.le_add_right _ _, Nat.le_add_right _ _⟩
        · exact ⟨by rw [List.length_append]; exact Nat.le_refl _, by rw [List.length_append]; exact Nat.le_refl _⟩
      · exact ⟨Nat.le_add_right _ _, Nat.le_add_right _ _⟩
    rw [List.foldl_cons, List.length_cons]
    omega
section
variable {P : Program} {w : World} {K : PySem.W.Frag} {mg : Str → Option Value} {base : Heap} {a : Ads}
theorem sc_locals_of : FnScope ["shared", "function", "names", "found", "statement", "_", "params", "block", "name"] ["shared", "function"] (defScope s_locals_of) := ⟨rfl, rfl, rfl, by decide +kernel, rfl, by decide +kernel, by decide +kernel⟩
theorem ok_locals_of (T : Txt K mg a) {tS tU tF : Addr} (B : Tabs K w mg a tS tU tF) : FnOk P w K mg base CX0 11 a.f_locals_of a.f_locals_of_d ["shared", "function"] spLocals := by
  refine T.F_locals_of.ok sc_locals_of (fun vs H Q E h => ?_) (fun cdv A outer s H vs Q E hr h => ?_)
  · obtain ⟨v1, v2, gs, f, rfl, _⟩ := h
    rfl
  obtain ⟨v1, v2, gs, f, rfl, hv1, hv2, hgl, hpl, hF, hht, hsz, q⟩ := h
  refine ⟨_, (pss_cons (ps_asg (pv 1) (pg_tup (by rfl) (pgs_cons (pg_name (i := 5) sc_locals_of.nd rfl (Or.inl rfl)) (pgs_cons (pg_name (i := 6) sc_locals_of.nd rfl (Or.inl rfl)) (pgs_cons (pg_name (i := 7) sc_locals_of.nd rfl (Or.inl rfl)) pgs_nil)))))
    (pss_cons (ps_set (i := 2) sc_locals_of.nd rfl (Or.inl rfl) (pe_op op_cat (pe_callTy call_list_of (by rfl) T.list (by decide +kernel) (pa_cons (pv 0) pa_nil)) (pe_lc (own := [("name", 8), ("_", 5)]) (g := gTup K 2 (gCons (gName 8) (gCons (gName 5) gNil))) (tt := tYes) (by rfl) sc_locals_of.nd (pi_tup (pv 6)) (blkOk_by (own := [("name", 8), ("_", 5)]) (N := ["shared", "function", "names", "found", "statement", "_", "params", "block", "name"]) (sc := defScope s_locals_of) (by decide +kernel)) (fun _ _ _ _ _ => pg_tup (by rfl) (pgs_cons (pg_name (i := 8) sc_locals_of.nd rfl (Or.inl rfl)) (pgs_cons (pg_name (i := 5) sc_locals_of.nd rfl (Or.inl rfl)) pgs_nil))) (fun _ _ _ _ _ => pts_nil) (fun _ _ _ _ _ => (pv 8)))))
    (pss_cons (ps_set (i := 3) sc_locals_of.nd rfl (Or.inl rfl) (pe_lst pa_nil))
    (pss_cons (ps_for PassesOwn.never rfl (pi_list (pe_call (ok_listed T B 8) (hr.mono (by decide)) (by rfl) T.g_listed T.F_listed.kp T.b_listed .nil pass0 (pa_cons (pv 7) pa_nil))) (pg_name (i := 4) sc_locals_of.nd rfl (Or.inl rfl))
      (pss_cons (ps_set (i := 8) sc_locals_of.nd rfl (Or.inl rfl) (pe_call (ok_assigned_by T) (hr.mono (by decide)) (by rfl) T.g_assigned_by T.F_assigned_by.kp T.b_assigned_by .nil pass0 (pa_cons (pv 4) pa_nil)))
      (pss_one (ps_if (PW.pt (pw_and (pt_cmpR op_notN (pv 8) pe_non (nomark _)) (pw_and1 (pt_cmpR op_notIn_seq (pv 8) (pv 2) (by rfl)))))
        (pss_cons (ps_expr (pe_bm PySem.F.plainAttrs_list PySem.F.slot_list_append PySem.F.type_list_append mt_append (pv 2) (pa_cons (pv 8) pa_nil)))
        (pss_one (ps_expr (pe_bm PySem.F.plainAttrs_list PySem.F.slot_list_append PySem.F.type_list_append mt_append (pv 3) (pa_cons (pv 8) pa_nil)))))
        pss_nil))))
    (pss_one (ps_ret (pv 3))))))), ?_⟩
  obtain ⟨p1, rfl, hp1⟩ := hv1.strs
  obtain ⟨r2, _, rfl, hr2, x1, _, rfl, hx1, x2, _, rfl, hx2, x3, _, rfl, hx3, rfl⟩ := hv2
  obtain ⟨rp, xs, rfl, hrp, hxs⟩ := hx2
  refine st_seq ⟨_, rfl, r2, _, rfl, .inl (.inl hr2), rfl, x1, _, rfl, .ref rp, _, rfl, x3, [], rfl, rfl, ?_⟩
  dsimp only [gName]
  refine st_seq ⟨_, rfl, p1, _, rfl, .inr (.inl (.inl hp1)), fun A1 nA1 => ?_⟩
  have sA := same_upd (o := .lst (gs.map V.str)) nA1
  have hA : (upd H A1 (.lst (gs.map V.str))) A1 = some (.lst (gs.map V.str)) := upd_same
  generalize upd H A1 (.lst (gs.map V.str)) = H1 at sA hA
  refine ⟨_, rfl, rp, rfl, ⟨_, .inl (.inl (sA _ _ hrp))⟩, fun M nM => lc_tupD (fun _ => true) fstD nM (sA _ _ hrp) (hxs.mono (TK.of sA)) (by rw [List.length_map]; omega) (fun x d H' Q M' hd hxd s1 hy _ => ?_) (fun H2 zs s2 hM hz => ?_)⟩
  · obtain ⟨e, he, rfl⟩ := List.mem_map.mp hd
    obtain ⟨r3, _, rfl, hr3, a1, _, rfl, ha1, a2, _, rfl, _, rfl⟩ := hxd
    exact ⟨r3, _, rfl, .inl (.inl hr3), rfl, a1, _, rfl, a2, [], rfl, rfl, rfl, _, rfl, hy rfl _ H' (Same.refl _) ha1⟩
  rw [filter_yes, List.map_map] at hz
  have hz2 : zs = (f.ps.map (·.1)).map V.str := by
    have : Dvs H2 zs (DL.of ((f.ps.map (·.1)).map D.str)) := by
      rw [List.map_map]
      exact hz
    exact this.strs
  subst hz2
  refine ⟨A1, M, _, _, rfl, rfl, s2 _ _ hA, hM, bigLe (by rw [List.length_map, List.length_map, List.length_map]; omega), fun N nN => ?_⟩
  have sN := same_upd (o := .lst (gs.map V.str ++ (f.ps.map (·.1)).map V.str)) nN
  have hN : (upd H2 N (.lst (gs.map V.str ++ (f.ps.map (·.1)).map V.str))) N = some (.lst ((gs ++ f.ps.map (·.1)).map V.str)) := by rw [upd_same, List.map_append]
  generalize upd H2 N (.lst (gs.map V.str ++ (f.ps.map (·.1)).map V.str)) = H3 at sN hN
  have s03 := (sA.trans s2).trans sN
  have nN0 : H N = none := (sA.trans s2).free nN
  dsimp only [gName]
  refine st_seq ⟨Nat.zero_le _, fun R nR => ?_⟩
  have sR := same_upd (o := .lst []) nR
  have hR : (upd H3 R (.lst [])) R = some (.lst []) := upd_same
  have hNR : N ≠ R := ne_of_none hN nR
  have hN' := sR _ _ hN
  have nR0 : H R = none := s03.free nR
  generalize upd H3 R (.lst []) = H4 at sR hR hN'
  have s04 := s03.trans sR
  dsimp only [gName]
  have hx3' : Dv H4 x3 (dBk f.bk) := hx3.mono (TK.of s04)
  refine st_seq ⟨_, rfl, x3, f.bk, rfl, hx3', hF, hht, by omega, fun H5 L ls s5 nL hL hls => ?_⟩
  have hNL : N ≠ L := ne_of_none hN' nL
  have hRL : R ≠ L := ne_of_none hR nL
  have hll := hls.len
  rw [List.length_map] at hll
  have hlb := list_szB f.bk
  refine ⟨L, rfl, ⟨_, SqL.of hL⟩, for_list (K := K) (a := L) (xs := ls) (fun i σ H' => ∃ (v4 v8 : Option V), σ = [some (.ref p1), some (.ref r2), some (.ref N), some (.ref R), v4, some x1, some (.ref rp), some x3, v8] ∧ Same H H' ∧ H' L = some (.lst ls) ∧ H' N = some (.lst ((((listB f.bk).take i).foldl locStep (gs ++ f.ps.map (·.1), [])).1.map V.str)) ∧ H' R = some (.lst ((((listB f.bk).take i).foldl locStep (gs ++ f.ps.map (·.1), [])).2.map V.str)) ∧ Dvs H' ls (DL.of ((listB f.bk).map dS)))
    ⟨none, none, rfl, s04.trans s5, hL, s5 _ _ hN', s5 _ _ hR, hls⟩ (fun i σ H' _ ⟨_, _, _, _, h, _⟩ => SqL.of h) ?_ ?_⟩
  · rintro i x σ H6 hi ⟨v4, v8, rfl, s6, hL6, hN6, hR6, hls6⟩
    obtain ⟨d, hd, hxd⟩ := hls6.get hi
    obtain ⟨st, hst, rfl⟩ := get_map hd
    have et : ((listB f.bk).take (i + 1)).foldl locStep (gs ++ f.ps.map (·.1), []) = locStep (((listB f.bk).take i).foldl locStep (gs ++ f.ps.map (·.1), [])) st := by
      rw [List.take_add_one, hst, List.foldl_append]
      rfl
    have hb := loc_len ((listB f.bk).take i) (gs ++ f.ps.map (·.1), [])
    rw [List.length_take, List.length_append, List.length_map] at hb
    have hb2 : ([] : List Str).length = 0 := rfl
    generalize ((listB f.bk).take i).foldl locStep (gs ++ f.ps.map (·.1), []) = ab at hN6 hR6 et hb
    obtain ⟨as, bs⟩ := ab
    dsimp only at hN6 hR6 hb
    dsimp only [gName]
    refine st_seq ⟨_, rfl, x, st, rfl, hxd, fun H7 s7 => ?_⟩
    have hN7 := s7 _ _ hN6
    have hR7 := s7 _ _ hR6
    have hL7 := s7 _ _ hL6
    dsimp only [gName]
    cases ea : st.asg with
    | none =>
      have ev : asgV st = .non := by unfold asgV; rw [ea]
      rw [ev]
      refine st_no (ans_and0 (ans_notN (val_var rfl) (by rw [decide_eq_true rfl]; rfl))) ?_
      have e2 : locStep (as, bs) st = (as, bs) := by unfold locStep; rw [ea]
      refine ⟨_, _, rfl, s6.trans s7, hL7, by rw [et, e2]; exact hN7, by rw [et, e2]; exact hR7, hls6.mono (TK.of s7)⟩
    | some z =>
      have ev : asgV st = .str z := by unfold asgV; rw [ea]
      rw [ev]
      have e2 : locStep (as, bs) st = if z ∈ as then (as, bs) else (as ++ [z], bs ++ [z]) := by unfold locStep; rw [ea]
      refine st_ite (b := !decide (z ∈ as)) (ans_and (ans_notN (val_var rfl) (by rw [decide_eq_false (fun z => by cases z)]; rfl)) (fun Q q => ⟨_, rfl, _, rfl, N, _, rfl, .inl (SqL.of hN7), rfl, flat_strs as, _, rfl, by rw [if_pos rfl, inV_strs]; exact q⟩)) (fun e => ?_) (fun e => ?_)
      · have hz : z ∉ as := fun hm => by rw [decide_eq_true hm] at e; cases e
        rw [if_neg hz] at e2
        refine st_seq ⟨_, rfl, .inl ⟨rfl, _, SqL.of hN7⟩, _, rfl, N, _, _, rfl, rfl, hN7, bigLine (by rw [List.length_map]; omega), ?_⟩
        dsimp only
        have hR8 : (upd H7 N (.lst (as.map V.str ++ [.str z]))) R = some (.lst (bs.map V.str)) := by rw [upd_ne hNR.symm]; exact hR7
        refine ⟨_, rfl, .inl ⟨rfl, _, SqL.of hR8⟩, _, rfl, R, _, _, rfl, rfl, hR8, bigLine (by rw [List.length_map]; omega), ?_⟩
        have t1 : TK H7 (upd H7 N (.lst (as.map V.str ++ [.str z]))) := TK.upd hN7 (fun _ z => by cases z)
        have t2 : TK (upd H7 N (.lst (as.map V.str ++ [.str z]))) (upd (upd H7 N (.lst (as.map V.str ++ [.str z]))) R (.lst (bs.map V.str ++ [.str z]))) := TK.upd hR8 (fun _ z => by cases z)
        refine ⟨_, _, rfl, same_mut (same_mut (s6.trans s7) nN0) nR0, by rw [upd_ne hRL.symm, upd_ne hNL.symm]; exact hL7, ?_, ?_, hls6.mono (((TK.of s7).trans t1).trans t2)⟩
        · rw [upd_ne hNR, upd_same, et, e2, List.map_append]
          rfl
        · rw [upd_same, et, e2, List.map_append]
          rfl
      · have hz : z ∈ as := by
          cases h : decide (z ∈ as) with
          | true => exact of_decide_eq_true h
          | false => rw [h] at e; cases e
        rw [if_pos hz] at e2
        exact ⟨_, _, rfl, s6.trans s7, hL7, by rw [et, e2]; exact hN7, by rw [et, e2]; exact hR7, hls6.mono (TK.of s7)⟩
  · rintro σ H6 ⟨v4, v8, rfl, s6, hL6, hN6, hR6, hls6⟩
    rw [hll, List.take_length] at hR6
    exact ⟨_, rfl, q H6 R s6 nR0 hR6⟩
end
end K10
namespace K10
open PySem PySem.Spec PyProof.Rows L2 TL
theorem bigLine2 {n : Nat} (h : n ≤ 10000000) : n < sizeLine := Nat.lt_of_le_of_lt h (by decide)
theorem bigLe2 {n : Nat} (h : n ≤ 10000000) : n ≤ sizeLine := Nat.le_of_lt (bigLine2 h)
theorem two_le : (2 : Nat) ≤ sizeLine := by decide
theorem one_le : (1 : Nat) ≤ sizeLine := by decide
/-- a walk over a tuple, over a list, within a comprehension -/
theorem it_tup {K : PySem.W.Frag} {a : Addr} {xs : List V} {H0 : Hp} {Qd : Hp → Prop} {B : (Hp → Prop) → V → Hp → Prop} (Pv : Nat → Hp → Prop) (h0 : Pv 0 H0) (hl : ∀ i H, i ≤ xs.length → Pv i H → SqT K H a xs)
    (hs : ∀ i x H, xs[i]? = some x → Pv i H → B (Pv (i + 1)) x H) (hd : ∀ H, Pv xs.length H → Qd H) :
    ∃ W : Nat → Nat → Hp → Prop, (∃ m, W 0 m H0) ∧ ∀ i m H, W i m H →
      ((Itt K a).stop i H ∧ Qd H) ∨ ((Itt K a).go i H ∧ ∃ Nx : Hp → Prop, (∀ H', Nx H' → ∃ m', m' < m ∧ W (i + 1) m' H') ∧ ∀ x H', (Itt K a).yld i H x H' → B Nx x H') := by
  refine ⟨fun i m H => m = xs.length - i ∧ i ≤ xs.length ∧ Pv i H, ⟨xs.length, by simp, Nat.zero_le _, h0⟩, ?_⟩
  rintro i m H ⟨rfl, hi, p⟩
  have q := hl i H hi p
  by_cases hlt : i < xs.length
  · refine .inr ⟨⟨xs, xs[i], q, by simp [hlt]⟩, Pv (i + 1), fun H' p' => ⟨xs.length - (i + 1), by omega, rfl, hlt, p'⟩, fun x H' y => ?_⟩
    obtain ⟨e, y⟩ := y
    subst e
    exact hs i x _ (y xs q) p
  · have e : i = xs.length := by omega
    subst e
    exact .inl ⟨⟨xs, q, Nat.le_refl _⟩, hd H p⟩
theorem it_lst {K : PySem.W.Frag} {a : Addr} {xs : List V} {H0 : Hp} {Qd : Hp → Prop} {B : (Hp → Prop) → V → Hp → Prop} (Pv : Nat → Hp → Prop) (h0 : Pv 0 H0) (hl : ∀ i H, i ≤ xs.length → Pv i H → SqL K H a xs)
    (hs : ∀ i x H, xs[i]? = some x → Pv i H → B (Pv (i + 1)) x H) (hd : ∀ H, Pv xs.length H → Qd H) :
    ∃ W : Nat → Nat → Hp → Prop, (∃ m, W 0 m H0) ∧ ∀ i m H, W i m H →
      ((Itl K a).stop i H ∧ Qd H) ∨ ((Itl K a).go i H ∧ ∃ Nx : Hp → Prop, (∀ H', Nx H' → ∃ m', m' < m ∧ W (i + 1) m' H') ∧ ∀ x H', (Itl K a).yld i H x H' → B Nx x H') := by
  refine ⟨fun i m H => m = xs.length - i ∧ i ≤ xs.length ∧ Pv i H, ⟨xs.length, by simp, Nat.zero_le _, h0⟩, ?_⟩
  rintro i m H ⟨rfl, hi, p⟩
  have q := hl i H hi p
  by_cases hlt : i < xs.length
  · refine .inr ⟨⟨xs, xs[i], q, by simp [hlt]⟩, Pv (i + 1), fun H' p' => ⟨xs.length - (i + 1), by omega, rfl, hlt, p'⟩, fun x H' y => ?_⟩
    obtain ⟨e, y⟩ := y
    subst e
    exact hs i x _ (y xs q) p
  · have e : i = xs.length := by omega
    subst e
    exact .inl ⟨⟨xs, q, Nat.le_refl _⟩, hd H p⟩
/-! ### the uses of names -/
def dU (u : Str × Str) : D := tp [.str u.1, .str u.2]
def spUse (k : Part → Prop) : Sp := fun vs H Q _ => ∃ (v : V) (p : Part), vs = [v] ∧ k p ∧ Dv H v p.d ∧ p.F ∧ ∀ (H' : Hp) (L : Addr) (xs : List V), Same H H' → H L = none → H' L = some (.lst xs) → Dvs H' xs (DL.of (p.uses.map dU)) → Q (.ref L) H'
def isTgt (p : Part) : Prop := ∃ o, p = .tgt o
def isSum (p : Part) : Prop := ∃ e, p = .sum e
def isVars (p : Part) : Prop := ∃ vs, p = .vars vs
def isKnds (p : Part) : Prop := ∃ ks, (p = .knds ks ∨ p = .swal ks) ∧ NsF ks
def isHds (p : Part) : Prop := ∃ h, p = .hds h
def isArgs (p : Part) : Prop := ∃ as, p = .args as
def isMade (p : Part) : Prop := ∃ f as, p = .made f as
def mkU (x : Str) : D → D
  | .str s => tp [.str x, .str s]
  | d => d
def mkT (x : Str) : D → D
  | .tup (.cons (.str s) _) => tp [.str x, .str s]
  | d => d
theorem mkU_is (x : Str) (ns : List Str) : (ns.map D.str).map (mkU x) = (ns.map fun v => (x, v)).map dU := by
  rw [List.map_map, List.map_map]
  rfl
theorem mkT_is (ts : List (Str × Int)) : (ts.map dTm).map (mkT "variable") = (ts.map fun t => vr t.1).map dU := by
  rw [List.map_map, List.map_map]
  rfl
theorem Dv.of_u {H : Hp} {t : Addr} {x z : Str} (h : H t = some (.tup [.str x, .str z])) : Dv H (.ref t) (tp [.str x, .str z]) := ⟨t, _, rfl, h, _, _, rfl, rfl, _, _, rfl, rfl, rfl⟩
theorem ar_uses_le {as : List Ar} (h : ArsF as) : (as.flatMap arUses).length ≤ 1000000 := by
  refine Nat.le_trans (flat_le (m := 1000) fun x hx => ?_) (by have := h.len; omega)
  have := h.ok x hx
  cases x with
  | pla v => show 1 ≤ 1000; decide
  | val e => show (e.2.map _).length ≤ 1000; rw [List.length_map]; exact Nat.le_trans (SumF.len this) (by decide)
theorem uses_le {p : Part} (h : p.F) : p.uses.length ≤ 1000001 := by
  cases p with
  | var _ => show 1 ≤ _; decide
  | sum e => show (e.2.map _).length ≤ _; rw [List.length_map]; exact Nat.le_trans (SumF.len h) (by decide)
  | tgt o => cases o with
    | none => exact Nat.zero_le _
    | some _ => show 1 ≤ _; decide
  | fn _ => show 1 ≤ _; decide
  | args as => exact Nat.le_succ_of_le (ar_uses_le h)
  | blk _ => exact Nat.zero_le _
  | knds ks => show (ks.map _).length ≤ _; rw [List.length_map]; exact Nat.le_trans (NsF.len h.2) (by decide)
  | knd _ => show 1 ≤ _; decide
  | hds hs =>
    refine Nat.le_trans (flat_le (m := 1000) fun x hx => ?_) (by have := h.1; omega)
    rw [List.length_map]
    exact (TH.f_mem h.2 hx).2.1.len
  | vars vs => show (vs.map _).length ≤ _; rw [List.length_map]; exact Nat.le_trans (NsF.len h.2) (by decide)
  | made f as =>
    show ((as.flatMap arUses).length + 1 : Nat) ≤ _
    have := ar_uses_le h.2
    omega
  | swal ks => show (ks.map _).length ≤ _; rw [List.length_map]; exact Nat.le_trans (NsF.len h) (by decide)
section
variable {P : Program} {w : World} {K : PySem.W.Frag} {mg : Str → Option Value} {base : Heap} {a : Ads}
theorem sc_uses_of_target : FnScope ["part"] ["part"] (defScope s_uses_of_target) := ⟨rfl, rfl, rfl, by decide +kernel, rfl, by decide +kernel, by decide +kernel⟩
theorem ok_uses_of_target (T : Txt K mg a) : FnOk P w K mg base CX0 1 a.f_uses_of_target a.f_uses_of_target_d ["part"] (spUse isTgt) := by
  refine T.F_uses_of_target.ok sc_uses_of_target (fun vs H Q E h => ?_) (fun cdv A outer s H vs Q E hr h => ?_)
  · obtain ⟨v, p, rfl, _⟩ := h
    rfl
  obtain ⟨v, p, rfl, ⟨o, rfl⟩, hv, _, q⟩ := h
  refine ⟨_, (pss_one (ps_ret (pe_ifExp (pt_cmpR op_isN (pv 0) pe_non (nomark _)) (pe_lst pa_nil) (pe_lst (pa_cons (pe_tup (pa_cons pe_str (pa_cons (pv 0) pa_nil))) pa_nil))))), ?_⟩
  cases o with
  | none =>
    have hv : v = .non := hv
    subst hv
    exact ⟨_, rfl, rfl, _, rfl, ite2 (fun _ => ⟨Nat.zero_le _, fun N nN => q _ N [] (same_upd nN) nN upd_same rfl⟩) (fun e => absurd (decide_eq_true rfl) e)⟩
  | some z =>
    have hv : v = .str z := hv
    subst hv
    refine ⟨_, rfl, rfl, _, rfl, ite2 (fun e => absurd (of_decide_eq_true e) (fun h => by cases h)) (fun _ => ⟨_, rfl, two_le, fun t nt => ⟨one_le, fun N nN => ?_⟩⟩)⟩
    have st := same_upd (o := .tup [.str "variable", .str z]) nt
    have sN := same_upd (o := .lst [.ref t]) nN
    exact q _ N [.ref t] (st.trans sN) (st.free nN) upd_same ⟨.ref t, [], rfl, Dv.of_u (sN _ _ upd_same), rfl⟩
theorem sc_uses_of_sum : FnScope ["part", "name", "_"] ["part"] (defScope s_uses_of_sum) := ⟨rfl, rfl, rfl, by decide +kernel, rfl, by decide +kernel, by decide +kernel⟩
theorem ok_uses_of_sum (T : Txt K mg a) : FnOk P w K mg base CX0 1 a.f_uses_of_sum a.f_uses_of_sum_d ["part"] (spUse isSum) := by
  refine T.F_uses_of_sum.ok sc_uses_of_sum (fun vs H Q E h => ?_) (fun cdv A outer s H vs Q E hr h => ?_)
  · obtain ⟨v, p, rfl, _⟩ := h
    rfl
  obtain ⟨v, p, rfl, ⟨e, rfl⟩, hv, hF, q⟩ := h
  refine ⟨_, (pss_one (ps_ret (pe_lc (own := [("name", 1), ("_", 2)]) (g := gTup K 2 (gCons (gName 1) (gCons (gName 2) gNil))) (tt := tYes) (by rfl) sc_uses_of_sum.nd (pi_tup (pe_ix ix_tup (pv 0) pe_int (fun _ _ => rfl))) (blkOk_by (own := [("name", 1), ("_", 2)]) (N := ["part", "name", "_"]) (sc := defScope s_uses_of_sum) (by decide +kernel)) (fun _ _ _ _ _ => pg_tup (by rfl) (pgs_cons (pg_name (i := 1) sc_uses_of_sum.nd rfl (Or.inl rfl)) (pgs_cons (pg_name (i := 2) sc_uses_of_sum.nd rfl (Or.inl rfl)) pgs_nil))) (fun _ _ _ _ _ => pts_nil) (fun _ _ _ _ _ => (pe_tup (pa_cons pe_str (pa_cons (pv 1) pa_nil))))))), ?_⟩
  obtain ⟨r, _, rfl, hr0, _, _, rfl, _, x2, _, rfl, hx2, rfl⟩ := hv
  obtain ⟨pt, xs, rfl, hpt, hxs⟩ := hx2
  refine ⟨_, rfl, r, _, _, _, rfl, rfl, .inl (.inl hr0), atI_nat (j := 1) rfl, pt, rfl, ⟨_, .inl (.inl hpt)⟩, fun N nN => lc_tupD (fun _ => true) (mkT "variable") nN hpt hxs (by rw [List.length_map]; exact Nat.le_trans (SumF.len hF) (by decide)) (fun x d H' Q M' hd hxd s1 hy _ => ?_) (fun H2 zs s2 hN hz => ?_)⟩
  · obtain ⟨t, ht, rfl⟩ := List.mem_map.mp hd
    obtain ⟨r3, _, rfl, hr3, a1, _, rfl, ha1, a2, _, rfl, _, rfl⟩ := hxd
    have ha1 : a1 = .str t.1 := ha1
    subst ha1
    exact ⟨r3, _, rfl, .inl (.inl hr3), rfl, _, _, rfl, a2, [], rfl, rfl, rfl, _, rfl, two_le, fun t nt => hy rfl _ _ (same_upd nt) (Dv.of_u upd_same)⟩
  · rw [filter_yes, mkT_is] at hz
    exact q H2 N zs s2 nN hN hz
theorem sc_uses_of_variables : FnScope ["part", "name"] ["part"] (defScope s_uses_of_variables) := ⟨rfl, rfl, rfl, by decide +kernel, rfl, by decide +kernel, by decide +kernel⟩
theorem ok_uses_of_variables (T : Txt K mg a) : FnOk P w K mg base CX0 1 a.f_uses_of_variables a.f_uses_of_variables_d ["part"] (spUse isVars) := by
  refine T.F_uses_of_variables.ok sc_uses_of_variables (fun vs H Q E h => ?_) (fun cdv A outer s H vs Q E hr h => ?_)
  · obtain ⟨v, p, rfl, _⟩ := h
    rfl
  obtain ⟨v, p, rfl, ⟨ns, rfl⟩, hv, hF, q⟩ := h
  refine ⟨_, (pss_one (ps_ret (pe_lc (own := [("name", 1)]) (g := gName 1) (tt := tYes) (by rfl) sc_uses_of_variables.nd (pi_tup (pv 0)) (blkOk_by (own := [("name", 1)]) (N := ["part", "name"]) (sc := defScope s_uses_of_variables) (by decide +kernel)) (fun _ _ _ _ _ => pg_name (i := 1) sc_uses_of_variables.nd rfl (Or.inl rfl)) (fun _ _ _ _ _ => pts_nil) (fun _ _ _ _ _ => (pe_tup (pa_cons pe_str (pa_cons (pv 1) pa_nil))))))), ?_⟩
  obtain ⟨pt, xs, rfl, hpt, hxs⟩ := hv
  refine ⟨_, rfl, pt, rfl, ⟨_, .inl (.inl hpt)⟩, fun N nN => lc_tupD (fun _ => true) (mkU "variable") nN hpt hxs (by rw [List.length_map]; exact Nat.le_trans (NsF.len hF.2) (by decide)) (fun x d H' Q M' hd hxd s1 hy _ => ?_) (fun H2 zs s2 hN hz => ?_)⟩
  · obtain ⟨z, _, rfl⟩ := List.mem_map.mp hd
    have hxd : x = .str z := hxd
    subst hxd
    exact ⟨rfl, _, rfl, two_le, fun t nt => hy rfl _ _ (same_upd nt) (Dv.of_u upd_same)⟩
  · rw [filter_yes, mkU_is] at hz
    exact q H2 N zs s2 nN hN hz
theorem sc_uses_of_kinds : FnScope ["part", "name"] ["part"] (defScope s_uses_of_kinds) := ⟨rfl, rfl, rfl, by decide +kernel, rfl, by decide +kernel, by decide +kernel⟩
theorem ok_uses_of_kinds (T : Txt K mg a) : FnOk P w K mg base CX0 1 a.f_uses_of_kinds a.f_uses_of_kinds_d ["part"] (spUse isKnds) := by
  refine T.F_uses_of_kinds.ok sc_uses_of_kinds (fun vs H Q E h => ?_) (fun cdv A outer s H vs Q E hr h => ?_)
  · obtain ⟨v, p, rfl, _⟩ := h
    rfl
  obtain ⟨v, p, rfl, ⟨ns, hp, hF⟩, hv, _, q⟩ := h
  refine ⟨_, (pss_one (ps_ret (pe_lc (own := [("name", 1)]) (g := gName 1) (tt := tYes) (by rfl) sc_uses_of_kinds.nd (pi_tup (pv 0)) (blkOk_by (own := [("name", 1)]) (N := ["part", "name"]) (sc := defScope s_uses_of_kinds) (by decide +kernel)) (fun _ _ _ _ _ => pg_name (i := 1) sc_uses_of_kinds.nd rfl (Or.inl rfl)) (fun _ _ _ _ _ => pts_nil) (fun _ _ _ _ _ => (pe_tup (pa_cons pe_str (pa_cons (pv 1) pa_nil))))))), ?_⟩
  obtain ⟨hpd, hpu⟩ : p.d = dNs ns ∧ p.uses = ns.map kn := by rcases hp with rfl | rfl <;> exact ⟨rfl, rfl⟩
  rw [hpd] at hv
  rw [hpu] at q
  obtain ⟨pt, xs, rfl, hpt, hxs⟩ := hv
  refine ⟨_, rfl, pt, rfl, ⟨_, .inl (.inl hpt)⟩, fun N nN => lc_tupD (fun _ => true) (mkU "kind") nN hpt hxs (by rw [List.length_map]; exact Nat.le_trans (NsF.len hF) (by decide)) (fun x d H' Q M' hd hxd s1 hy _ => ?_) (fun H2 zs s2 hN hz => ?_)⟩
  · obtain ⟨z, _, rfl⟩ := List.mem_map.mp hd
    have hxd : x = .str z := hxd
    subst hxd
    exact ⟨rfl, _, rfl, two_le, fun t nt => hy rfl _ _ (same_upd nt) (Dv.of_u upd_same)⟩
  · rw [filter_yes, mkU_is] at hz
    exact q H2 N zs s2 nN hN hz
theorem sc_uses_of_handlers : FnScope ["part", "name", "kinds", "_"] ["part"] (defScope s_uses_of_handlers) := ⟨rfl, rfl, rfl, by decide +kernel, rfl, by decide +kernel, by decide +kernel⟩
theorem ok_uses_of_handlers (T : Txt K mg a) : FnOk P w K mg base CX0 1 a.f_uses_of_handlers a.f_uses_of_handlers_d ["part"] (spUse isHds) := by
  refine T.F_uses_of_handlers.ok sc_uses_of_handlers (fun vs H Q E h => ?_) (fun cdv A outer s H vs Q E hr h => ?_)
  · obtain ⟨v, p, rfl, _⟩ := h
    rfl
  obtain ⟨v, p, rfl, ⟨hs, rfl⟩, hv, hF, q⟩ := h
  refine ⟨_, (pss_one (ps_ret (pe_lc2 (own := [("kinds", 2), ("_", 3), ("name", 1)]) (g := gTup K 2 (gCons (gName 2) (gCons (gName 3) gNil))) (g1 := gName 1) (tt := tYes) (tt1 := tYes) (vs1 := [1]) (by rfl) sc_uses_of_handlers.nd (pi_tup (pv 0)) (blkOk_by (own := [("kinds", 2), ("_", 3), ("name", 1)]) (N := ["part", "name", "kinds", "_"]) (sc := defScope s_uses_of_handlers) (by decide +kernel)) (by decide) (fun _ _ _ _ _ => pg_tup (by rfl) (pgs_cons (pg_name (i := 2) sc_uses_of_handlers.nd rfl (Or.inl rfl)) (pgs_cons (pg_name (i := 3) sc_uses_of_handlers.nd rfl (Or.inl rfl)) pgs_nil))) (fun _ _ _ _ _ => pts_nil) (fun _ _ _ _ _ => (show PI _ _ _ (iTup K (tVar 2)) from (pi_tup (pv 2)))) (fun _ _ _ _ _ => pg_name (i := 1) sc_uses_of_handlers.nd rfl (Or.inl rfl)) (fun _ _ _ _ _ => pts_nil) (fun _ _ _ _ _ => (pe_tup (pa_cons pe_str (pa_cons (pv 1) pa_nil))))))), ?_⟩
  obtain ⟨pt, xs, rfl, hpt, hxs⟩ := hv
  have hxs : Dvs H xs (dH hs) := hxs
  rw [dH_of] at hxs
  have hl := hxs.len
  rw [List.length_map] at hl
  have hul : (hs.L.flatMap fun p => p.1.map kn).length ≤ 1000001 := uses_le (p := .hds hs) hF
  refine ⟨_, rfl, pt, rfl, ⟨_, .inl (.inl hpt)⟩, fun N nN => it_tup (K := K) (a := pt) (xs := xs) (fun i H' => Same H H' ∧ ∃ ys, H' N = some (.lst ys) ∧ Dvs H' ys (DL.of (((hs.L.take i).flatMap fun p => p.1.map kn).map dU))) ⟨same_upd nN, [], upd_same, rfl⟩ (fun i H' _ hh => .inl (.inl (hh.1 _ _ hpt))) ?_ ?_⟩
  · rintro i x H2 hi ⟨s2, ys, hy, hD⟩
    obtain ⟨d, hd, hxd⟩ := (hxs.mono (TK.of s2)).get hi
    obtain ⟨hh, hhi, rfl⟩ := get_map hd
    have et := flat_take (g := fun p : List Str × TB => p.1.map kn) hhi
    obtain ⟨r3, _, rfl, hr3, a1, _, rfl, ha1, a2, _, rfl, _, rfl⟩ := hxd
    obtain ⟨pk, ks, rfl, hpk, hks⟩ := ha1
    have hks := hks.strs
    subst hks
    refine ⟨r3, _, rfl, .inl (.inl hr3), rfl, .ref pk, _, rfl, a2, [], rfl, rfl, rfl, _, rfl, pk, rfl, ⟨_, .inl (.inl hpk)⟩, it_tup (K := K) (a := pk) (xs := hh.1.map V.str) (fun j H' => Same H H' ∧ ∃ zs, H' N = some (.lst zs) ∧ H' pk = some (.tup (hh.1.map V.str)) ∧ Dvs H' zs (DL.of (((hs.L.take i).flatMap (fun p => p.1.map kn) ++ (hh.1.take j).map kn).map dU))) ⟨s2, ys, hy, hpk, by rw [List.take_zero, List.map_nil, List.append_nil]; exact hD⟩ (fun j H' _ ⟨_, _, _, z, _⟩ => .inl (.inl z)) ?_ ?_⟩
    · rintro j y H3 hj ⟨s3, zs, hz, hpk3, hD3⟩
      obtain ⟨z, hz', rfl⟩ := get_map hj
      refine ⟨rfl, _, rfl, two_le, fun t nt => ?_⟩
      have st := same_upd (o := .tup [.str "kind", .str z]) nt
      have hz4 := st _ _ hz
      have tk : TK (upd H3 t (.tup [.str "kind", .str z])) (upd (upd H3 t (.tup [.str "kind", .str z])) N (.lst (zs ++ [.ref t]))) := TK.upd hz4 (fun _ z => by cases z)
      have hzl := hD3.len
      have b1 : ((hs.L.take (i + 1)).flatMap fun p => p.1.map kn).length ≤ (hs.L.flatMap fun p => p.1.map kn).length := flat_take_le
      rw [et, List.length_append, List.length_map] at b1
      have b2 := (List.getElem?_eq_some_iff.mp hz').1
      rw [List.length_map, List.length_append, List.length_map, List.length_take] at hzl
      refine ⟨zs, hz4, bigLine2 (by omega), same_mut (s3.trans st) nN, zs ++ [.ref t], upd_same, tk _ _ (st _ _ hpk3), ?_⟩
      have e1 : (hh.1.take (j + 1)).map kn = (hh.1.take j).map kn ++ [kn z] := by
        rw [List.take_add_one, hz', List.map_append]
        rfl
      rw [e1, ← List.append_assoc, List.map_append]
      exact Dvs.append (hD3.mono ((TK.of st).trans tk)) ⟨.ref t, [], rfl, Dv.of_u (tk _ _ upd_same), rfl⟩
    · rintro H3 ⟨s3, zs, hz, _, hD3⟩
      rw [List.length_map, List.take_length] at hD3
      exact ⟨s3, zs, hz, by rw [et]; exact hD3⟩
  · rintro H2 ⟨s2, ys, hy, hD⟩
    rw [hl, List.take_length] at hD
    exact q H2 N ys s2 nN hy hD
end
end K10
namespace K10
open PySem PySem.Spec PyProof.Rows L2 TL
theorem no_place : decide (V.str (Str.ofString "value") = V.str "place") = false := by decide +kernel
def vkfV : List V := [.str "variable", .str "kind", .str "function"]
theorem vkf_flat : vkfV.all flatV = true := by decide +kernel
section
variable {P : Program} {w : World} {K : PySem.W.Frag} {mg : Str → Option Value} {base : Heap} {a : Ads}
theorem sc_uses_of_args : FnScope ["part", "found", "word", "held"] ["part"] (defScope s_uses_of_args) := ⟨rfl, rfl, rfl, by decide +kernel, rfl, by decide +kernel, by decide +kernel⟩
theorem ok_uses_of_args (T : Txt K mg a) : FnOk P w K mg base CX0 2 a.f_uses_of_args a.f_uses_of_args_d ["part"] (spUse isArgs) := by
  refine T.F_uses_of_args.ok sc_uses_of_args (fun vs H Q E h => ?_) (fun cdv A outer s H vs Q E hr h => ?_)
  · obtain ⟨v, p, rfl, _⟩ := h
    rfl
  obtain ⟨v, p, rfl, ⟨as, rfl⟩, hv, hF, q⟩ := h
  refine ⟨_, (pss_cons (ps_set (i := 1) sc_uses_of_args.nd rfl (Or.inl rfl) (pe_lst pa_nil))
    (pss_cons (ps_for PassesOwn.never rfl (pi_tup (pv 0)) (pg_tup (by rfl) (pgs_cons (pg_name (i := 2) sc_uses_of_args.nd rfl (Or.inl rfl)) (pgs_cons (pg_name (i := 3) sc_uses_of_args.nd rfl (Or.inl rfl)) pgs_nil)))
      (pss_one (ps_expr (pe_bm PySem.F.plainAttrs_list PySem.F.slot_list_extend PySem.F.type_list_extend mt_extend (pv 1) (pa_cons (pe_ifExp (pt_cmpR op_eq (pv 2) pe_str (nomark _)) (pe_lst (pa_cons (pe_tup (pa_cons pe_str (pa_cons (pv 3) pa_nil))) pa_nil)) (pe_call (ok_uses_of_sum T) (hr.mono (by decide)) (by rfl) T.g_uses_of_sum T.F_uses_of_sum.kp T.b_uses_of_sum .nil pass0 (pa_cons (pv 3) pa_nil))) pa_nil)))))
    (pss_one (ps_ret (pv 1))))), ?_⟩
  obtain ⟨pt, xs, rfl, hpt, hxs⟩ := hv
  have hl := hxs.len
  rw [List.length_map] at hl
  have hF : ArsF as := hF
  have hal := ar_uses_le hF
  refine ⟨Nat.zero_le _, fun N nN => ?_⟩
  have sN := same_upd (o := .lst []) nN
  have hN : (upd H N (.lst [])) N = some (.lst []) := upd_same
  dsimp only [gName]
  generalize upd H N (.lst []) = H1 at sN hN
  refine st_seq ⟨_, rfl, pt, rfl, ⟨_, .inl (.inl (sN _ _ hpt))⟩, for_tup (K := K) (a := pt) (xs := xs) (fun i σ H' => ∃ (v2 v3 : Option V) (ys : List V), σ = [some (.ref pt), some (.ref N), v2, v3] ∧ Same H H' ∧ H' N = some (.lst ys) ∧ Dvs H' ys (DL.of (((as.take i).flatMap arUses).map dU)))
    ⟨none, none, [], rfl, sN, hN, rfl⟩ (fun i σ H' _ ⟨_, _, _, _, s', _⟩ => .inl (.inl (s' _ _ hpt))) ?_ ?_⟩
  · rintro i x σ H2 hi ⟨v2, v3, ys, rfl, s2, hN2, hD2⟩
    obtain ⟨d, hd, hxd⟩ := (hxs.mono (TK.of s2)).get hi
    obtain ⟨ar, har, rfl⟩ := get_map hd
    have hm := List.mem_of_getElem? har
    have et := flat_take (g := arUses) har
    have hyl := hD2.len
    rw [List.length_map] at hyl
    have b1 : ((as.take (i + 1)).flatMap arUses).length ≤ (as.flatMap arUses).length := flat_take_le
    rw [et, List.length_append] at b1
    have tkN : ∀ {H' : Hp} {zs zs' : List V}, H' N = some (.lst zs) → TK H' (upd H' N (.lst zs')) := fun h => TK.upd h (fun _ z => by cases z)
    have fin : ∀ (H3 : Hp) (L : Addr) (us : List V), Same H2 H3 → H3 L = some (.lst us) → Dvs H3 us (DL.of ((arUses ar).map dU)) → H3 N = some (.lst ys) ∧ ys.length + us.length ≤ sizeLine ∧ Same H (upd H3 N (.lst (ys ++ us))) ∧ Dvs (upd H3 N (.lst (ys ++ us))) (ys ++ us) (DL.of (((as.take (i + 1)).flatMap arUses).map dU)) := by
      intro H3 L us s3 hL hus
      have h3 := s3 _ _ hN2
      have hul := hus.len
      rw [List.length_map] at hul
      refine ⟨h3, bigLe2 (by omega), same_mut (s2.trans s3) nN, ?_⟩
      rw [et, List.map_append]
      exact Dvs.append (hD2.mono ((TK.of s3).trans (tkN h3))) (hus.mono (tkN h3))
    cases ar with
    | pla v =>
      obtain ⟨r2, _, rfl, hr2, a1, _, rfl, ha1, a2, _, rfl, ha2, rfl⟩ := hxd
      have ha1 : a1 = .str "place" := ha1
      subst ha1
      have ha2 : a2 = .str v := ha2
      subst ha2
      refine ⟨r2, _, rfl, .inl (.inl hr2), rfl, _, _, rfl, _, [], rfl, rfl, ?_⟩
      dsimp only [gName]
      refine ⟨_, rfl, .inl ⟨rfl, _, SqL.of hN2⟩, _, rfl, rfl, _, rfl, ite2 (fun _ => ⟨_, rfl, two_le, fun t nt => ⟨one_le, fun L nL => ?_⟩⟩) (fun e => absurd (decide_eq_true rfl) e)⟩
      have st := same_upd (o := .tup [.str "variable", .str v]) nt
      have sL := same_upd (o := .lst [.ref t]) nL
      obtain ⟨f1, f2, f3, f4⟩ := fin _ L [.ref t] (st.trans sL) upd_same ⟨.ref t, [], rfl, Dv.of_u (sL _ _ upd_same), rfl⟩
      exact ⟨N, L, _, _, rfl, rfl, f1, upd_same, f2, _, _, _, rfl, f3, upd_same, f4⟩
    | val e =>
      obtain ⟨r2, _, rfl, hr2, a1, _, rfl, ha1, a2, _, rfl, ha2, rfl⟩ := hxd
      have ha1 : a1 = .str "value" := ha1
      subst ha1
      refine ⟨r2, _, rfl, .inl (.inl hr2), rfl, _, _, rfl, _, [], rfl, rfl, ?_⟩
      dsimp only [gName]
      refine ⟨_, rfl, .inl ⟨rfl, _, SqL.of hN2⟩, _, rfl, rfl, _, rfl, ite2 (fun e => absurd e (by rw [show decide (V.str "value" = V.str "place") = false from no_place]; exact Bool.false_ne_true)) (fun _ => ?_)⟩
      refine ⟨_, rfl, a2, .sum e, rfl, ⟨e, rfl⟩, ha2, hF.ok _ hm, fun H3 L us s3 nL hL hus => ?_⟩
      obtain ⟨f1, f2, f3, f4⟩ := fin _ L us s3 hL hus
      exact ⟨N, L, _, _, rfl, rfl, f1, hL, f2, _, _, _, rfl, f3, upd_same, f4⟩
  · rintro σ H2 ⟨v2, v3, ys, rfl, s2, hN2, hD2⟩
    rw [hl, List.take_length] at hD2
    exact ⟨_, rfl, q H2 N ys s2 nN hN2 hD2⟩
theorem sc_uses_of_made : FnScope ["part"] ["part"] (defScope s_uses_of_made) := ⟨rfl, rfl, rfl, by decide +kernel, rfl, by decide +kernel, by decide +kernel⟩
theorem ok_uses_of_made (T : Txt K mg a) : FnOk P w K mg base CX0 3 a.f_uses_of_made a.f_uses_of_made_d ["part"] (spUse isMade) := by
  refine T.F_uses_of_made.ok sc_uses_of_made (fun vs H Q E h => ?_) (fun cdv A outer s H vs Q E hr h => ?_)
  · obtain ⟨v, p, rfl, _⟩ := h
    rfl
  obtain ⟨v, p, rfl, ⟨f, as, rfl⟩, hv, hF, q⟩ := h
  refine ⟨_, (pss_one (ps_ret (pe_op op_cat (pe_lst (pa_cons (pe_tup (pa_cons pe_str (pa_cons (pe_ix ix_tup (pv 0) pe_int (fun _ _ => rfl)) pa_nil))) pa_nil)) (pe_call (ok_uses_of_args T) (hr.mono (by decide)) (by rfl) T.g_uses_of_args T.F_uses_of_args.kp T.b_uses_of_args .nil pass0 (pa_cons (pe_ix ix_tup (pv 0) pe_int (fun _ _ => rfl)) pa_nil))))), ?_⟩
  have hF : NmOk f ∧ ArsF as := hF
  have hal := ar_uses_le hF.2
  obtain ⟨r, _, rfl, hr0, x1, _, rfl, hx1, x2, _, rfl, hx2, rfl⟩ := hv
  have hx1 : x1 = .str f := hx1
  subst hx1
  refine ⟨_, rfl, r, _, _, _, rfl, rfl, .inl (.inl hr0), atI_nat (j := 0) rfl, two_le, fun t nt => ⟨one_le, fun L nL => ?_⟩⟩
  have st := same_upd (o := .tup [.str "function", .str f]) nt
  have sL := same_upd (o := .lst [.ref t]) nL
  have s2 := st.trans sL
  have hL : (upd (upd H t (.tup [.str "function", .str f])) L (.lst [.ref t])) L = some (.lst [.ref t]) := upd_same
  have hd : Dv (upd (upd H t (.tup [.str "function", .str f])) L (.lst [.ref t])) (.ref t) (dU ("function", f)) := Dv.of_u (sL _ _ upd_same)
  generalize upd (upd H t (.tup [.str "function", .str f])) L (.lst [.ref t]) = H2 at s2 hL hd
  refine ⟨_, rfl, r, _, _, _, rfl, rfl, .inl (.inl (s2 _ _ hr0)), atI_nat (j := 1) rfl, x2, .args as, rfl, ⟨as, rfl⟩, hx2.mono (TK.of s2), hF.2, fun H3 M us s3 nM hM hus => ?_⟩
  have hul := hus.len
  rw [List.length_map] at hul
  have hul : us.length = (as.flatMap arUses).length := hul
  refine ⟨L, M, _, _, rfl, rfl, s3 _ _ hL, hM, bigLe2 (by rw [List.length_singleton]; omega), fun N nN => ?_⟩
  have sN := same_upd (o := .lst ([.ref t] ++ us)) nN
  exact q _ N ([.ref t] ++ us) ((s2.trans s3).trans sN) ((s2.trans s3).free nN) upd_same ⟨.ref t, us, rfl, hd.mono (TK.of (s3.trans sN)), hus.mono (TK.of sN)⟩
end
end K10
namespace K10
open PySem PySem.Spec PyProof.Rows L2 TL
/-! ### several defs that a slot may hold -/
def FunAt (K : PySem.W.Frag) (x : Str) (f : Addr) : Prop := ∃ q st fd, Fun K x q st f fd
theorem FunAt.ne {K : PySem.W.Frag} {x y : Str} {f g : Addr} (F : FunAt K x f) (G : FunAt K y g) (h : x ≠ y) : f ≠ g := by
  intro e
  subst e
  obtain ⟨_, _, _, F⟩ := F
  obtain ⟨_, _, _, G⟩ := G
  obtain ⟨_, _, _, _, _, _, _, _, _, e1, l1, _⟩ := F.ex
  obtain ⟨_, _, _, _, _, _, _, _, _, e2, l2, _⟩ := G.ex
  have e := l1.symm.trans l2
  have e3 := congrArg (fun o : Option Obj => match o with | some ⟨_, _, .func fd, _⟩ => fd.name | _ => Str.empty) e
  dsimp only at e3
  rw [e1, e2] at e3
  exact h e3
def lkS (l : List (Str × Addr × Sp)) (f : Addr) : Option Sp := (l.find? fun p => decide (p.2.1 = f)).map (·.2.2)
theorem lkS_at {K : PySem.W.Frag} {p : Str × Addr × Sp} : ∀ {l : List (Str × Addr × Sp)}, (∀ p ∈ l, FunAt K p.1 p.2.1) → (l.map (·.1)).Nodup → p ∈ l → lkS l p.2.1 = some p.2.2
  | [], _, _, h => by cases h
  | q :: r, hf, nd, h => by
    rw [List.map_cons, List.nodup_cons] at nd
    unfold lkS
    rcases List.mem_cons.mp h with rfl | h'
    · rw [List.find?_cons, show decide (p.2.1 = p.2.1) = true from decide_eq_true rfl]
      rfl
    · have hne : q.1 ≠ p.1 := fun e => nd.1 (e ▸ List.mem_map_of_mem h')
      have := (hf q List.mem_cons_self).ne (hf p h) hne
      rw [List.find?_cons, show decide (q.2.1 = p.2.1) = false from decide_eq_false this]
      exact lkS_at (fun x hx => hf x (List.mem_cons_of_mem _ hx)) nd.2 h'
theorem lkS_mem {l : List (Str × Addr × Sp)} {f : Addr} {sp : Sp} (h : lkS l f = some sp) : ∃ x, (x, f, sp) ∈ l := by
  unfold lkS at h
  cases e : l.find? fun p => decide (p.2.1 = f) with
  | none => rw [e] at h; cases h
  | some p =>
    rw [e] at h
    have h1 : p.2.2 = sp := Option.some.inj h
    have h2 := List.mem_of_find?_eq_some e
    have h3 : p.2.1 = f := of_decide_eq_true (List.find?_some (p := fun p : Str × Addr × Sp => decide (p.2.1 = f)) e)
    subst h1; subst h3
    exact ⟨p.1, h2⟩
def useL (a : Ads) : List (Str × Addr × Sp) := [("uses_of_target", a.f_uses_of_target, spUse isTgt), ("uses_of_sum", a.f_uses_of_sum, spUse isSum), ("uses_of_variables", a.f_uses_of_variables, spUse isVars), ("uses_of_kinds", a.f_uses_of_kinds, spUse isKnds),
  ("uses_of_handlers", a.f_uses_of_handlers, spUse isHds), ("uses_of_args", a.f_uses_of_args, spUse isArgs), ("uses_of_made", a.f_uses_of_made, spUse isMade)]
theorem useL_nd (a : Ads) : ((useL a).map (·.1)).Nodup := (by decide +kernel : (["uses_of_target", "uses_of_sum", "uses_of_variables", "uses_of_kinds", "uses_of_handlers", "uses_of_args", "uses_of_made"] : List Str).Nodup)
/-- the ways of a part's names -/
inductive Way (K : PySem.W.Frag) (tU : Addr) (a : Ads) (p : Part) : Prop where
  | one (n : Str) (h : inV (.str p.sort) vkfV = true) (hd : p.d = .str n) (hu : p.uses = [(p.sort, n)])
  | tab (h : inV (.str p.sort) vkfV = false) (x : Str) (f : Addr) (k : Part → Prop) (hn : PySem.W.nsIn K tU p.sort = some (some (.ref f))) (hm : (x, f, spUse k) ∈ useL a) (hk : k p)
  | no (h : inV (.str p.sort) vkfV = false) (hn : PySem.W.nsIn K tU p.sort = some none) (hu : p.uses = [])
theorem vkf1 : inV (.str "variable") vkfV = true := by decide +kernel
theorem vkf2 : inV (.str "kind") vkfV = true := by decide +kernel
theorem vkf3 : inV (.str "function") vkfV = true := by decide +kernel
theorem vkf4 : inV (.str "sum") vkfV = false := by decide +kernel
theorem vkf5 : inV (.str "target") vkfV = false := by decide +kernel
theorem vkf6 : inV (.str "args") vkfV = false := by decide +kernel
theorem vkf7 : inV (.str "block") vkfV = false := by decide +kernel
theorem vkf8 : inV (.str "kinds") vkfV = false := by decide +kernel
theorem vkf9 : inV (.str "handlers") vkfV = false := by decide +kernel
theorem vkf10 : inV (.str "variables") vkfV = false := by decide +kernel
theorem vkf11 : inV (.str "made") vkfV = false := by decide +kernel
theorem vkf12 : inV (.str "swallowed") vkfV = false := by decide +kernel
theorem way_of {K : PySem.W.Frag} {w : World} {mg : Str → Option Value} {a : Ads} {tS tU tF : Addr} (B : Tabs K w mg a tS tU tF) : ∀ p : Part, p.F → Way K tU a p
  | .var v, _ => .one v vkf1 rfl rfl
  | .knd v, _ => .one v vkf2 rfl rfl
  | .fn v, _ => .one v vkf3 rfl rfl
  | .sum e, _ => .tab vkf4 _ _ _ B.u2 (.tail _ (.head _)) ⟨e, rfl⟩
  | .tgt o, _ => .tab vkf5 _ _ _ B.u1 (.head _) ⟨o, rfl⟩
  | .args as, _ => .tab vkf6 _ _ _ B.u7 (.tail _ (.tail _ (.tail _ (.tail _ (.tail _ (.head _)))))) ⟨as, rfl⟩
  | .blk x, _ => .no vkf7 B.u9 rfl
  | .knds ks, h => .tab vkf8 _ _ _ B.u4 (.tail _ (.tail _ (.tail _ (.head _)))) ⟨ks, .inl rfl, h.2⟩
  | .hds hs, _ => .tab vkf9 _ _ _ B.u6 (.tail _ (.tail _ (.tail _ (.tail _ (.head _))))) ⟨hs, rfl⟩
  | .vars vs, _ => .tab vkf10 _ _ _ B.u3 (.tail _ (.tail _ (.head _))) ⟨vs, rfl⟩
  | .made f as, _ => .tab vkf11 _ _ _ B.u8 (.tail _ (.tail _ (.tail _ (.tail _ (.tail _ (.tail _ (.head _))))))) ⟨f, as, rfl⟩
  | .swal ks, h => .tab vkf12 _ _ _ B.u5 (.tail _ (.tail _ (.tail _ (.head _)))) ⟨ks, .inr rfl, h⟩
def spUsesIn : Sp := fun vs H Q _ => ∃ (v : V) (s : TS), vs = [v] ∧ Dv H v (dS s) ∧ s.F ∧ ∀ (H' : Hp) (L : Addr) (xs : List V), Same H H' → H L = none → H' L = some (.lst xs) → Dvs H' xs (DL.of (s.uses.map dU)) → Q (.ref L) H'
theorem suses_le {s : TS} (h : s.F) : s.uses.length ≤ 4000004 := by
  have := flat_le (g := Part.uses) (m := 1000001) (l := s.parts) fun p hp => uses_le (TS.f_parts h p hp)
  have h2 := parts_len s
  have h3 : s.parts.length * 1000001 ≤ 4 * 1000001 := Nat.mul_le_mul_right _ h2
  exact Nat.le_trans this (by omega)
section
variable {P : Program} {w : World} {K : PySem.W.Frag} {mg : Str → Option Value} {base : Heap} {a : Ads}
theorem useL_at (T : Txt K mg a) : ∀ p ∈ useL a, FunAt K p.1 p.2.1 := by
  intro p hp
  simp only [useL, List.mem_cons, List.not_mem_nil, or_false] at hp
  rcases hp with rfl | rfl | rfl | rfl | rfl | rfl | rfl
  · exact ⟨_, _, _, T.F_uses_of_target⟩
  · exact ⟨_, _, _, T.F_uses_of_sum⟩
  · exact ⟨_, _, _, T.F_uses_of_variables⟩
  · exact ⟨_, _, _, T.F_uses_of_kinds⟩
  · exact ⟨_, _, _, T.F_uses_of_handlers⟩
  · exact ⟨_, _, _, T.F_uses_of_args⟩
  · exact ⟨_, _, _, T.F_uses_of_made⟩
theorem useL_held (T : Txt K mg a) : ∀ p ∈ useL a, Held P w K mg base 3 p.2.1 p.2.2 := by
  intro p hp
  simp only [useL, List.mem_cons, List.not_mem_nil, or_false] at hp
  rcases hp with rfl | rfl | rfl | rfl | rfl | rfl | rfl
  · exact ⟨_, _, (ok_uses_of_target T).mono (by decide), T.F_uses_of_target.kp, T.b_uses_of_target⟩
  · exact ⟨_, _, (ok_uses_of_sum T).mono (by decide), T.F_uses_of_sum.kp, T.b_uses_of_sum⟩
  · exact ⟨_, _, (ok_uses_of_variables T).mono (by decide), T.F_uses_of_variables.kp, T.b_uses_of_variables⟩
  · exact ⟨_, _, (ok_uses_of_kinds T).mono (by decide), T.F_uses_of_kinds.kp, T.b_uses_of_kinds⟩
  · exact ⟨_, _, (ok_uses_of_handlers T).mono (by decide), T.F_uses_of_handlers.kp, T.b_uses_of_handlers⟩
  · exact ⟨_, _, (ok_uses_of_args T).mono (by decide), T.F_uses_of_args.kp, T.b_uses_of_args⟩
  · exact ⟨_, _, (ok_uses_of_made T).mono (by decide), T.F_uses_of_made.kp, T.b_uses_of_made⟩
theorem sc_uses_in : FnScope ["statement", "found", "sort", "part", "uses_of"] ["statement"] (defScope s_uses_in) := ⟨rfl, rfl, rfl, by decide +kernel, rfl, by decide +kernel, by decide +kernel⟩
theorem ok_uses_in (T : Txt K mg a) {tS tU tF : Addr} (B : Tabs K w mg a tS tU tF) : FnOk P w K mg base CX0 4 a.f_uses_in a.f_uses_in_d ["statement"] spUsesIn := by
  refine T.F_uses_in.ok sc_uses_in (fun vs H Q E h => ?_) (fun cdv A outer s H vs Q E hr h => ?_)
  · obtain ⟨v, s, rfl, _⟩ := h
    rfl
  obtain ⟨v, st, rfl, hv, hF, q⟩ := h
  obtain ⟨es, n, DU⟩ := B.dU
  obtain ⟨SU, eSU⟩ : ∃ SU, SU = lkS (useL a) := ⟨_, rfl⟩
  have hSU : ∀ f sp, SU f = some sp → Held P w K mg base 3 f sp := fun f sp h => by
    rw [eSU] at h
    obtain ⟨x, hx⟩ := lkS_mem h
    exact useL_held T _ hx
  refine ⟨_, (pss_cons (ps_set (i := 1) sc_uses_in.nd rfl (Or.inl rfl) (pe_lst pa_nil))
    (pss_cons (ps_for PassesOwn.never rfl (pi_list (pe_call (ok_parts_of T B) (hr.mono (by decide)) (by rfl) T.g_parts_of T.F_parts_of.kp T.b_parts_of .nil pass0 (pa_cons (pv 0) pa_nil))) (pg_tup (by rfl) (pgs_cons (pg_name (i := 2) sc_uses_in.nd rfl (Or.inl rfl)) (pgs_cons (pg_name (i := 3) sc_uses_in.nd rfl (Or.inl rfl)) pgs_nil)))
      (pss_one (ps_if (pt_cmpR op_in_seq (pv 2) (pe_tup (pa_cons pe_str (pa_cons pe_str (pa_cons pe_str pa_nil)))) (by rfl))
        (pss_one (ps_expr (pe_bm PySem.F.plainAttrs_list PySem.F.slot_list_append PySem.F.type_list_append mt_append (pv 1) (pa_cons (pe_tup (pa_cons (pv 2) (pa_cons (pv 3) pa_nil))) pa_nil))))
        (pss_one (ps_if (pt_cmpR (op_in_kd DU) (pv 2) (pe_gr rfl B.gU) (by rfl))
          (pss_cons (ps_set (i := 4) sc_uses_in.nd rfl (Or.inl rfl) (pe_ix (show IxR _ (rIxD K w) from ix_kdict) (pe_gr rfl B.gU) (pv 2) (fun _ _ => rfl)))
          (pss_one (ps_expr (pe_bm PySem.F.plainAttrs_list PySem.F.slot_list_extend PySem.F.type_list_extend mt_extend (pv 1) (pa_cons (pe_callA (i := 4) (S := SU) hSU (hr.mono (by decide)) rfl (Or.inl rfl) (pa_cons (pv 3) pa_nil)) pa_nil)))))
          pss_nil)))))
    (pss_one (ps_ret (pv 1))))), ?_⟩
  have hul := suses_le hF
  refine ⟨Nat.zero_le _, fun N nN => ?_⟩
  have sN := same_upd (o := .lst []) nN
  have hN : (upd H N (.lst [])) N = some (.lst []) := upd_same
  dsimp only [gName]
  generalize upd H N (.lst []) = H1 at sN hN
  refine st_seq ⟨_, rfl, v, st, rfl, hv.mono (TK.of sN), fun H2 L xs s2 nL hL hx => ?_⟩
  have hNL : N ≠ L := ne_of_none hN nL
  have hl := hx.len
  rw [List.length_map] at hl
  refine ⟨L, rfl, ⟨_, SqL.of hL⟩, for_list (K := K) (a := L) (xs := xs) (fun i σ H' => ∃ (v2 v3 v4 : Option V) (ys : List V), σ = [some v, some (.ref N), v2, v3, v4] ∧ Same H H' ∧ H' L = some (.lst xs) ∧ H' N = some (.lst ys) ∧ Dvs H' ys (DL.of (((st.parts.take i).flatMap Part.uses).map dU)) ∧ Dvs H' xs (DL.of (st.parts.map Part.dp)))
    ⟨none, none, none, [], rfl, sN.trans s2, hL, s2 _ _ hN, rfl, hx⟩ (fun i σ H' _ ⟨_, _, _, _, _, _, h, _⟩ => SqL.of h) ?_ ?_⟩
  · rintro i x σ H3 hi ⟨v2, v3, v4, ys, rfl, s3, hL3, hN3, hD3, hx3⟩
    obtain ⟨d, hd, hxd⟩ := hx3.get hi
    obtain ⟨p, hp, rfl⟩ := get_map hd
    obtain ⟨r, u, rfl, hr3, hu⟩ := hxd.part
    have hpF := TS.f_parts hF _ (List.mem_of_getElem? hp)
    have et := flat_take (g := Part.uses) hp
    have hyl := hD3.len
    rw [List.length_map] at hyl
    have b1 : ((st.parts.take (i + 1)).flatMap Part.uses).length ≤ st.uses.length := flat_take_le
    rw [et, List.length_append] at b1
    have tkN : ∀ {H' : Hp} {zs zs' : List V}, H' N = some (.lst zs) → TK H' (upd H' N (.lst zs')) := fun h => TK.upd h (fun _ z => by cases z)
    refine ⟨r, _, rfl, .inl (.inl hr3), rfl, .str p.sort, _, rfl, u, [], rfl, rfl, ?_⟩
    dsimp only [gName]
    rcases way_of B p hpF with ⟨n, hw, hd, hus⟩ | ⟨hw, x, f, k, hn, hm, hk⟩ | ⟨hw, hn, hus⟩
    · refine st_yesH (P := fun H' => Same H3 H') (fun Q q => ⟨_, rfl, (by show 3 ≤ sizeLine; decide), fun c nc => ⟨c, vkfV, rfl, .inr (.inl (.inl upd_same)), rfl, vkf_flat, _, rfl, ?_⟩⟩) (fun H4 s4 => ?_)
      · rw [hw]
        exact q _ (same_upd nc)
      · have hN4 := s4 _ _ hN3
        rw [hd] at hu
        have hu : u = .str n := hu
        subst hu
        refine ⟨_, rfl, .inl ⟨rfl, _, SqL.of hN4⟩, _, rfl, _, rfl, two_le, fun t nt => ?_⟩
        have s5 := same_upd (o := .tup [.str p.sort, .str n]) nt
        have hN5 := s5 _ _ hN4
        have tk : TK H3 (upd (upd H4 t (.tup [.str p.sort, .str n])) N (.lst (ys ++ [.ref t]))) := (TK.of (s4.trans s5)).trans (tkN hN5)
        refine ⟨N, _, _, rfl, rfl, hN5, bigLine2 (by omega), _, _, _, ys ++ [.ref t], rfl, same_mut (s3.trans (s4.trans s5)) nN, by rw [upd_ne hNL.symm]; exact s5 _ _ (s4 _ _ hL3), upd_same, ?_, hx3.mono tk⟩
        rw [et, hus, List.map_append]
        exact Dvs.append (hD3.mono tk) ⟨.ref t, [], rfl, Dv.of_u (tkN hN5 _ _ upd_same), rfl⟩
    · refine st_noH (P := fun H' => Same H3 H') (fun Q q => ⟨_, rfl, (by show 3 ≤ sizeLine; decide), fun c nc => ⟨c, vkfV, rfl, .inr (.inl (.inl upd_same)), rfl, vkf_flat, _, rfl, ?_⟩⟩) (fun H4 s4 => ?_)
      · rw [hw]
        exact q _ (same_upd nc)
      refine st_yes (fun Q q => ⟨_, rfl, _, _, rfl, rfl, hn, _, rfl, q⟩) ?_
      refine st_seq ⟨_, rfl, tU, _, .ref f, rfl, rfl, ⟨es, n, _, DU.at_, DU.lit, hn, rfl⟩, ?_⟩
      dsimp only [gName]
      have hN4 := s4 _ _ hN3
      have hSf : SU f = some (spUse k) := by
        rw [eSU]
        exact lkS_at (p := (x, f, spUse k)) (useL_at T) (useL_nd a) hm
      refine ⟨_, rfl, .inl ⟨rfl, _, SqL.of hN4⟩, f, _, rfl, hSf, _, rfl, u, p, rfl, hk, hu.mono (TK.of s4), hpF, fun H5 M us s5 nM hM hD5 => ?_⟩
      have hN5 := s5 _ _ hN4
      have hul5 := hD5.len
      rw [List.length_map] at hul5
      have tk : TK H3 (upd H5 N (.lst (ys ++ us))) := (TK.of (s4.trans s5)).trans (tkN hN5)
      refine ⟨N, M, _, _, rfl, rfl, hN5, hM, bigLe2 (by omega), _, _, _, ys ++ us, rfl, same_mut (s3.trans (s4.trans s5)) nN, by rw [upd_ne hNL.symm]; exact s5 _ _ (s4 _ _ hL3), upd_same, ?_, hx3.mono tk⟩
      rw [et, List.map_append]
      exact Dvs.append (hD3.mono tk) (hD5.mono (tkN hN5))
    · refine st_noH (P := fun H' => Same H3 H') (fun Q q => ⟨_, rfl, (by show 3 ≤ sizeLine; decide), fun c nc => ⟨c, vkfV, rfl, .inr (.inl (.inl upd_same)), rfl, vkf_flat, _, rfl, ?_⟩⟩) (fun H4 s4 => ?_)
      · rw [hw]
        exact q _ (same_upd nc)
      refine st_no (fun Q q => ⟨_, rfl, _, _, rfl, rfl, hn, _, rfl, q⟩) ?_
      refine ⟨_, _, _, ys, rfl, s3.trans s4, s4 _ _ hL3, s4 _ _ hN3, ?_, hx3.mono (TK.of s4)⟩
      rw [et, hus, List.append_nil]
      exact hD3.mono (TK.of s4)
  · rintro σ H3 ⟨v2, v3, v4, ys, rfl, s3, hL3, hN3, hD3, hx3⟩
    rw [hl, List.take_length] at hD3
    exact ⟨_, rfl, q H3 N ys s3 nN hN3 hD3⟩
end
end K10
namespace K10
open PySem PySem.Spec PyProof.Rows L2 TL
/-! ### walks of any kind -/
theorem it_any {J : It} {H0 : Hp} {Qd : Hp → Prop} {B : (Hp → Prop) → V → Hp → Prop} (n : Nat) (Pv : Nat → Hp → Prop) (h0 : Pv 0 H0) (hgo : ∀ i H, i < n → Pv i H → J.go i H) (hst : ∀ H, Pv n H → J.stop n H)
    (hs : ∀ i x H H', i < n → Pv i H → J.yld i H x H' → B (Pv (i + 1)) x H') (hd : ∀ H, Pv n H → Qd H) :
    ∃ W : Nat → Nat → Hp → Prop, (∃ m, W 0 m H0) ∧ ∀ i m H, W i m H →
      (J.stop i H ∧ Qd H) ∨ (J.go i H ∧ ∃ Nx : Hp → Prop, (∀ H', Nx H' → ∃ m', m' < m ∧ W (i + 1) m' H') ∧ ∀ x H', J.yld i H x H' → B Nx x H') := by
  refine ⟨fun i m H => m = n - i ∧ i ≤ n ∧ Pv i H, ⟨n, rfl, Nat.zero_le _, h0⟩, ?_⟩
  rintro i m H ⟨rfl, hi, p⟩
  by_cases hlt : i < n
  · exact .inr ⟨hgo i H hlt p, Pv (i + 1), fun H' p' => ⟨n - (i + 1), by omega, rfl, hlt, p'⟩, fun x H' y => hs i x H H' hlt p y⟩
  · have e : i = n := by omega
    subst e
    exact .inl ⟨hst H p, hd H p⟩
theorem for_any {J : It} {g : TG} {tb : L2.TS} {D : Ends} {σ0 : L2.St} {H0 : Hp} (n : Nat) (Pv : Nat → L2.St → Hp → Prop) (h0 : Pv 0 σ0 H0) (hgo : ∀ i σ H, i < n → Pv i σ H → J.go i H) (hst : ∀ σ H, Pv n σ H → J.stop n H)
    (hs : ∀ i x σ H H', i < n → Pv i σ H → J.yld i H x H' → g x σ H' fun σ2 H2 => tb { D with nx := Pv (i + 1), ct := Pv (i + 1), bk := D.nx } σ2 H2) (hd : ∀ σ H, Pv n σ H → D.nx σ H) :
    ∃ W : Nat → Nat → L2.St → Hp → Prop, (∃ m, W 0 m σ0 H0) ∧ ∀ i m σ H, W i m σ H →
      (J.stop i H ∧ D.nx σ H) ∨ (J.go i H ∧ ∃ N : L2.St → Hp → Prop, (∀ σ' H', N σ' H' → ∃ m', m' < m ∧ W (i + 1) m' σ' H') ∧ ∀ v H', J.yld i H v H' → g v σ H' fun σ2 H2 => tb { D with nx := N, ct := N, bk := D.nx } σ2 H2) := by
  refine ⟨fun i m σ H => m = n - i ∧ i ≤ n ∧ Pv i σ H, ⟨n, rfl, Nat.zero_le _, h0⟩, ?_⟩
  rintro i m σ H ⟨rfl, hi, p⟩
  by_cases hlt : i < n
  · exact .inr ⟨hgo i σ H hlt p, Pv (i + 1), fun σ' H' p' => ⟨n - (i + 1), by omega, rfl, hlt, p'⟩, fun x H' y => hs i x σ H H' hlt p y⟩
  · have e : i = n := by omega
    subst e
    exact .inl ⟨hst σ H p, hd σ H p⟩
/-- t + u of tuples at hand -/
theorem cat_any {K : PySem.W.Frag} {p q : Addr} {xs ys : List V} {H : Hp} {Q : VK} (hp : H p = some (.tup xs)) (hq : H q = some (.tup ys)) (hl : xs.length + ys.length ≤ sizeLine) (k : ∀ H' r, Same H H' → H' r = some (.tup (xs ++ ys)) → Q (.ref r) H') : rCatA K (.ref p) (.ref q) H Q := by
  refine ⟨p, q, xs, ys, rfl, rfl, .inl (.inl hp), .inl (.inl hq), hl, fun e => ?_, fun _ e => ?_, fun _ _ r nr => k _ r (same_upd nr) upd_same⟩
  · subst e
    exact k H q (Same.refl _) hq
  · subst e
    refine k H p (Same.refl _) ?_
    rw [List.append_nil]
    exact hp
/-! ### the small checks -/
def spLargest : Sp := fun vs H Q _ => ∃ (L : Addr) (ns : List Int), vs = [.ref L] ∧ H L = some (.lst (ns.map V.int)) ∧ ∀ r : Int, (r = 0 ∨ r ∈ ns) → (∀ n ∈ ns, n ≤ r) → Q (.int r) H
def isPla : Ar → Bool
  | .pla _ => true
  | .val _ => false
def fitB (as : List Ar) (ps : List (Str × Bool)) : Bool := decide (as.length = ps.length) && ((as.zip ps).map fun p => decide (V.bl (isPla p.1) = V.bl p.2.2)).all id
def spFit : Sp := fun vs H Q _ => ∃ (u v : V) (as : List Ar) (ps : List (Str × Bool)), vs = [u, v] ∧ Dv H u (.tup (DL.of (as.map dA))) ∧ Dv H v (.tup (DL.of (ps.map dPa))) ∧ as.length ≤ 1000 ∧ ps.length ≤ 1000 ∧ ∀ H', Same H H' → Q (.bl (fitB as ps)) H'
def byPl (ps : List (Str × Bool)) : Nat := (ps.filter (·.2)).length
def spByPl : Sp := fun vs H Q _ => ∃ (v : V) (ps : List (Str × Bool)), vs = [v] ∧ Dv H v (.tup (DL.of (ps.map dPa))) ∧ ps.length ≤ 1000 ∧ ∀ H', Same H H' → Q (.int (byPl ps)) H'
def spDiff : Sp := fun vs H Q _ => ∃ (p : Addr) (ns : List Str), vs = [.ref p] ∧ H p = some (.tup (ns.map V.str)) ∧ ns.Nodup ∧ ns.length ≤ 4000 ∧ ∀ H', Same H H' → Q .non H'
def spKnown : Sp := fun vs H Q _ => ∃ (p q : Addr) (ns ks : List Str), vs = [.ref p, .ref q] ∧ H p = some (.lst (ns.map V.str)) ∧ H q = some (.tup (ks.map V.str)) ∧ (∀ n ∈ ns, n ∈ ks) ∧ Q .non H
def barB (s : TS) : Bool := inV (.str s.word) bars
def spBarred : Sp := fun vs H Q _ => ∃ (v : V) (x : TB), vs = [v] ∧ Dv H v (dBk x) ∧ x.F ∧ x.ht ≤ 7 ∧ x.sz ≤ 100000 ∧ ∀ H', Same H H' → Q (.bl ((listB x).any barB)) H'
def spDepth : Nat → Sp
  | 0 => fun _ _ _ _ => False
  | n + 1 => fun vs H Q _ => ∃ (v : V) (x : TB), vs = [v] ∧ Dv H v (dBk x) ∧ x.F ∧ x.ht ≤ n ∧ x.sz ≤ 1000 ∧ ∀ (H' : Hp) (r : Int), Same H H' → 0 ≤ r → r ≤ (x.ht : Int) + 1 → Q (.int r) H'
def spOwn : Sp := fun vs H Q _ => ∃ (v1 v2 : V) (gs : List Str) (f : FnT), vs = [v1, v2] ∧ Dv H v1 (dNs gs) ∧ Dv H v2 (dFn f) ∧ gs.length ≤ 1000 ∧ f.ps.length ≤ 1000 ∧ f.bk.F ∧ f.bk.ht ≤ 7 ∧ f.bk.sz ≤ 1000 ∧
  ∀ (H' : Hp) (p : Addr), Same H H' → H' p = some (.tup ((f.ps.map (·.1) ++ localsT gs f).map V.str)) → Q (.ref p) H'
theorem locals_len (gs : List Str) (f : FnT) : (localsT gs f).length ≤ f.bk.sz := by
  have := (loc_len (listB f.bk) (gs ++ f.ps.map (·.1), [])).2
  rw [list_szB] at this
  unfold localsT
  simpa using this
mutual
theorem blks_sz : ∀ {s : TS}, (s.blks.map TB.sz).sum + 1 = s.sz
  | .pl (.set _ _) => rfl
  | .pl (.inp _) => rfl
  | .pl (.call _ _ _) => rfl
  | .pl (.risk _) => rfl
  | .pl (.rse _) => rfl
  | .pl (.ret _) => rfl
  | .iff x y => by show (x.sz + (y.sz + 0)) + 1 = x.sz + y.sz + 1; omega
  | .whl x => by show (x.sz + 0) + 1 = x.sz + 1; omega
  | .undo _ x => by show (x.sz + 0) + 1 = x.sz + 1; omega
  | .tr x h y => by
    have e : (TS.tr x h y).blks = [x] ++ (h.L.map (·.2) ++ ([y] ++ [])) := rfl
    rw [e, List.append_nil, List.map_append, List.map_append, List.sum_append, List.sum_append, hds_sz]
    show (x.sz + 0) + (h.sz + (y.sz + 0)) + 1 = x.sz + h.sz + y.sz + 1
    omega
  | .wth _ _ _ _ _ x => by show (x.sz + 0) + 1 = x.sz + 1; omega
theorem hds_sz : ∀ {h : TH}, ((h.L.map (·.2)).map TB.sz).sum = h.sz
  | .nil => rfl
  | .cons _ x r => by show x.sz + ((r.L.map (·.2)).map TB.sz).sum = x.sz + r.sz; rw [hds_sz]
end
theorem sum_mem {l : List Nat} {n : Nat} (h : n ∈ l) : n ≤ l.sum := by
  induction l with
  | nil => cases h
  | cons x r ih =>
    rw [List.sum_cons]
    rcases List.mem_cons.mp h with rfl | h
    · omega
    · have := ih h
      omega
theorem TB.sz_sum : ∀ {x : TB}, (x.L.map TS.sz).sum = x.sz
  | .nil => rfl
  | .cons s r => by show s.sz + (r.L.map TS.sz).sum = s.sz + r.sz; rw [TB.sz_sum]
section
variable {P : Program} {w : World} {K : PySem.W.Frag} {mg : Str → Option Value} {base : Heap} {a : Ads}
theorem sc_largest : FnScope ["numbers"] ["numbers"] (defScope s_largest) := ⟨rfl, rfl, rfl, by decide +kernel, rfl, by decide +kernel, by decide +kernel⟩
theorem ok_largest (T : Txt K mg a) : FnOk P w K mg base CX0 1 a.f_largest a.f_largest_d ["numbers"] spLargest := by
  refine T.F_largest.ok sc_largest (fun vs H Q E h => ?_) (fun cdv A outer s H vs Q E hr h => ?_)
  · obtain ⟨L, ns, rfl, _⟩ := h
    rfl
  obtain ⟨L, ns, rfl, hL, q⟩ := h
  refine ⟨_, (pss_one (ps_ret (pe_callBK (MX.cr_maxKw rfl) (by rfl) T.max (by decide +kernel) (pa_cons (pv 0) pa_nil) (pk_cons pe_int pk_nil)))), ?_⟩
  refine ⟨_, rfl, L, ns, 0, rfl, rfl, SqL.of hL, fun e => ?_, fun M hM hle => q M (.inr hM) hle⟩
  subst e
  exact q 0 (.inl rfl) (fun n hn => by cases hn)
theorem sc_by_place_in : FnScope ["params", "name", "by_place"] ["params"] (defScope s_by_place_in) := ⟨rfl, rfl, rfl, by decide +kernel, rfl, by decide +kernel, by decide +kernel⟩
theorem ok_by_place_in (T : Txt K mg a) : FnOk P w K mg base CX0 1 a.f_by_place_in a.f_by_place_in_d ["params"] spByPl := by
  refine T.F_by_place_in.ok sc_by_place_in (fun vs H Q E h => ?_) (fun cdv A outer s H vs Q E hr h => ?_)
  · obtain ⟨v, ps, rfl, _⟩ := h
    rfl
  obtain ⟨v, ps, rfl, hv, hl, q⟩ := h
  refine ⟨_, (pss_one (ps_ret (pe_callB call_len_seq (by rfl) T.len PySem.boot_len (pa_cons (pe_lc (own := [("name", 1), ("by_place", 2)]) (g := gTup K 2 (gCons (gName 1) (gCons (gName 2) gNil))) (tt := _) (by rfl) sc_by_place_in.nd (pi_tup (pv 0)) (blkOk_by (own := [("name", 1), ("by_place", 2)]) (N := ["params", "name", "by_place"]) (sc := defScope s_by_place_in) (by decide +kernel)) (fun _ _ _ _ _ => pg_tup (by rfl) (pgs_cons (pg_name (i := 1) sc_by_place_in.nd rfl (Or.inl rfl)) (pgs_cons (pg_name (i := 2) sc_by_place_in.nd rfl (Or.inl rfl)) pgs_nil))) (fun _ _ _ _ _ => (pts_one (pt_val (pv 2)))) (fun _ _ _ _ _ => (pv 1))) pa_nil)))), ?_⟩
  obtain ⟨r, xs, rfl, hr0, hxs⟩ := hv
  refine ⟨_, rfl, r, rfl, ⟨_, .inl (.inl hr0)⟩, fun N nN => lc_tupD (fun d => match d with | .tup (.cons _ (.cons (.bl b) _)) => b | _ => false) fstD nN hr0 hxs (by rw [List.length_map]; omega) (fun x d H' Q M' hd hxd s1 hy hn => ?_) (fun H2 zs s2 hN hz => ?_)⟩
  · obtain ⟨t, ht, rfl⟩ := List.mem_map.mp hd
    obtain ⟨r3, _, rfl, hr3, a1, _, rfl, ha1, a2, _, rfl, ha2, rfl⟩ := hxd
    have ha2 : a2 = .bl t.2 := ha2
    subst ha2
    exact ⟨r3, _, rfl, .inl (.inl hr3), rfl, a1, _, rfl, _, [], rfl, rfl, rfl, _, rfl, t.2, rfl, ite2 (fun e => ⟨_, rfl, hy e _ H' (Same.refl _) ha1⟩) (fun e => hn (Bool.eq_false_iff.mpr e) H' (Same.refl _))⟩
  · have hzl := hz.len
    have e : ((ps.map dPa).filter fun d => match d with | .tup (.cons _ (.cons (.bl b) _)) => b | _ => false) = (ps.filter (·.2)).map dPa := by
      rw [List.filter_map]
      rfl
    rw [e, List.length_map, List.length_map] at hzl
    refine ⟨_, _, rfl, .inl (SqL.of hN), ?_⟩
    rw [hzl]
    exact q H2 s2
theorem sc_check_different : FnScope ["names", "seen", "name"] ["names"] (defScope s_check_different) := ⟨rfl, rfl, rfl, by decide +kernel, rfl, by decide +kernel, by decide +kernel⟩
theorem ok_check_different (T : Txt K mg a) : FnOk P w K mg base CX0 1 a.f_check_different a.f_check_different_d ["names"] spDiff := by
  refine T.F_check_different.ok sc_check_different (fun vs H Q E h => ?_) (fun cdv A outer s H vs Q E hr h => ?_)
  · obtain ⟨p, ns, rfl, _⟩ := h
    rfl
  obtain ⟨p, ns, rfl, hp, hnd, hl, q⟩ := h
  refine ⟨_, (pss_cons (ps_set (i := 1) sc_check_different.nd rfl (Or.inl rfl) (pe_callTy0 cr_set0K (by rfl) T.set (by decide +kernel)))
    (pss_one (ps_for PassesOwn.never rfl (pi_tup (pv 0)) (pg_name (i := 2) sc_check_different.nd rfl (Or.inl rfl))
      (pss_cons (ps_if (pt_cmpR or_sinK (pv 2) (pv 1) (by rfl))
        (pss_one ps_never)
        pss_nil)
      (pss_one (ps_expr (pe_saddK (pv 1) (pa_cons (pv 2) pa_nil)))))))), ?_⟩
  refine ⟨rfl, fun S nS => ?_⟩
  have sS := same_upd (o := SetK P w S (fun _ => false) 0) nS
  have hS : (upd H S (SetK P w S (fun _ => false) 0)) S = some (SetK P w S (fun _ => false) 0) := upd_same
  dsimp only [gName]
  refine ⟨_, rfl, p, rfl, ⟨_, .inl (.inl (sS _ _ hp))⟩, for_tup (K := K) (a := p) (xs := ns.map V.str) (fun i σ H' => ∃ (v2 : Option V) (F : Key → Bool), σ = [some (.ref p), some (.ref S), v2] ∧ Same H H' ∧ H' S = some (SetK P w S F i) ∧ ∀ z, F (Sum.inr z) = decide (z ∈ ns.take i))
    ⟨none, _, rfl, sS, hS, fun z => (decide_eq_false (by simp)).symm⟩ (fun i σ H' _ ⟨_, _, _, s', _⟩ => .inl (.inl (s' _ _ hp))) ?_ ?_⟩
  · rintro i x σ H2 hi ⟨v2, F, rfl, s2, hS2, hF⟩
    obtain ⟨z, hz, rfl⟩ := get_map hi
    have hil := (List.getElem?_eq_some_iff.mp hz).1
    have hnz : F (Sum.inr z) = false := by
      rw [hF]
      refine decide_eq_false fun hm => ?_
      obtain ⟨j, hj⟩ := List.mem_iff_getElem?.mp hm
      have hjl : j < i := by
        have := (List.getElem?_eq_some_iff.mp hj).1
        rw [List.length_take] at this
        omega
      rw [List.getElem?_take_of_lt hjl] at hj
      have := (List.getElem?_inj (by omega) hnd).mp (hj.trans hz.symm)
      omega
    dsimp only [gName]
    refine st_seq (st_no (fun Q q => ⟨_, rfl, _, rfl, Sum.inr z, S, F, i, rfl, rfl, hS2, _, rfl, ?_⟩) ?_)
    · rw [if_neg Bool.false_ne_true, hnz]
      exact q
    dsimp only [tNext]
    refine ⟨_, rfl, ⟨S, F, i, rfl, hS2⟩, _, rfl, S, Sum.inr z, F, i, rfl, rfl, hS2, Nat.lt_of_le_of_lt (show i + 1 ≤ 4000 by omega) (by decide), ?_⟩
    rw [hnz, if_neg Bool.false_ne_true]
    refine ⟨_, _, rfl, same_mut s2 nS, upd_same, fun y => ?_⟩
    rw [hF, List.take_add_one, hz]
    by_cases hy : y ∈ ns.take i
    · rw [decide_eq_true hy, decide_eq_true (List.mem_append_left _ hy)]
      rfl
    · rw [decide_eq_false hy]
      by_cases hyz : y = z
      · subst hyz
        rw [decide_eq_true rfl, decide_eq_true (List.mem_append_right _ (by simp))]
        rfl
      · rw [decide_eq_false (fun e => hyz (Sum.inr.inj e)), decide_eq_false (fun e => by
          rcases List.mem_append.mp e with e | e
          · exact hy e
          · exact hyz (by simpa using e))]
        rfl
  · rintro σ H2 ⟨v2, F, rfl, s2, hS2, hF⟩
    exact q H2 s2
theorem sc_check_known : FnScope ["names", "known", "name"] ["names", "known"] (defScope s_check_known) := ⟨rfl, rfl, rfl, by decide +kernel, rfl, by decide +kernel, by decide +kernel⟩
theorem ok_check_known (T : Txt K mg a) : FnOk P w K mg base CX0 1 a.f_check_known a.f_check_known_d ["names", "known"] spKnown := by
  refine T.F_check_known.ok sc_check_known (fun vs H Q E h => ?_) (fun cdv A outer s H vs Q E hr h => ?_)
  · obtain ⟨p, t, ns, ks, rfl, _⟩ := h
    rfl
  obtain ⟨p, t, ns, ks, rfl, hp, ht, hk, q⟩ := h
  refine ⟨_, (pss_one (ps_for PassesOwn.never rfl (pi_list (pv 0)) (pg_name (i := 2) sc_check_known.nd rfl (Or.inl rfl))
      (pss_one (ps_if (pt_cmpR op_notIn_seq (pv 2) (pv 1) (by rfl))
        (pss_one ps_never)
        pss_nil)))), ?_⟩
  refine ⟨_, rfl, p, rfl, ⟨_, SqL.of hp⟩, for_list (K := K) (a := p) (xs := ns.map V.str) (fun i σ H' => ∃ v2 : Option V, σ = [some (.ref p), some (.ref t), v2] ∧ H' = H)
    ⟨none, rfl, rfl⟩ (fun i σ H' _ ⟨_, _, e⟩ => by rw [e]; exact SqL.of hp) ?_ ?_⟩
  · rintro i x σ H2 hi ⟨v2, rfl, rfl⟩
    obtain ⟨z, hz, rfl⟩ := get_map hi
    dsimp only [gName]
    refine st_no (fun Q q => ⟨_, rfl, _, rfl, t, _, rfl, .inr (.inl (.inl ht)), rfl, flat_strs ks, _, rfl, ?_⟩) ⟨_, rfl, rfl⟩
    rw [if_pos rfl, inV_strs, decide_eq_true (hk z (List.mem_of_getElem? hz))]
    exact q
  · rintro σ H2 ⟨v2, rfl, rfl⟩
    exact q
theorem pla_eq : ∀ x : Ar, ∃ (z : Str) (u : D), dA x = tp [.str z, u] ∧ decide (V.str z = V.str "place") = isPla x
  | .pla v => ⟨_, _, rfl, decide_eq_true rfl⟩
  | .val e => ⟨_, _, rfl, no_place⟩
theorem sc_are_fitting : FnScope ["args", "params", "arg", "param"] ["args", "params"] (defScope s_are_fitting) := ⟨rfl, rfl, rfl, by decide +kernel, rfl, by decide +kernel, by decide +kernel⟩
theorem ok_are_fitting (T : Txt K mg a) : FnOk P w K mg base CX0 1 a.f_are_fitting a.f_are_fitting_d ["args", "params"] spFit := by
  refine T.F_are_fitting.ok sc_are_fitting (fun vs H Q E h => ?_) (fun cdv A outer s H vs Q E hr h => ?_)
  · obtain ⟨u, v, as, ps, rfl, _⟩ := h
    rfl
  obtain ⟨u, v, as, ps, rfl, hu, hv, hal, hpl, q⟩ := h
  refine ⟨_, (pss_cons (ps_if (pt_cmpR op_ne (pe_callB call_len_seq (by rfl) T.len PySem.boot_len (pa_cons (pv 0) pa_nil)) (pe_callB call_len_seq (by rfl) T.len PySem.boot_len (pa_cons (pv 1) pa_nil)) (nomark _))
      (pss_one (ps_ret pe_bl))
      pss_nil)
    (pss_one (ps_ret (pe_callB (cr_all rfl) (by rfl) T.all (by decide +kernel) (pa_cons (pe_lc (own := [("arg", 2), ("param", 3)]) (g := gTup K 2 (gCons (gName 2) (gCons (gName 3) gNil))) (tt := tYes) (by rfl) sc_are_fitting.nd (RZ.pi_zipA (by rfl) T.zip (pa_cons (pv 0) (pa_cons (pv 1) pa_nil))) (blkOk_by (own := [("arg", 2), ("param", 3)]) (N := ["args", "params", "arg", "param"]) (sc := defScope s_are_fitting) (by decide +kernel)) (fun _ _ _ _ _ => pg_tup (by rfl) (pgs_cons (pg_name (i := 2) sc_are_fitting.nd rfl (Or.inl rfl)) (pgs_cons (pg_name (i := 3) sc_are_fitting.nd rfl (Or.inl rfl)) pgs_nil))) (fun _ _ _ _ _ => pts_nil) (fun _ _ _ _ _ => (pe_cmpR op_eq (pe_cmpR op_eq (pe_ix (show IxR _ (rIxT K) from ix_tup) (pv 2) pe_int (fun _ _ => rfl)) pe_str (nomark _)) (pe_ix (show IxR _ (rIxT K) from ix_tup) (pv 3) pe_int (fun _ _ => rfl)) (nomark _)))) pa_nil))))), ?_⟩
  obtain ⟨r, xs, rfl, hr0, hxs⟩ := hu
  obtain ⟨t, ys, rfl, ht0, hys⟩ := hv
  have hxl := hxs.len
  have hyl := hys.len
  rw [List.length_map] at hxl hyl
  by_cases hlen : as.length = ps.length
  · have hd : (!decide (V.int xs.length = V.int ys.length)) = false := by rw [hxl, hyl, hlen, decide_eq_true rfl]; rfl
    refine st_seq (st_no (fun Q q => ⟨_, rfl, _, _, rfl, .inr (.inl (.inl hr0)), _, rfl, _, _, rfl, .inr (.inl (.inl ht0)), rfl, _, rfl, by rw [hd]; exact q⟩) ?_)
    dsimp only [tNext]
    have hll : xs.length = ys.length := by omega
    refine ⟨_, rfl, _, rfl, r, t, xs, ys, rfl, .inr ⟨.inl (.inl hr0), .inl (.inl ht0), fun N nN => it_any xs.length (fun i H' => Same H H' ∧ H' N = some (.lst ((((as.zip ps).take i).map fun p => decide (V.bl (isPla p.1) = V.bl p.2.2)).map V.bl))) ⟨same_upd nN, upd_same⟩ (fun i H' hi hh => ?_) (fun H' hh => ?_) ?_ ?_⟩⟩
    · exact ⟨xs, ys, xs[i], ys[i]'(by omega), .inl (.inl (hh.1 _ _ hr0)), .inl (.inl (hh.1 _ _ ht0)), List.getElem?_eq_getElem hi, List.getElem?_eq_getElem (by omega)⟩
    · exact ⟨xs, ys, .inl (.inl (hh.1 _ _ hr0)), .inl (.inl (hh.1 _ _ ht0)), .inl (Nat.le_refl _)⟩
    · rintro i x H2 H3 hi ⟨s2, hN2⟩ ⟨c, x1, x2, rfl, nc, rfl, h1, h2⟩
      have h1 := h1 xs (.inl (.inl (s2 _ _ hr0)))
      have h2 := h2 ys (.inl (.inl (s2 _ _ ht0)))
      obtain ⟨d1, hd1, hx1⟩ := (hxs.mono (TK.of s2)).get h1
      obtain ⟨d2, hd2, hx2⟩ := (hys.mono (TK.of s2)).get h2
      obtain ⟨ar, har, rfl⟩ := get_map hd1
      obtain ⟨pa, hpa, rfl⟩ := get_map hd2
      have sc := same_upd (o := .tup [x1, x2]) nc
      obtain ⟨z, ud, e1, e2⟩ := pla_eq ar
      rw [e1] at hx1
      obtain ⟨ra, _, rfl, hra, b1, _, rfl, hb1, b2, _, rfl, _, rfl⟩ := hx1
      have hb1 : b1 = .str z := hb1
      subst hb1
      obtain ⟨rp, _, rfl, hrp, c1, _, rfl, _, c2, _, rfl, hc2, rfl⟩ := hx2
      have hc2 : c2 = .bl pa.2 := hc2
      subst hc2
      have hz : (as.zip ps)[i]? = some (ar, pa) := List.getElem?_zip_eq_some.mpr ⟨har, hpa⟩
      have hN3 := sc _ _ hN2
      refine ⟨c, _, rfl, .inl (.inl upd_same), rfl, .ref ra, _, rfl, .ref rp, [], rfl, rfl, rfl, ?_⟩
      refine ⟨_, rfl, ra, _, _, _, rfl, rfl, .inl (.inl (sc _ _ hra)), atI_nat (j := 0) rfl, rfl, _, rfl, rp, _, _, _, rfl, rfl, .inl (.inl (sc _ _ hrp)), atI_nat (j := 1) rfl, rfl, ?_⟩
      refine ⟨_, hN3, ?_, same_mut (s2.trans sc) nN, ?_⟩
      · rw [List.length_map]
        exact len_take (n := 1000) (by rw [List.length_zip]; omega) (by decide)
      · rw [upd_same, List.take_add_one, hz, List.map_append, List.map_append, e2]
        rfl
    · rintro H2 ⟨s2, hN2⟩
      have htk : (as.zip ps).take xs.length = as.zip ps := List.take_of_length_le (by rw [List.length_zip]; omega)
      rw [htk] at hN2
      have := q H2 s2
      unfold fitB at this
      rw [decide_eq_true hlen, Bool.true_and] at this
      exact ⟨N, _, rfl, SqL.of hN2, this⟩
  · have hd : (!decide (V.int xs.length = V.int ys.length)) = true := by
      rw [decide_eq_false (fun e => hlen (by have := V.int.inj e; omega))]
      rfl
    refine st_seq (st_yes (fun Q q => ⟨_, rfl, _, _, rfl, .inr (.inl (.inl hr0)), _, rfl, _, _, rfl, .inr (.inl (.inl ht0)), rfl, _, rfl, by rw [hd]; exact q⟩) ?_)
    have := q H (Same.refl _)
    unfold fitB at this
    rw [decide_eq_false hlen, Bool.false_and] at this
    exact this
theorem sc_is_barred : FnScope ["block", "statement"] ["block"] (defScope s_is_barred) := ⟨rfl, rfl, rfl, by decide +kernel, rfl, by decide +kernel, by decide +kernel⟩
theorem ok_is_barred (T : Txt K mg a) {tS tU tF : Addr} (B : Tabs K w mg a tS tU tF) : FnOk P w K mg base CX0 11 a.f_is_barred a.f_is_barred_d ["block"] spBarred := by
  refine T.F_is_barred.ok sc_is_barred (fun vs H Q E h => ?_) (fun cdv A outer s H vs Q E hr h => ?_)
  · obtain ⟨v, x, rfl, _⟩ := h
    rfl
  obtain ⟨v, x, rfl, hv, hF, hht, hsz, q⟩ := h
  refine ⟨_, (pss_one (ps_ret (pe_callB (cr_any rfl) (by rfl) T.any (by decide +kernel) (pa_cons (pe_lc (own := [("statement", 1)]) (g := gName 1) (tt := tYes) (by rfl) sc_is_barred.nd (pi_list (pe_call (ok_listed T B 8) (hr.mono (by decide)) (by rfl) T.g_listed T.F_listed.kp T.b_listed .nil pass0 (pa_cons (pv 0) pa_nil))) (blkOk_by (own := [("statement", 1)]) (N := ["block", "statement"]) (sc := defScope s_is_barred) (by decide +kernel)) (fun _ _ _ _ _ => pg_name (i := 1) sc_is_barred.nd rfl (Or.inl rfl)) (fun _ _ _ _ _ => pts_nil) (fun _ _ _ _ _ => (pe_cmpR (show OpR _ _ (rIn K false) from op_in_seq) (pe_ix (show IxR _ (rIxT K) from ix_tup) (pv 1) pe_int (fun _ _ => rfl)) (pe_gr rfl T.g_BARRED_FROM_FINALLY) (by rfl)))) pa_nil)))), ?_⟩
  have hlb := list_szB x
  refine ⟨_, rfl, v, x, rfl, hv, hF, hht, hsz, fun H1 L xs s1 nL hL hxs => ⟨L, rfl, ⟨_, SqL.of hL⟩, fun N nN => ?_⟩⟩
  have hxl := hxs.len
  rw [List.length_map] at hxl
  have hbf : bars.all flatV = true := by decide +kernel
  refine lc_list (K := K) (a := L) (xs := xs) (fun i H' => Same H1 H' ∧ H' N = some (.lst ((((listB x).take i).map barB).map V.bl))) ⟨same_upd nN, upd_same⟩ (fun i H' _ hh => SqL.of (hh.1 _ _ hL)) ?_ ?_
  · rintro i y H2 hi ⟨s2, hN2⟩
    obtain ⟨d, hd, hy⟩ := (hxs.mono (TK.of s2)).get hi
    obtain ⟨st, hst, rfl⟩ := get_map hd
    rw [dS_is] at hy
    obtain ⟨r, _, rfl, hr0, x0, ys, rfl, hx0, _⟩ := hy
    have hx0 : x0 = .str st.word := hx0
    subst hx0
    refine ⟨rfl, _, rfl, r, _, _, _, rfl, rfl, .inl (.inl hr0), atI_nat (j := 0) rfl, a.t_BARRED_FROM_FINALLY, bars, rfl, .inr (T.q_BARRED_FROM_FINALLY H2), rfl, hbf, ?_⟩
    refine ⟨_, hN2, ?_, same_mut s2 nN, ?_⟩
    · rw [List.length_map]
      exact len_take (n := 100000) (by omega) (by decide)
    · rw [upd_same, List.take_add_one, hst, List.map_append, List.map_append]
      rfl
  · rintro H2 ⟨s2, hN2⟩
    rw [hxl, List.take_length] at hN2
    have := q H2 (s1.trans s2)
    refine ⟨N, _, rfl, SqL.of hN2, ?_⟩
    rw [List.any_map]
    exact this
theorem sc_own_names : FnScope ["variables", "function", "name", "_"] ["variables", "function"] (defScope s_own_names) := ⟨rfl, rfl, rfl, by decide +kernel, rfl, by decide +kernel, by decide +kernel⟩
theorem ok_own_names (T : Txt K mg a) {tS tU tF : Addr} (B : Tabs K w mg a tS tU tF) : FnOk P w K mg base CX0 12 a.f_own_names a.f_own_names_d ["variables", "function"] spOwn := by
  refine T.F_own_names.ok sc_own_names (fun vs H Q E h => ?_) (fun cdv A outer s H vs Q E hr h => ?_)
  · obtain ⟨v1, v2, gs, f, rfl, _⟩ := h
    rfl
  obtain ⟨v1, v2, gs, f, rfl, hv1, hv2, hgl, hpl, hF, hht, hsz, q⟩ := h
  refine ⟨_, (pss_one (ps_ret (pe_callTy call_tuple_of (by rfl) T.tuple (by decide +kernel) (pa_cons (pe_op op_cat (pe_lc (own := [("name", 2), ("_", 3)]) (g := gTup K 2 (gCons (gName 2) (gCons (gName 3) gNil))) (tt := tYes) (by rfl) sc_own_names.nd (pi_tup (pe_ix ix_tup (pv 1) pe_int (fun _ _ => rfl))) (blkOk_by (own := [("name", 2), ("_", 3)]) (N := ["variables", "function", "name", "_"]) (sc := defScope s_own_names) (by decide +kernel)) (fun _ _ _ _ _ => pg_tup (by rfl) (pgs_cons (pg_name (i := 2) sc_own_names.nd rfl (Or.inl rfl)) (pgs_cons (pg_name (i := 3) sc_own_names.nd rfl (Or.inl rfl)) pgs_nil))) (fun _ _ _ _ _ => pts_nil) (fun _ _ _ _ _ => (pv 2))) (pe_call (ok_locals_of T B) (hr.mono (by decide)) (by rfl) T.g_locals_of T.F_locals_of.kp T.b_locals_of .nil pass0 (pa_cons (pv 0) (pa_cons (pv 1) pa_nil)))) pa_nil)))), ?_⟩
  have hv2' := hv2
  obtain ⟨r2, _, rfl, hr2, x1, _, rfl, hx1, x2, _, rfl, hx2, x3, _, rfl, hx3, rfl⟩ := hv2
  obtain ⟨rp, xs, rfl, hrp, hxs⟩ := hx2
  refine ⟨_, rfl, r2, _, _, _, rfl, rfl, .inl (.inl hr2), atI_nat (j := 1) rfl, rp, rfl, ⟨_, .inl (.inl hrp)⟩, fun M nM => lc_tupD (fun _ => true) fstD nM hrp hxs (by rw [List.length_map]; omega) (fun x d H' Q M' hd hxd s1 hy _ => ?_) (fun H2 zs s2 hM hz => ?_)⟩
  · obtain ⟨e, he, rfl⟩ := List.mem_map.mp hd
    obtain ⟨r3, _, rfl, hr3, a1, _, rfl, ha1, a2, _, rfl, _, rfl⟩ := hxd
    exact ⟨r3, _, rfl, .inl (.inl hr3), rfl, a1, _, rfl, a2, [], rfl, rfl, rfl, _, rfl, hy rfl _ H' (Same.refl _) ha1⟩
  rw [filter_yes, List.map_map] at hz
  have hz2 : zs = (f.ps.map (·.1)).map V.str := by
    have : Dvs H2 zs (DL.of ((f.ps.map (·.1)).map D.str)) := by
      rw [List.map_map]
      exact hz
    exact this.strs
  subst hz2
  have hll := locals_len gs f
  refine ⟨_, rfl, _, rfl, v1, .ref r2, gs, f, rfl, hv1.mono (TK.of s2), hv2'.mono (TK.of s2), hgl, hpl, hF, hht, hsz, fun H3 L s3 nL hL => ?_⟩
  refine ⟨M, L, _, _, rfl, rfl, s3 _ _ hM, hL, bigLe (by rw [List.length_map, List.length_map, List.length_map]; omega), fun N nN => ?_⟩
  have sN := same_upd (o := .lst ((f.ps.map (·.1)).map V.str ++ (localsT gs f).map V.str)) nN
  refine ⟨N, _, rfl, .inl ⟨SqL.of upd_same, fun p np => ?_⟩⟩
  refine q _ p (((s2.trans s3).trans sN).trans (same_upd np)) ?_
  rw [upd_same, List.map_append]
theorem TS.sz_pos : ∀ s : TS, 1 ≤ s.sz := fun s => by rw [← blks_sz]; omega
theorem TB.len_sz : ∀ x : TB, x.L.length ≤ x.sz
  | .nil => Nat.le_refl _
  | .cons s r => by
    have h1 := TS.sz_pos s
    have h2 := TB.len_sz r
    show r.L.length + 1 ≤ s.sz + r.sz
    omega
theorem sc_depth_of : FnScope ["block", "statement", "inner"] ["block"] (defScope s_depth_of) := ⟨rfl, rfl, rfl, by decide +kernel, rfl, by decide +kernel, by decide +kernel⟩
theorem ok_depth_of1 (T : Txt K mg a) {tS tU tF : Addr} (B : Tabs K w mg a tS tU tF) (n k : Nat) (hk : 2 ≤ k) (ih : FnOk P w K mg base CX0 k a.f_depth_of a.f_depth_of_d ["block"] (spDepth n)) : FnOk P w K mg base CX0 (k + 1) a.f_depth_of a.f_depth_of_d ["block"] (spDepth (n + 1)) := by
  refine T.F_depth_of.ok sc_depth_of (fun vs H Q E h => ?_) (fun cdv A outer s H vs Q E hr h => ?_)
  · obtain ⟨v, x, rfl, _⟩ := h
    rfl
  obtain ⟨v, x, rfl, hv, hF, hht, hsz, q⟩ := h
  refine ⟨_, (pss_one (ps_ret (pe_op op_add pe_int (pe_call (ok_largest T) (hr.mono (by omega)) (by rfl) T.g_largest T.F_largest.kp T.b_largest .nil pass0 (pa_cons (pe_lc2 (own := [("statement", 1), ("inner", 2)]) (g := gName 1) (g1 := gName 2) (tt := tYes) (tt1 := tYes) (vs1 := [2]) (by rfl) sc_depth_of.nd (pi_tup (pv 0)) (blkOk_by (own := [("statement", 1), ("inner", 2)]) (N := ["block", "statement", "inner"]) (sc := defScope s_depth_of) (by decide +kernel)) (by decide) (fun _ _ _ _ _ => pg_name (i := 1) sc_depth_of.nd rfl (Or.inl rfl)) (fun _ _ _ _ _ => pts_nil) (fun _ _ _ _ _ => (show PI _ _ _ (iList K _) from (pi_list (pe_call (ok_blocks_in T B) (hr.mono (by omega)) (by rfl) T.g_blocks_in T.F_blocks_in.kp T.b_blocks_in .nil pass0 (pa_cons (pv 1) pa_nil))))) (fun _ _ _ _ _ => pg_name (i := 2) sc_depth_of.nd rfl (Or.inl rfl)) (fun _ _ _ _ _ => pts_nil) (fun _ _ _ _ _ => (pe_call ih hr (by rfl) T.g_depth_of T.F_depth_of.kp T.b_depth_of .nil pass0 (pa_cons (pv 2) pa_nil)))) pa_nil))))), ?_⟩
  obtain ⟨r, xs, rfl, hr0, hxs⟩ := hv
  have hxs : Dvs H xs (dB x) := hxs
  rw [dB_L] at hxs
  have hxl := hxs.len
  rw [List.length_map] at hxl
  have hll := TB.len_sz x
  have hfl : (x.L.flatMap TS.blks).length ≤ 4000000 := Nat.le_trans (flat_le (m := 4000) fun s hs => (TS.f_blks (TB.f_mem hF hs)).2) (by
    have : x.L.length * 4000 ≤ 1000 * 4000 := Nat.mul_le_mul_right _ (by omega)
    omega)
  refine ⟨_, rfl, r, rfl, ⟨_, .inl (.inl hr0)⟩, fun N nN => it_tup (K := K) (a := r) (xs := xs) (fun i H' => Same H H' ∧ ∃ ns : List Int, H' N = some (.lst (ns.map V.int)) ∧ (∀ n ∈ ns, 0 ≤ n ∧ n ≤ (x.ht : Int)) ∧ ns.length = ((x.L.take i).flatMap TS.blks).length) ⟨same_upd nN, [], upd_same, (fun n hn => by cases hn), rfl⟩ (fun i H' _ hh => .inl (.inl (hh.1 _ _ hr0))) ?_ ?_⟩
  · rintro i y H2 hi ⟨s2, ns, hN, hns, hnl⟩
    obtain ⟨d, hd, hyd⟩ := (hxs.mono (TK.of s2)).get hi
    obtain ⟨st, hst, rfl⟩ := get_map hd
    have hm := List.mem_of_getElem? hst
    have hsF := TB.f_mem hF hm
    have hsH := TB.ht_mem2 hm
    have et := flat_take (g := TS.blks) hst
    obtain ⟨hFb, hFl⟩ := TS.f_blks hsF
    have b1 : ((x.L.take (i + 1)).flatMap TS.blks).length ≤ (x.L.flatMap TS.blks).length := flat_take_le
    rw [et, List.length_append] at b1
    have hsl : st.sz ≤ x.sz := by
      rw [← TB.sz_sum]
      exact sum_mem (List.mem_map_of_mem hm)
    refine ⟨rfl, _, rfl, y, st, rfl, hyd, hsF, fun H3 L ls s3 nL hL hls => ?_⟩
    have hll := hls.len
    rw [List.length_map] at hll
    have hNL : N ≠ L := ne_of_none hN nL
    refine ⟨L, rfl, ⟨_, SqL.of hL⟩, it_lst (K := K) (a := L) (xs := ls) (fun j H' => Same H H' ∧ H' L = some (.lst ls) ∧ Dvs H' ls (DL.of (st.blks.map dBk)) ∧ ∃ ns : List Int, H' N = some (.lst (ns.map V.int)) ∧ (∀ n ∈ ns, 0 ≤ n ∧ n ≤ (x.ht : Int)) ∧ ns.length = ((x.L.take i).flatMap TS.blks).length + j) ⟨s2.trans s3, hL, hls, ns, s3 _ _ hN, hns, hnl⟩ (fun i H' _ hh => SqL.of hh.2.1) ?_ ?_⟩
    · rintro j u H4 hj ⟨s4, hL4, hls4, ns4, hN4, hns4, hnl4⟩
      have hjl := (List.getElem?_eq_some_iff.mp hj).1
      obtain ⟨d5, hd5, hu⟩ := hls4.get hj
      obtain ⟨bx, hbx, rfl⟩ := get_map hd5
      have hbm := List.mem_of_getElem? hbx
      have bh := blks_htS (Nat.le_trans hsH hht) bx hbm
      have bh2 := blks_htS hsH bx hbm
      have bs : bx.sz ≤ st.sz := by
        have h1 := sum_mem (List.mem_map_of_mem (f := TB.sz) hbm)
        have h2 := blks_sz (s := st)
        omega
      obtain ⟨m, rfl⟩ : ∃ m, n = m + 1 := ⟨n - 1, by omega⟩
      refine ⟨rfl, _, rfl, u, bx, rfl, hu, hFb bx hbm, by omega, by omega, fun H5 r5 s5 r50 r51 => ?_⟩
      have hN5 := s5 _ _ hN4
      refine ⟨_, hN5, bigLine2 (by rw [List.length_map]; omega), same_mut (s4.trans s5) nN, by rw [upd_ne hNL.symm]; exact s5 _ _ hL4, (hls4.mono (TK.of s5)).mono (TK.upd hN5 (fun _ z => by cases z)), ns4 ++ [r5], by rw [upd_same, List.map_append]; rfl, fun n hn => ?_, by rw [List.length_append, hnl4]; rfl⟩
      rcases List.mem_append.mp hn with hn | hn
      · exact hns4 n hn
      · rw [List.mem_singleton.mp hn]
        omega
    · rintro H4 ⟨s4, hL4, hls4, ns4, hN4, hns4, hnl4⟩
      exact ⟨s4, ns4, hN4, hns4, by rw [et, List.length_append, hnl4, hll]⟩
  · rintro H2 ⟨s2, ns, hN, hns, hnl⟩
    refine ⟨N, ns, rfl, hN, fun m hm hle => ⟨_, _, rfl, rfl, q H2 _ s2 ?_ ?_⟩⟩
    · rcases hm with rfl | hm
      · decide
      · have := (hns m hm).1
        omega
    · rcases hm with rfl | hm
      · omega
      · have := (hns m hm).2
        omega
theorem ok_depth_of (T : Txt K mg a) {tS tU tF : Addr} (B : Tabs K w mg a tS tU tF) : ∀ n : Nat, FnOk P w K mg base CX0 (2 + n) a.f_depth_of a.f_depth_of_d ["block"] (spDepth n)
  | 0 => ⟨fun _ _ _ _ h => h.elim, fun _ _ _ _ _ _ _ _ _ _ _ _ _ h => h.elim⟩
  | n + 1 => ok_depth_of1 T B n (2 + n) (Nat.le_add_right _ _) (ok_depth_of T B n)
end
end K10
namespace K10
open PySem PySem.Spec PyProof.Rows L2 TL
/-! ### whole trees: the form, the sizes -/
structure FnF (f : FnT) : Prop where
  nm : NmOk f.nm
  ps : ∀ p ∈ f.ps, NmOk p.1
  bk : f.bk.F
structure TreeF (t : Tree) : Prop where
  gs : NsF t.gs
  ks : NsF t.ks
  kp : ∀ e ∈ t.kp, SumF e ∧ e.1 = 0
  fs : ∀ f ∈ t.fs, FnF f
structure TreeSz (t : Tree) : Prop where
  g : t.gs.length ≤ 4
  k : t.ks.length ≤ 3
  kp : t.kp.length ≤ 4
  f : t.fs.length ≤ 6
  ps : ∀ f ∈ t.fs, f.ps.length ≤ 3 ∧ byPl f.ps ≤ 2 ∧ (localsT t.gs f).length ≤ 3 ∧ f.bk.ht ≤ 5
  st : (t.fs.map fun f => f.bk.sz).sum ≤ 60
theorem TreeSz.sz {t : Tree} (h : TreeSz t) {f : FnT} (hf : f ∈ t.fs) : f.bk.sz ≤ 60 := Nat.le_trans (sum_mem (List.mem_map_of_mem (f := fun f : FnT => f.bk.sz) hf)) h.st
def lsB (x : TB) : List Ex := (listB x).flatMap TS.sums
def lsF (fs : List FnT) : List Ex := fs.flatMap fun f => lsB f.bk
theorem sums_le {s : TS} (h : s.F) : s.sums.length ≤ 104 := by
  unfold TS.sums
  rw [List.length_append]
  have h1 := flat_le (g := Part.sums) (m := 1) (l := s.parts) fun p _ => by
    rcases sums_sort p with ⟨_, y, e, _⟩ | ⟨_, e⟩
    · rw [e]
      exact Nat.le_refl _
    · rw [e]
      exact Nat.zero_le _
  have h0 := parts_len s
  have hc := calls_ok h
  have h2 := flat_le (g := fun c : Str × List Ar => arSums c.2) (m := 50) (l := s.calls) fun y hy => Nat.le_trans (List.length_filterMap_le _ _) (hc.2 y hy).2.len
  have h3 : s.calls.length * 50 ≤ 2 * 50 := Nat.mul_le_mul_right _ hc.1
  omega
theorem sums_F {s : TS} (h : s.F) : ∀ e ∈ s.sums, SumF e := by
  intro e he
  unfold TS.sums at he
  rcases List.mem_append.mp he with he | he
  · obtain ⟨p, hp, he⟩ := List.mem_flatMap.mp he
    have hF := TS.f_parts h p hp
    cases p with
    | sum e' => rw [List.mem_singleton.mp he]; exact hF
    | _ => cases he
  · obtain ⟨c, hc, he⟩ := List.mem_flatMap.mp he
    have hF := ((calls_ok h).2 c hc).2
    obtain ⟨x, hx, hxe⟩ := List.mem_filterMap.mp he
    have := hF.ok x hx
    cases x with
    | pla _ => cases hxe
    | val e' => rw [← Option.some.inj hxe]; exact this
mutual
theorem listS_F : ∀ {s : TS}, s.F → ∀ r ∈ listS s, r.F
  | .pl p, h, r, hr => by rw [List.mem_singleton.mp hr]; exact h
  | .iff x y, h, r, hr => by
    rcases List.mem_cons.mp hr with rfl | hr
    · exact h
    · rcases List.mem_append.mp hr with hr | hr
      · exact listB_F h.1 r hr
      · exact listB_F h.2 r hr
  | .whl x, h, r, hr => by
    rcases List.mem_cons.mp hr with rfl | hr
    · exact h
    · exact listB_F (x := x) h r hr
  | .undo vs x, h, r, hr => by
    rcases List.mem_cons.mp hr with rfl | hr
    · exact h
    · exact listB_F h.2.2 r hr
  | .tr x hs y, h, r, hr => by
    rcases List.mem_cons.mp hr with rfl | hr
    · exact h
    · rcases List.mem_append.mp hr with hr | hr
      · exact listB_F h.1 r hr
      · rcases List.mem_append.mp hr with hr | hr
        · exact listH_F h.2.2.1 r hr
        · exact listB_F h.2.2.2 r hr
  | .wth f as g bs ks x, h, r, hr => by
    rcases List.mem_cons.mp hr with rfl | hr
    · exact h
    · exact listB_F h.2.2.2.2.2 r hr
theorem listB_F : ∀ {x : TB}, x.F → ∀ r ∈ listB x, r.F
  | .nil, _, _, hr => by cases hr
  | .cons s x, h, r, hr => by
    rcases List.mem_append.mp hr with hr | hr
    · exact listS_F h.1 r hr
    · exact listB_F h.2 r hr
theorem listH_F : ∀ {x : TH}, x.F → ∀ r ∈ listH x, r.F
  | .nil, _, _, hr => by cases hr
  | .cons _ x y, h, r, hr => by
    rcases List.mem_append.mp hr with hr | hr
    · exact listB_F h.2.2.1 r hr
    · exact listH_F h.2.2.2 r hr
end
theorem lsB_le {x : TB} (h : x.F) : (lsB x).length ≤ x.sz * 104 := by
  rw [← list_szB]
  exact flat_le fun s hs => sums_le (listB_F h s hs)
theorem sum_mul (c : Nat) : ∀ l : List FnT, (l.map fun f => f.bk.sz * c).sum = (l.map fun f => f.bk.sz).sum * c
  | [] => by simp
  | x :: r => by rw [List.map_cons, List.map_cons, List.sum_cons, List.sum_cons, Nat.add_mul, sum_mul c r]
theorem lsF_le : ∀ {fs : List FnT}, (∀ f ∈ fs, FnF f) → (lsF fs).length ≤ (fs.map fun f => f.bk.sz * 104).sum
  | [], _ => Nat.le_refl _
  | x :: r, h => by
    have h1 := lsB_le (h x List.mem_cons_self).bk
    have h2 := lsF_le (fs := r) fun f hf => h f (List.mem_cons_of_mem _ hf)
    unfold lsF at h2 ⊢
    rw [List.flatMap_cons, List.length_append, List.map_cons, List.sum_cons]
    omega
theorem lsF_len {t : Tree} (h : TreeF t) (z : TreeSz t) : (lsF t.fs).length ≤ 6240 := by
  have h1 := lsF_le h.fs
  rw [sum_mul] at h1
  have h2 : (t.fs.map fun f => f.bk.sz).sum * 104 ≤ 60 * 104 := Nat.mul_le_mul_right _ z.st
  omega
theorem lsF_F {t : Tree} (h : TreeF t) : ∀ e ∈ lsF t.fs, SumF e := by
  intro e he
  obtain ⟨f, hf, he⟩ := List.mem_flatMap.mp he
  obtain ⟨s, hs, he⟩ := List.mem_flatMap.mp he
  exact sums_F (listB_F (h.fs f hf).bk s hs) e he
def spNums : Sp := fun vs H Q _ => ∃ (v : V) (t : Tree), vs = [v] ∧ Dv H v (dT t) ∧ TreeF t ∧ TreeSz t ∧ ∀ (H' : Hp) (L : Addr) (ns : List Int), Same H H' → H L = none → H' L = some (.lst (ns.map V.int)) → ns.length ≤ 1000000 → (∀ n ∈ ns, Mid12 n) → Q (.ref L) H'
theorem Dvs.ex_get {H : Hp} {l : List Ex} {ys : List V} (h : Dvs H ys (DL.of (l.map dE))) {i : Nat} {y : V} (hy : ys[i]? = some y) : ∃ e, l[i]? = some e ∧ Dv H y (dE e) := by
  obtain ⟨d, hd, hx⟩ := h.get hy
  obtain ⟨e, he, rfl⟩ := get_map hd
  exact ⟨e, he, hx⟩
section
variable {P : Program} {w : World} {K : PySem.W.Frag} {mg : Str → Option Value} {base : Heap} {a : Ads}
theorem sc_numbers_in : FnScope ["tree", "sums", "_", "block", "statement", "constant", "terms", "factor"] ["tree"] (defScope s_numbers_in) := ⟨rfl, rfl, rfl, by decide +kernel, rfl, by decide +kernel, by decide +kernel⟩
theorem ok_numbers_in (T : Txt K mg a) {tS tU tF : Addr} (B : Tabs K w mg a tS tU tF) : FnOk P w K mg base CX0 11 a.f_numbers_in a.f_numbers_in_d ["tree"] spNums := by
  refine T.F_numbers_in.ok sc_numbers_in (fun vs H Q E h => ?_) (fun cdv A outer s H vs Q E hr h => ?_)
  · obtain ⟨v, t, rfl, _⟩ := h
    rfl
  obtain ⟨v, t, rfl, hv, hF, hZ, q⟩ := h
  refine ⟨_, (pss_cons (ps_set (i := 1) sc_numbers_in.nd rfl (Or.inl rfl) (pe_callTy call_list_of (by rfl) T.list (by decide +kernel) (pa_cons (pe_ix ix_tup (pv 0) pe_int (fun _ _ => rfl)) pa_nil)))
    (pss_cons (ps_for PassesOwn.never rfl (pi_tup (pe_ix ix_tup (pv 0) pe_int (fun _ _ => rfl))) (pg_tup (by rfl) (pgs_cons (pg_name (i := 2) sc_numbers_in.nd rfl (Or.inl rfl)) (pgs_cons (pg_name (i := 2) sc_numbers_in.nd rfl (Or.inl rfl)) (pgs_cons (pg_name (i := 3) sc_numbers_in.nd rfl (Or.inl rfl)) pgs_nil))))
      (pss_one (ps_for PassesOwn.never rfl (pi_list (pe_call (ok_listed T B 8) (hr.mono (by decide)) (by rfl) T.g_listed T.F_listed.kp T.b_listed .nil pass0 (pa_cons (pv 3) pa_nil))) (pg_name (i := 4) sc_numbers_in.nd rfl (Or.inl rfl))
        (pss_one (ps_expr (pe_bm PySem.F.plainAttrs_list PySem.F.slot_list_extend PySem.F.type_list_extend mt_extend (pv 1) (pa_cons (pe_call (ok_sums_in T B) (hr.mono (by decide)) (by rfl) T.g_sums_in T.F_sums_in.kp T.b_sums_in .nil pass0 (pa_cons (pv 4) pa_nil)) pa_nil)))))))
    (pss_one (ps_ret (pe_op op_cat (pe_lc (own := [("constant", 5), ("_", 2)]) (g := gTup K 2 (gCons (gName 5) (gCons (gName 2) gNil))) (tt := tYes) (by rfl) sc_numbers_in.nd (pi_list (pv 1)) (blkOk_by (own := [("constant", 5), ("_", 2)]) (N := ["tree", "sums", "_", "block", "statement", "constant", "terms", "factor"]) (sc := defScope s_numbers_in) (by decide +kernel)) (fun _ _ _ _ _ => pg_tup (by rfl) (pgs_cons (pg_name (i := 5) sc_numbers_in.nd rfl (Or.inl rfl)) (pgs_cons (pg_name (i := 2) sc_numbers_in.nd rfl (Or.inl rfl)) pgs_nil))) (fun _ _ _ _ _ => pts_nil) (fun _ _ _ _ _ => (pv 5))) (pe_lc2 (own := [("_", 2), ("terms", 6), ("factor", 7)]) (g := gTup K 2 (gCons (gName 2) (gCons (gName 6) gNil))) (g1 := gTup K 2 (gCons (gName 2) (gCons (gName 7) gNil))) (tt := tYes) (tt1 := tYes) (vs1 := [2, 7]) (by rfl) sc_numbers_in.nd (pi_list (pv 1)) (blkOk_by (own := [("_", 2), ("terms", 6), ("factor", 7)]) (N := ["tree", "sums", "_", "block", "statement", "constant", "terms", "factor"]) (sc := defScope s_numbers_in) (by decide +kernel)) (by decide) (fun _ _ _ _ _ => pg_tup (by rfl) (pgs_cons (pg_name (i := 2) sc_numbers_in.nd rfl (Or.inl rfl)) (pgs_cons (pg_name (i := 6) sc_numbers_in.nd rfl (Or.inl rfl)) pgs_nil))) (fun _ _ _ _ _ => pts_nil) (fun _ _ _ _ _ => (show PI _ _ _ (iTup K (tVar 6)) from (pi_tup (pv 6)))) (fun _ _ _ _ _ => pg_tup (by rfl) (pgs_cons (pg_name (i := 2) sc_numbers_in.nd rfl (Or.inl rfl)) (pgs_cons (pg_name (i := 7) sc_numbers_in.nd rfl (Or.inl rfl)) pgs_nil))) (fun _ _ _ _ _ => pts_nil) (fun _ _ _ _ _ => (pv 7)))))))), ?_⟩
  have hll := lsF_len hF hZ
  have hlF := lsF_F hF
  have hkl := hZ.kp
  obtain ⟨r, _, rfl, hr0, y1, _, rfl, _, y2, _, rfl, _, y3, _, rfl, hy3, y4, _, rfl, hy4, rfl⟩ := hv
  obtain ⟨pk, kx, rfl, hpk, hkx⟩ := hy3
  obtain ⟨pf, fx, rfl, hpf, hfx⟩ := hy4
  have hkxl := hkx.len
  rw [List.length_map] at hkxl
  have hfxl := hfx.len
  rw [List.length_map] at hfxl
  refine ⟨_, rfl, r, _, _, _, rfl, rfl, .inl (.inl hr0), atI_nat (j := 2) rfl, pk, _, rfl, .inr (.inl (.inl hpk)), fun S nS => ?_⟩
  have sS := same_upd (o := .lst kx) nS
  have hS : (upd H S (.lst kx)) S = some (.lst kx) := upd_same
  dsimp only [gName]
  generalize upd H S (.lst kx) = H1 at sS hS
  have tkS : ∀ {H' : Hp} {zs zs' : List V}, H' S = some (.lst zs) → TK H' (upd H' S (.lst zs')) := fun h => TK.upd h (fun _ z => by cases z)
  refine st_seq ⟨_, rfl, r, _, _, _, rfl, rfl, .inl (.inl (sS _ _ hr0)), atI_nat (j := 3) rfl, pf, rfl, ⟨_, .inl (.inl (sS _ _ hpf))⟩, for_tup (K := K) (a := pf) (xs := fx) (fun i σ H' => ∃ (v2 v3 v4 : Option V) (ys : List V), σ = [some (.ref r), some (.ref S), v2, v3, v4, none, none, none] ∧ Same H H' ∧ H' S = some (.lst ys) ∧ Dvs H' ys (DL.of ((t.kp ++ lsF (t.fs.take i)).map dE)))
    ⟨none, none, none, kx, rfl, sS, hS, by show Dvs H1 kx (DL.of ((t.kp ++ []).map dE)); rw [List.append_nil]; exact hkx.mono (TK.of sS)⟩ (fun i σ H' _ ⟨_, _, _, _, _, s', _⟩ => .inl (.inl (s' _ _ hpf))) ?_ ?_⟩
  · rintro i x σ H2 hi ⟨v2, v3, v4, ys, rfl, s2, hS2, hD2⟩
    obtain ⟨d, hd, hxd⟩ := (hfx.mono (TK.of s2)).get hi
    obtain ⟨f, hf, rfl⟩ := get_map hd
    have hm := List.mem_of_getElem? hf
    have hFf := hF.fs f hm
    have hsz := hZ.sz hm
    have hht := (hZ.ps f hm).2.2.2
    have et : lsF (t.fs.take (i + 1)) = lsF (t.fs.take i) ++ lsB f.bk := flat_take (g := fun f : FnT => lsB f.bk) hf
    have b0 : (lsF (t.fs.take (i + 1))).length ≤ (lsF t.fs).length := flat_take_le
    rw [et, List.length_append] at b0
    obtain ⟨r2, _, rfl, hr2, a1, _, rfl, _, a2, _, rfl, _, a3, _, rfl, ha3, rfl⟩ := hxd
    refine ⟨r2, _, rfl, .inl (.inl hr2), rfl, a1, _, rfl, a2, _, rfl, a3, [], rfl, rfl, ?_⟩
    dsimp only [gName]
    refine ⟨_, rfl, a3, f.bk, rfl, ha3, hFf.bk, Nat.le_trans hht (by decide), by omega, fun H3 L ls s3 nL hL hls => ?_⟩
    have hSL : S ≠ L := ne_of_none hS2 nL
    have hlsl := hls.len
    rw [List.length_map] at hlsl
    refine ⟨L, rfl, ⟨_, SqL.of hL⟩, for_list (K := K) (a := L) (xs := ls) (fun j σ H' => ∃ (v4 : Option V) (zs : List V), σ = [some (.ref r), some (.ref S), some a2, some a3, v4, none, none, none] ∧ Same H H' ∧ H' L = some (.lst ls) ∧ Dvs H' ls (DL.of ((listB f.bk).map dS)) ∧ H' S = some (.lst zs) ∧ Dvs H' zs (DL.of ((t.kp ++ lsF (t.fs.take i) ++ ((listB f.bk).take j).flatMap TS.sums).map dE)))
      ⟨v4, ys, rfl, s2.trans s3, hL, hls, s3 _ _ hS2, by rw [List.take_zero, List.flatMap_nil, List.append_nil]; exact hD2.mono (TK.of s3)⟩ (fun j σ H' _ ⟨_, _, _, _, h, _⟩ => SqL.of h) ?_ ?_⟩
    · rintro j u σ H4 hj ⟨v4', zs, rfl, s4, hL4, hls4, hS4, hD4⟩
      obtain ⟨d, hd, hu⟩ := hls4.get hj
      obtain ⟨st, hst, rfl⟩ := get_map hd
      have hsF := listB_F hFf.bk st (List.mem_of_getElem? hst)
      have ej := flat_take (g := TS.sums) hst
      have b1 : (((listB f.bk).take (j + 1)).flatMap TS.sums).length ≤ (lsB f.bk).length := flat_take_le
      rw [ej, List.length_append] at b1
      have hzl := hD4.len
      rw [List.length_map, List.length_append, List.length_append] at hzl
      dsimp only [gName]
      refine ⟨_, rfl, .inl ⟨rfl, _, SqL.of hS4⟩, _, rfl, u, st, rfl, hu, hsF, fun H5 M ms s5 nM hM hms => ?_⟩
      have hml := hms.len
      rw [List.length_map] at hml
      have hS5 := s5 _ _ hS4
      have tk : TK H4 (upd H5 S (.lst (zs ++ ms))) := (TK.of s5).trans (tkS hS5)
      refine ⟨S, M, _, _, rfl, rfl, hS5, hM, bigLe (by omega), _, zs ++ ms, rfl, same_mut (s4.trans s5) nS, by rw [upd_ne hSL.symm]; exact s5 _ _ hL4, hls4.mono tk, upd_same, ?_⟩
      rw [ej, ← List.append_assoc, List.map_append]
      exact Dvs.append (hD4.mono tk) (hms.mono (tkS hS5))
    · rintro σ H4 ⟨v4', zs, rfl, s4, hL4, hls4, hS4, hD4⟩
      rw [hlsl, List.take_length] at hD4
      refine ⟨_, _, _, zs, rfl, s4, hS4, ?_⟩
      rw [et, ← List.append_assoc]
      exact hD4
  · rintro σ H2 ⟨v2, v3, v4, ys, rfl, s2, hS2, hD2⟩
    rw [hfxl, List.take_length] at hD2
    have hyl := hD2.len
    rw [List.length_map, List.length_append] at hyl
    generalize hes : t.kp ++ lsF t.fs = es at hD2
    have hesF : ∀ e ∈ es, SumF e := fun e he => by
      rw [← hes] at he
      rcases List.mem_append.mp he with he | he
      · exact (hF.kp e he).1
      · exact hlF e he
    have hel : es.length ≤ 6244 := by
      rw [← hes, List.length_append]
      omega
    have hyl2 : ys.length = es.length := by rw [← hes, List.length_append]; exact hyl
    refine ⟨_, rfl, S, rfl, ⟨_, SqL.of hS2⟩, fun N nN => ?_⟩
    have hSN : S ≠ N := ne_of_none hS2 nN
    refine lc_list (K := K) (a := S) (xs := ys) (fun i H' => Same H2 H' ∧ ∃ ns : List Int, H' N = some (.lst (ns.map V.int)) ∧ ns.length = i ∧ ∀ n ∈ ns, Mid12 n) ⟨same_upd nN, [], upd_same, rfl, fun n hn => by cases hn⟩ (fun i H' _ hh => SqL.of (hh.1 _ _ hS2)) ?_ ?_
    · rintro i y H3 hi ⟨s3, ns, hN3, hnl, hns⟩
      have hil := (List.getElem?_eq_some_iff.mp hi).1
      obtain ⟨e, he, hy⟩ := (hD2.mono (TK.of s3)).ex_get hi
      have heF := hesF e (List.mem_of_getElem? he)
      obtain ⟨r2, _, rfl, hr2, b1, _, rfl, hb1, b2, _, rfl, _, rfl⟩ := hy
      have hb1 : b1 = .int e.1 := hb1
      subst hb1
      refine ⟨r2, _, rfl, .inl (.inl hr2), rfl, _, _, rfl, b2, [], rfl, rfl, rfl, _, rfl, _, hN3, bigLine (by rw [List.length_map]; omega), same_mut s3 nN, ns ++ [e.1], by rw [upd_same, List.map_append]; rfl, by rw [List.length_append, hnl]; rfl, fun n hn => ?_⟩
      rcases List.mem_append.mp hn with hn | hn
      · exact hns n hn
      · rw [List.mem_singleton.mp hn]
        exact heF.c
    rintro H3 ⟨s3, ns, hN3, hnl, hns⟩
    have s03 := s2.trans s3
    refine ⟨_, rfl, S, rfl, ⟨_, SqL.of (s3 _ _ hS2)⟩, fun M nM => it_lst (K := K) (a := S) (xs := ys) (fun i H' => Same H3 H' ∧ ∃ ms : List Int, H' M = some (.lst (ms.map V.int)) ∧ ms.length ≤ i * 50 ∧ ∀ n ∈ ms, Mid12 n) ⟨same_upd nM, [], upd_same, Nat.zero_le _, fun n hn => by cases hn⟩ (fun i H' _ hh => SqL.of (hh.1 _ _ (s3 _ _ hS2))) ?_ ?_⟩
    · rintro i y H4 hi ⟨s4, ms, hM4, hml, hms⟩
      have hil := (List.getElem?_eq_some_iff.mp hi).1
      obtain ⟨e, he, hy⟩ := (hD2.mono (TK.of (s3.trans s4))).ex_get hi
      have heF := hesF e (List.mem_of_getElem? he)
      have hel50 := heF.len
      obtain ⟨r2, _, rfl, hr2, b1, _, rfl, hb1, b2, _, rfl, hb2, rfl⟩ := hy
      obtain ⟨pt, tx, rfl, hpt, htx⟩ := hb2
      have htl := htx.len
      rw [List.length_map] at htl
      refine ⟨r2, _, rfl, .inl (.inl hr2), rfl, b1, _, rfl, .ref pt, [], rfl, rfl, rfl, _, rfl, pt, rfl, ⟨_, .inl (.inl hpt)⟩, it_tup (K := K) (a := pt) (xs := tx) (fun j H' => Same H3 H' ∧ H' pt = some (.tup tx) ∧ Dvs H' tx (DL.of (e.2.map dTm)) ∧ ∃ ms : List Int, H' M = some (.lst (ms.map V.int)) ∧ ms.length ≤ i * 50 + j ∧ ∀ n ∈ ms, Mid12 n) ⟨s4, hpt, htx, ms, hM4, hml, hms⟩ (fun j H' _ hh => .inl (.inl hh.2.1)) ?_ ?_⟩
      · rintro j z H5 hj ⟨s5, hpt5, htx5, ms5, hM5, hml5, hms5⟩
        have hjl := (List.getElem?_eq_some_iff.mp hj).1
        obtain ⟨d, hd, hz⟩ := htx5.get hj
        obtain ⟨tm, htm, rfl⟩ := get_map hd
        obtain ⟨r3, _, rfl, hr3, c1, _, rfl, _, c2, _, rfl, hc2, rfl⟩ := hz
        have hc2 : c2 = .int tm.2 := hc2
        subst hc2
        have tk : TK H5 (upd H5 M (.lst (ms5.map V.int ++ [.int tm.2]))) := TK.upd hM5 (fun _ z => by cases z)
        refine ⟨r3, _, rfl, .inl (.inl hr3), rfl, c1, _, rfl, _, [], rfl, rfl, rfl, _, rfl, _, hM5, bigLine (by rw [List.length_map]; omega), same_mut s5 nM, tk _ _ hpt5, htx5.mono tk, ms5 ++ [tm.2], by rw [upd_same, List.map_append]; rfl, by rw [List.length_append, List.length_singleton]; omega, fun n hn => ?_⟩
        rcases List.mem_append.mp hn with hn | hn
        · exact hms5 n hn
        · rw [List.mem_singleton.mp hn]
          exact (heF.nm tm (List.mem_of_getElem? htm)).2.2
      · rintro H5 ⟨s5, _, _, ms5, hM5, hml5, hms5⟩
        exact ⟨s5, ms5, hM5, by omega, hms5⟩
    · rintro H4 ⟨s4, ms, hM4, hml, hms⟩
      refine ⟨N, M, _, _, rfl, rfl, s4 _ _ hN3, hM4, bigLe (by rw [List.length_map, List.length_map]; omega), fun R nR => ?_⟩
      refine q _ R (ns ++ ms) ((s03.trans s4).trans (same_upd nR)) ((s03.trans s4).free nR) (by rw [upd_same, List.map_append]) (by rw [List.length_append]; omega) (fun n hn => ?_)
      rcases List.mem_append.mp hn with hn | hn
      · exact hns n hn
      · exact hms n hn
end
end K10
namespace K10
open PySem PySem.Spec PyProof.Rows L2 TL
theorem ansH_and {t u : TT} {σ : L2.St} {H : Hp} {b : Bool} {PV : Hp → Prop} (h1 : Ans t σ H true) (h2 : AnsH u σ H b PV) : AnsH (tAnd t u) σ H b PV := fun Q q => h1 _ (by
  show (if true = true then u σ H Q else Q false H)
  rw [if_pos rfl]
  exact h2 Q q)
/-! ### the names of a statement -/
abbrev Hd := Str × List (Str × Bool)
def UOk (vs ks : List Str) (hs : List Hd) (u : Str × Str) : Prop := (u.1 = "variable" ∧ u.2 ∈ vs) ∨ (u.1 = "kind" ∧ u.2 ∈ ks) ∨ (u.1 = "function" ∧ u.2 ∈ hs.map (·.1))
def finB : TS → Bool
  | .tr _ _ y => !(listB y).any barB
  | _ => true
structure SN (vs ks : List Str) (hs : List Hd) (st : TS) : Prop where
  us : ∀ u ∈ st.uses, UOk vs ks hs u
  cs : ∀ c ∈ st.calls, ∃ h ∈ hs, h.1 = c.1 ∧ fitB c.2 h.2 = true ∧ h.2.length ≤ 1000
  fin : finB st = true
structure KnownAt (H : Hp) (kd : Addr) (vs ks fs : List Str) : Prop where
  ex : ∃ (kvs : List (Key × V)) (tv tk tf : Addr), H kd = some (.dK kvs) ∧ valV kvs (.inr "variable") = some (.ref tv) ∧ H tv = some (.tup (vs.map V.str)) ∧ valV kvs (.inr "kind") = some (.ref tk) ∧ H tk = some (.tup (ks.map V.str)) ∧
    valV kvs (.inr "function") = some (.ref tf) ∧ H tf = some (.tup (fs.map V.str))
structure ParamsAt (H : Hp) (pd : Addr) (hs : List Hd) : Prop where
  ex : ∃ kvs : List (Key × V), H pd = some (.dK kvs) ∧ ∀ h ∈ hs, ∃ v, valV kvs (.inr h.1) = some v ∧ Dv H v (.tup (DL.of (h.2.map dPa)))
theorem KnownAt.same {H H' : Hp} {kd : Addr} {vs ks fs : List Str} (k : KnownAt H kd vs ks fs) (s : Same H H') : KnownAt H' kd vs ks fs := by
  obtain ⟨kvs, tv, tk, tf, h1, h2, h3, h4, h5, h6, h7⟩ := k.ex
  exact ⟨kvs, tv, tk, tf, s _ _ h1, h2, s _ _ h3, h4, s _ _ h5, h6, s _ _ h7⟩
theorem ParamsAt.same {H H' : Hp} {pd : Addr} {hs : List Hd} (k : ParamsAt H pd hs) (s : Same H H') : ParamsAt H' pd hs := by
  obtain ⟨kvs, h1, h2⟩ := k.ex
  refine ⟨kvs, s _ _ h1, fun h hh => ?_⟩
  obtain ⟨v, h3, h4⟩ := h2 h hh
  exact ⟨v, h3, h4.mono (TK.of s)⟩
theorem KnownAt.get {H : Hp} {kd : Addr} {vs ks : List Str} {hs : List Hd} (k : KnownAt H kd vs ks (hs.map (·.1))) {u : Str × Str} (h : UOk vs ks hs u) : ∃ (t : Addr) (ns : List Str), DGet H kd (.str u.1) (some (.ref t)) ∧ H t = some (.tup (ns.map V.str)) ∧ u.2 ∈ ns := by
  obtain ⟨kvs, tv, tk, tf, h1, h2, h3, h4, h5, h6, h7⟩ := k.ex
  obtain ⟨x, z⟩ := u
  rcases h with ⟨e, h⟩ | ⟨e, h⟩ | ⟨e, h⟩
  · have e : x = "variable" := e
    subst e
    exact ⟨tv, vs, h2 ▸ DGet.k (k := Sum.inr "variable") h1, h3, h⟩
  · have e : x = "kind" := e
    subst e
    exact ⟨tk, ks, h4 ▸ DGet.k (k := Sum.inr "kind") h1, h5, h⟩
  · have e : x = "function" := e
    subst e
    exact ⟨tf, _, h6 ▸ DGet.k (k := Sum.inr "function") h1, h7, h⟩
theorem ParamsAt.get {H : Hp} {pd : Addr} {hs : List Hd} (k : ParamsAt H pd hs) {h : Hd} (hh : h ∈ hs) : ∃ v, DGet H pd (.str h.1) (some v) ∧ Dv H v (.tup (DL.of (h.2.map dPa))) := by
  obtain ⟨kvs, h1, h2⟩ := k.ex
  obtain ⟨v, h3, h4⟩ := h2 h hh
  exact ⟨v, h3 ▸ DGet.k (k := Sum.inr h.1) h1, h4⟩
def spStm : Sp := fun vs H Q _ => ∃ (i : Int) (sv : V) (kd pd : Addr) (st : TS) (ns ks : List Str) (hs : List Hd), vs = [.int i, sv, .ref kd, .ref pd] ∧ Dv H sv (dS st) ∧ st.F ∧ st.ht ≤ 7 ∧ st.sz ≤ 1000 ∧ KnownAt H kd ns ks (hs.map (·.1)) ∧ ParamsAt H pd hs ∧ SN ns ks hs st ∧ ∀ H', Same H H' → Q .non H'
theorem word_try (s : TS) : (∃ x h y, s = .tr x h y) ∨ decide (V.str s.word = V.str "try") = false := by
  cases s with
  | pl p =>
    cases p with
    | call _ _ _ => exact .inr (dif (x := "call") (by decide +kernel))
    | set _ _ => exact .inr (dif (x := "set") (by decide +kernel))
    | inp _ => exact .inr (dif (x := "input") (by decide +kernel))
    | risk _ => exact .inr (dif (x := "risk") (by decide +kernel))
    | rse _ => exact .inr (dif (x := "raise") (by decide +kernel))
    | ret _ => exact .inr (dif (x := "return") (by decide +kernel))
  | iff _ _ => exact .inr (dif (x := "if") (by decide +kernel))
  | whl _ => exact .inr (dif (x := "while") (by decide +kernel))
  | undo _ _ => exact .inr (dif (x := "undo") (by decide +kernel))
  | tr x h y => exact .inl ⟨x, h, y, rfl⟩
  | wth _ _ _ _ _ _ => exact .inr (dif (x := "with") (by decide +kernel))
section
variable {P : Program} {w : World} {K : PySem.W.Frag} {mg : Str → Option Value} {base : Heap} {a : Ads}
theorem sc_check_statement : FnScope ["place", "statement", "known", "params", "sort", "name", "args"] ["place", "statement", "known", "params"] (defScope s_check_statement) := ⟨rfl, rfl, rfl, by decide +kernel, rfl, by decide +kernel, by decide +kernel⟩
theorem ok_check_statement (T : Txt K mg a) {tS tU tF : Addr} (B : Tabs K w mg a tS tU tF) : FnOk P w K mg base CX0 12 a.f_check_statement a.f_check_statement_d ["place", "statement", "known", "params"] spStm := by
  refine T.F_check_statement.ok sc_check_statement (fun vs H Q E h => ?_) (fun cdv A outer s H vs Q E hr h => ?_)
  · obtain ⟨i, sv, kd, pd, st, ns, ks, hs, rfl, _⟩ := h
    rfl
  obtain ⟨i, sv, kd, pd, st, ns, ks, hs, rfl, hv, hF, hht, hsz, hkn, hpa, hSN, q⟩ := h
  refine ⟨_, (pss_cons (ps_for PassesOwn.never rfl (pi_list (pe_call (ok_uses_in T B) (hr.mono (by decide)) (by rfl) T.g_uses_in T.F_uses_in.kp T.b_uses_in .nil pass0 (pa_cons (pv 1) pa_nil))) (pg_tup (by rfl) (pgs_cons (pg_name (i := 4) sc_check_statement.nd rfl (Or.inl rfl)) (pgs_cons (pg_name (i := 5) sc_check_statement.nd rfl (Or.inl rfl)) pgs_nil)))
      (pss_one (ps_expr (pe_call (ok_check_known T) (hr.mono (by decide)) (by rfl) T.g_check_known T.F_check_known.kp T.b_check_known .nil pass0 (pa_cons (pe_lst (pa_cons (pv 5) pa_nil)) (pa_cons (pe_dget (hu_of hr) (pv 2) (pv 4) (fun _ _ => rfl)) pa_nil))))))
    (pss_cons (ps_for PassesOwn.never rfl (pi_list (pe_call (ok_calls_in T B) (hr.mono (by decide)) (by rfl) T.g_calls_in T.F_calls_in.kp T.b_calls_in .nil pass0 (pa_cons (pv 1) pa_nil))) (pg_tup (by rfl) (pgs_cons (pg_name (i := 5) sc_check_statement.nd rfl (Or.inl rfl)) (pgs_cons (pg_name (i := 6) sc_check_statement.nd rfl (Or.inl rfl)) pgs_nil)))
      (pss_one (ps_if (pt_not (pt_val (pe_call (ok_are_fitting T) (hr.mono (by decide)) (by rfl) T.g_are_fitting T.F_are_fitting.kp T.b_are_fitting .nil pass0 (pa_cons (pv 6) (pa_cons (pe_dget (hu_of hr) (pv 3) (pv 5) (fun _ _ => rfl)) pa_nil)))))
        (pss_one ps_never)
        pss_nil)))
    (pss_one (ps_if (PW.pt (pw_and (pt_cmpR op_eq (pe_ix ix_tup (pv 1) pe_int (fun _ _ => rfl)) pe_str (nomark _)) (pw_and1 (pt_val (pe_call (ok_is_barred T B) (hr.mono (by decide)) (by rfl) T.g_is_barred T.F_is_barred.kp T.b_is_barred .nil pass0 (pa_cons (pe_ix ix_tup (pv 1) pe_int (fun _ _ => rfl)) pa_nil))))))
      (pss_one ps_never)
      pss_nil)))), ?_⟩
  -- the names
  refine st_seq ⟨_, rfl, sv, st, rfl, hv, hF, fun H2 L xs s2 nL hL hx => ?_⟩
  have hxl := hx.len
  rw [List.length_map] at hxl
  refine ⟨L, rfl, ⟨_, SqL.of hL⟩, for_list (K := K) (a := L) (xs := xs) (fun i' σ H' => ∃ (v4 v5 : Option V), σ = [some (.int i), some sv, some (.ref kd), some (.ref pd), v4, v5, none] ∧ Same H2 H')
    ⟨none, none, rfl, Same.refl _⟩ (fun i σ H' _ ⟨_, _, _, h⟩ => SqL.of (h _ _ hL)) ?_ ?_⟩
  · rintro j x σ H3 hj ⟨v4, v5, rfl, s3⟩
    obtain ⟨d, hd, hxd⟩ := (hx.mono (TK.of s3)).get hj
    obtain ⟨u, hu, rfl⟩ := get_map hd
    have hU := hSN.us u (List.mem_of_getElem? hu)
    obtain ⟨r, _, rfl, hr3, _, _, rfl, rfl, _, _, rfl, rfl, rfl⟩ := hxd
    refine ⟨r, _, rfl, .inl (.inl hr3), rfl, _, _, rfl, _, [], rfl, rfl, ?_⟩
    dsimp only [gName]
    refine ⟨_, rfl, one_le, fun M nM => ?_⟩
    have s4 := same_upd (o := .lst [.str u.2]) nM
    obtain ⟨t, ms, g1, g2, g3⟩ := (hkn.same ((s2.trans s3).trans s4)).get hU
    refine ⟨_, rfl, _, rfl, kd, _, rfl, g1, M, t, [u.2], ms, rfl, upd_same, g2, fun n hn => by rw [List.mem_singleton.mp hn]; exact g3, ?_⟩
    exact ⟨_, _, rfl, s3.trans s4⟩
  rintro σ H3 ⟨v4, v5, rfl, s3⟩
  have s03 := s2.trans s3
  -- the calls
  dsimp only
  refine st_seq ⟨_, rfl, sv, st, rfl, hv.mono (TK.of s03), fun H4 C cs s4 nC hC hcs => ?_⟩
  have hcl := hcs.len
  rw [List.length_map] at hcl
  refine ⟨C, rfl, ⟨_, SqL.of hC⟩, for_list (K := K) (a := C) (xs := cs) (fun i' σ H' => ∃ (v4 v5 v6 : Option V), σ = [some (.int i), some sv, some (.ref kd), some (.ref pd), v4, v5, v6] ∧ Same H4 H')
    ⟨v4, v5, none, rfl, Same.refl _⟩ (fun i σ H' _ ⟨_, _, _, _, h⟩ => SqL.of (h _ _ hC)) ?_ ?_⟩
  · rintro j x σ H5 hj ⟨v4, v5, v6, rfl, s5⟩
    obtain ⟨d, hd, hxd⟩ := (hcs.mono (TK.of s5)).get hj
    obtain ⟨c, hc, rfl⟩ := get_map hd
    have hcm := List.mem_of_getElem? hc
    obtain ⟨h, hh, hn, hfit, hlen⟩ := hSN.cs c hcm
    have hcF := ((calls_ok hF).2 c hcm).2
    obtain ⟨r, _, rfl, hr3, _, _, rfl, rfl, u, _, rfl, hu, rfl⟩ := hxd
    refine ⟨r, _, rfl, .inl (.inl hr3), rfl, _, _, rfl, u, [], rfl, rfl, ?_⟩
    dsimp only [gName]
    obtain ⟨v, g1, g2⟩ := (hpa.same ((s03.trans s4).trans s5)).get hh
    rw [hn] at g1
    refine st_noH (P := fun H' => Same H4 H') (fun Q q => ⟨_, rfl, _, rfl, _, rfl, pd, v, rfl, g1, u, v, c.2, h.2, rfl, hu, g2, Nat.le_trans hcF.len (by decide), hlen, fun H' s' => ⟨_, rfl, ?_⟩⟩) (fun H' s' => ⟨_, _, _, rfl, s'⟩)
    rw [hfit]
    exact q _ (s5.trans s')
  rintro σ H5 ⟨v4, v5, v6, rfl, s5⟩
  have s05 := (s03.trans s4).trans s5
  -- the finally
  have hv5 := hv.mono (TK.of s05)
  rw [dS_is] at hv5
  obtain ⟨r, _, rfl, hr0, x0, ps, rfl, hx0, hps⟩ := hv5
  have hx0 : x0 = .str st.word := hx0
  subst hx0
  dsimp only
  rcases word_try st with ⟨x, h, y, rfl⟩ | hw
  · obtain ⟨p1, _, rfl, _, p2, _, rfl, _, p3, _, rfl, hp3, rfl⟩ := hps
    have hfin : (!(listB y).any barB) = true := hSN.fin
    have hy : max x.ht (max h.ht y.ht) + 1 ≤ 7 := hht
    have hys : x.sz + h.sz + y.sz + 1 ≤ 1000 := hsz
    refine st_noH (P := fun H' => Same H5 H') (ansH_and (fun Q q => ⟨_, rfl, r, _, _, _, rfl, rfl, .inl (.inl hr0), atI_nat (j := 0) rfl, rfl, _, rfl, (by rw [show decide (V.str (TS.word (.tr x h y)) = V.str "try") = true from decide_eq_true rfl]; exact q)⟩) (fun Q q => ⟨_, rfl, r, _, _, _, rfl, rfl, .inl (.inl hr0), atI_nat (j := 3) rfl, p3, y, rfl, hp3, hF.2.2.2, by omega, by omega, fun H' s' => ⟨_, rfl, ?_⟩⟩)) (fun H' s' => q H' (s05.trans s'))
    rw [show (listB y).any barB = false by cases e : (listB y).any barB with
      | false => rfl
      | true => rw [e] at hfin; cases hfin]
    exact q _ s'
  · exact st_no (ans_and0 (fun Q q => ⟨_, rfl, r, _, _, _, rfl, rfl, .inl (.inl hr0), atI_nat (j := 0) rfl, rfl, _, rfl, (by rw [hw]; exact q)⟩)) (q H5 s05)
end
end K10
namespace K10
open PySem PySem.Spec PyProof.Rows L2 TL
/-! ### the names of a tree -/
def hdOf (f : FnT) : Hd := (f.nm, f.ps)
structure TreeN (t : Tree) : Prop where
  nd : (t.gs ++ t.ks ++ t.fs.map (·.nm)).Nodup
  own : ∀ f ∈ t.fs, (t.gs ++ t.ks ++ t.fs.map (·.nm) ++ (f.ps.map (·.1) ++ localsT t.gs f)).Nodup
  kp : ∀ e ∈ t.kp, ∀ u ∈ e.2, u.1 ∈ t.gs
  st : ∀ f ∈ t.fs, ∀ s ∈ listB f.bk, SN (t.gs ++ (f.ps.map (·.1) ++ localsT t.gs f)) t.ks (t.fs.map hdOf) s
theorem hd_nms (fs : List FnT) : (fs.map hdOf).map (·.1) = fs.map (·.nm) := by
  rw [List.map_map]
  rfl
mutual
theorem listS_hz : ∀ {s : TS}, ∀ r ∈ listS s, r.ht ≤ s.ht ∧ r.sz ≤ s.sz
  | .pl p, r, hr => by rw [List.mem_singleton.mp hr]; exact ⟨Nat.le_refl _, Nat.le_refl _⟩
  | .iff x y, r, hr => by
    show r.ht ≤ max x.ht y.ht + 1 ∧ r.sz ≤ x.sz + y.sz + 1
    rcases List.mem_cons.mp hr with rfl | hr
    · exact ⟨Nat.le_refl _, Nat.le_refl _⟩
    · rcases List.mem_append.mp hr with hr | hr
      · have := listB_hz r hr; omega
      · have := listB_hz r hr; omega
  | .whl x, r, hr => by
    show r.ht ≤ x.ht + 1 ∧ r.sz ≤ x.sz + 1
    rcases List.mem_cons.mp hr with rfl | hr
    · exact ⟨Nat.le_refl _, Nat.le_refl _⟩
    · have := listB_hz r hr; omega
  | .undo vs x, r, hr => by
    show r.ht ≤ x.ht + 1 ∧ r.sz ≤ x.sz + 1
    rcases List.mem_cons.mp hr with rfl | hr
    · exact ⟨Nat.le_refl _, Nat.le_refl _⟩
    · have := listB_hz r hr; omega
  | .tr x hs y, r, hr => by
    show r.ht ≤ max x.ht (max hs.ht y.ht) + 1 ∧ r.sz ≤ x.sz + hs.sz + y.sz + 1
    rcases List.mem_cons.mp hr with rfl | hr
    · exact ⟨Nat.le_refl _, Nat.le_refl _⟩
    · rcases List.mem_append.mp hr with hr | hr
      · have := listB_hz r hr; omega
      · rcases List.mem_append.mp hr with hr | hr
        · have := listH_hz r hr; omega
        · have := listB_hz r hr; omega
  | .wth f as g bs ks x, r, hr => by
    show r.ht ≤ x.ht + 1 ∧ r.sz ≤ x.sz + 1
    rcases List.mem_cons.mp hr with rfl | hr
    · exact ⟨Nat.le_refl _, Nat.le_refl _⟩
    · have := listB_hz r hr; omega
theorem listB_hz : ∀ {x : TB}, ∀ r ∈ listB x, r.ht ≤ x.ht ∧ r.sz ≤ x.sz
  | .nil, _, hr => by cases hr
  | .cons s x, r, hr => by
    show r.ht ≤ max s.ht x.ht ∧ r.sz ≤ s.sz + x.sz
    rcases List.mem_append.mp hr with hr | hr
    · have := listS_hz r hr; omega
    · have := listB_hz r hr; omega
theorem listH_hz : ∀ {x : TH}, ∀ r ∈ listH x, r.ht ≤ x.ht ∧ r.sz ≤ x.sz
  | .nil, _, hr => by cases hr
  | .cons _ x y, r, hr => by
    show r.ht ≤ max x.ht y.ht ∧ r.sz ≤ x.sz + y.sz
    rcases List.mem_append.mp hr with hr | hr
    · have := listB_hz r hr; omega
    · have := listH_hz r hr; omega
end
abbrev kk (z : Str) : Key := Sum.inr z
theorem kn_ne1 : ¬ kk "kind" = kk "variable" := fun e => absurd (Sum.inr.inj e) (by decide +kernel)
theorem kn_ne2 : ¬ kk "variable" = kk "function" := fun e => absurd (Sum.inr.inj e) (by decide +kernel)
theorem kn_ne3 : ¬ kk "kind" = kk "function" := fun e => absurd (Sum.inr.inj e) (by decide +kernel)
theorem kn_ne4 : ¬ kk "variable" = kk "kind" := fun e => absurd (Sum.inr.inj e) (by decide +kernel)
theorem kn_merge (x y z : V) : valV (mergeK [] [(kk "variable", x), (kk "kind", y), (kk "function", z)]) (kk "variable") = some x ∧ valV (mergeK [] [(kk "variable", x), (kk "kind", y), (kk "function", z)]) (kk "kind") = some y ∧
    valV (mergeK [] [(kk "variable", x), (kk "kind", y), (kk "function", z)]) (kk "function") = some z := by
  have e : mergeK [] [(kk "variable", x), (kk "kind", y), (kk "function", z)] = putK (putK (putK [] (kk "variable") x) (kk "kind") y) (kk "function") z := rfl
  rw [e]
  refine ⟨?_, ?_, ?_⟩
  · rw [valV_put, if_neg kn_ne2, valV_put, if_neg kn_ne4, valV_put, if_pos rfl]
  · rw [valV_put, if_neg kn_ne3, valV_put, if_pos rfl]
  · rw [valV_put, if_pos rfl]
theorem putK_le (c : List (Key × V)) (k : Key) (x : V) : (putK c k x).length ≤ c.length + 1 := by
  unfold putK
  split
  · rw [List.length_map]
    exact Nat.le_succ _
  · rw [List.length_append]
    exact Nat.le_refl _
def spTreeN : Sp := fun vs H Q _ => ∃ (v : V) (t : Tree), vs = [v] ∧ Dv H v (dT t) ∧ TreeF t ∧ TreeSz t ∧ TreeN t ∧ ∀ H', Same H H' → Q .non H'
theorem Dvs.fn_get {H : Hp} {l : List FnT} {ys : List V} (h : Dvs H ys (DL.of (l.map dFn))) {i : Nat} {y : V} (hy : ys[i]? = some y) : ∃ f, l[i]? = some f ∧ Dv H y (dFn f) := by
  obtain ⟨d, hd, hx⟩ := h.get hy
  obtain ⟨e, he, rfl⟩ := get_map hd
  exact ⟨e, he, hx⟩
theorem Dv.of_strs' {H : Hp} {q : Addr} {ns : List Str} (h : H q = some (.tup (ns.map V.str))) : Dv H (.ref q) (dNs ns) := ⟨q, _, rfl, h, Dvs.of_strs H ns⟩
section
variable {P : Program} {w : World} {K : PySem.W.Frag} {mg : Str → Option Value} {base : Heap} {a : Ads}
theorem sc_check_names : FnScope ["tree", "names", "params", "function", "variables", "kinds", "keeps", "functions", "_", "terms", "known", "place", "statement", "name"] ["tree"] (defScope s_check_names) := ⟨rfl, rfl, rfl, by decide +kernel, rfl, by decide +kernel, by decide +kernel⟩
theorem ok_check_names (T : Txt K mg a) {tS tU tF : Addr} (B : Tabs K w mg a tS tU tF) : FnOk P w K mg base CX0 13 a.f_check_names a.f_check_names_d ["tree"] spTreeN := by
  refine T.F_check_names.ok sc_check_names (fun vs H Q E h => ?_) (fun cdv A outer s H vs Q E hr h => ?_)
  · obtain ⟨v, t, rfl, _⟩ := h
    rfl
  obtain ⟨v, t, rfl, hv, hF, hZ, hN, q⟩ := h
  refine ⟨_, (pss_cons (ps_asg (pv 0) (pg_tup (by rfl) (pgs_cons (pg_name (i := 4) sc_check_names.nd rfl (Or.inl rfl)) (pgs_cons (pg_name (i := 5) sc_check_names.nd rfl (Or.inl rfl)) (pgs_cons (pg_name (i := 6) sc_check_names.nd rfl (Or.inl rfl)) (pgs_cons (pg_name (i := 7) sc_check_names.nd rfl (Or.inl rfl)) pgs_nil))))))
    (pss_cons (ps_set (i := 1) sc_check_names.nd rfl (Or.inl rfl) (pe_callTy call_tuple_of (by rfl) T.tuple (by decide +kernel) (pa_cons (pe_lc (own := [("function", 3)]) (g := gName 3) (tt := tYes) (by rfl) sc_check_names.nd (pi_tup (pv 7)) (blkOk_by (own := [("function", 3)]) (N := ["tree", "names", "params", "function", "variables", "kinds", "keeps", "functions", "_", "terms", "known", "place", "statement", "name"]) (sc := defScope s_check_names) (by decide +kernel)) (fun _ _ _ _ _ => pg_name (i := 3) sc_check_names.nd rfl (Or.inl rfl)) (fun _ _ _ _ _ => pts_nil) (fun _ _ _ _ _ => (pe_ix (show IxR _ (rIxT K) from ix_tup) (pv 3) pe_int (fun _ _ => rfl)))) pa_nil)))
    (pss_cons (EnT.ps_setDc (i := 2) (own := [("function", 3)]) (g := gName 3) (tt := tYes) (by rfl) sc_check_names.nd rfl rfl (EnT.sw_dict rfl rfl rfl (by decide +kernel)) (pi_tup (pv 7)) (blkOk_by (own := [("function", 3)]) (N := ["tree", "names", "params", "function", "variables", "kinds", "keeps", "functions", "_", "terms", "known", "place", "statement", "name"]) (sc := defScope s_check_names) (by decide +kernel)) (fun _ _ _ _ _ => pg_name (i := 3) sc_check_names.nd rfl (Or.inl rfl)) (fun _ _ _ _ _ => pts_nil) (fun _ _ _ _ _ => (pe_ix (show IxR _ (rIxT K) from ix_tup) (pv 3) pe_int (fun _ _ => rfl))) (fun _ _ _ _ _ => (pe_ix (show IxR _ (rIxT K) from ix_tup) (pv 3) pe_int (fun _ _ => rfl))))
    (pss_cons (ps_expr (pe_call (ok_check_different T) (hr.mono (by decide)) (by rfl) T.g_check_different T.F_check_different.kp T.b_check_different .nil pass0 (pa_cons (pe_op op_catA (pe_op op_catA (pv 4) (pv 5)) (pv 1)) pa_nil)))
    (pss_cons (ps_for PassesOwn.never rfl (pi_tup (pv 7)) (pg_name (i := 3) sc_check_names.nd rfl (Or.inl rfl))
      (pss_one (ps_expr (pe_call (ok_check_different T) (hr.mono (by decide)) (by rfl) T.g_check_different T.F_check_different.kp T.b_check_different .nil pass0 (pa_cons (pe_op op_catA (pe_op op_catA (pe_op op_catA (pv 4) (pv 5)) (pv 1)) (pe_call (ok_own_names T B) (hr.mono (by decide)) (by rfl) T.g_own_names T.F_own_names.kp T.b_own_names .nil pass0 (pa_cons (pv 4) (pa_cons (pv 3) pa_nil)))) pa_nil)))))
    (pss_cons (ps_for PassesOwn.never rfl (pi_tup (pv 6)) (pg_tup (by rfl) (pgs_cons (pg_name (i := 8) sc_check_names.nd rfl (Or.inl rfl)) (pgs_cons (pg_name (i := 9) sc_check_names.nd rfl (Or.inl rfl)) pgs_nil)))
      (pss_one (ps_expr (pe_call (ok_check_known T) (hr.mono (by decide)) (by rfl) T.g_check_known T.F_check_known.kp T.b_check_known .nil pass0 (pa_cons (pe_lc (own := [("name", 13), ("_", 8)]) (g := gTup K 2 (gCons (gName 13) (gCons (gName 8) gNil))) (tt := tYes) (by rfl) sc_check_names.nd (pi_tup (pv 9)) (blkOk_by (own := [("name", 13), ("_", 8)]) (N := ["tree", "names", "params", "function", "variables", "kinds", "keeps", "functions", "_", "terms", "known", "place", "statement", "name"]) (sc := defScope s_check_names) (by decide +kernel)) (fun _ _ _ _ _ => pg_tup (by rfl) (pgs_cons (pg_name (i := 13) sc_check_names.nd rfl (Or.inl rfl)) (pgs_cons (pg_name (i := 8) sc_check_names.nd rfl (Or.inl rfl)) pgs_nil))) (fun _ _ _ _ _ => pts_nil) (fun _ _ _ _ _ => (pv 13))) (pa_cons (pv 4) pa_nil))))))
    (pss_one (ps_for PassesOwn.never rfl (pi_tup (pv 7)) (pg_name (i := 3) sc_check_names.nd rfl (Or.inl rfl))
      (pss_cons (ps_set (i := 10) sc_check_names.nd rfl (Or.inl rfl) (pe_disp (pps_cons pe_str (pe_op op_catA (pv 4) (pe_call (ok_own_names T B) (hr.mono (by decide)) (by rfl) T.g_own_names T.F_own_names.kp T.b_own_names .nil pass0 (pa_cons (pv 4) (pa_cons (pv 3) pa_nil)))) (pps_cons pe_str (pv 5) (pps_cons pe_str (pv 1) pps_nil))) rfl rfl (by simp) (by decide)))
      (pss_one (ps_for PassesOwn.never rfl (pi_enum (by rfl) T.enumerate (pa_cons (pe_call (ok_listed T B 8) (hr.mono (by decide)) (by rfl) T.g_listed T.F_listed.kp T.b_listed .nil pass0 (pa_cons (pe_ix ix_tup (pv 3) pe_int (fun _ _ => rfl)) pa_nil)) pa_nil)) (pg_tup (by rfl) (pgs_cons (pg_name (i := 11) sc_check_names.nd rfl (Or.inl rfl)) (pgs_cons (pg_name (i := 12) sc_check_names.nd rfl (Or.inl rfl)) pgs_nil)))
        (pss_one (ps_expr (pe_call (ok_check_statement T B) (hr.mono (by decide)) (by rfl) T.g_check_statement T.F_check_statement.kp T.b_check_statement .nil pass0 (pa_cons (pv 11) (pa_cons (pv 12) (pa_cons (pv 10) (pa_cons (pv 2) pa_nil)))))))))))))))))), ?_⟩
  have hgl := hZ.g
  have hkl := hZ.k
  have hfl := hZ.f
  obtain ⟨r, _, rfl, hr0, y1, _, rfl, hy1, y2, _, rfl, hy2, y3, _, rfl, hy3, y4, _, rfl, hy4, rfl⟩ := hv
  obtain ⟨pg, rfl, hpg⟩ := hy1.strs
  obtain ⟨pk, rfl, hpk⟩ := hy2.strs
  obtain ⟨pe, ex, rfl, hpe, hex⟩ := hy3
  obtain ⟨pf, fx, rfl, hpf, hfx⟩ := hy4
  have hexl := hex.len
  rw [List.length_map] at hexl
  have hfxl := hfx.len
  rw [List.length_map] at hfxl
  refine st_seq ⟨_, rfl, r, _, rfl, .inl (.inl hr0), rfl, .ref pg, _, rfl, .ref pk, _, rfl, .ref pe, _, rfl, .ref pf, [], rfl, rfl, ?_⟩
  dsimp only [gName]
  -- the names of the functions
  refine st_seq ⟨_, rfl, pf, rfl, ⟨_, .inl (.inl hpf)⟩, fun M nM => lc_tupD (fun _ => true) fstD nM hpf hfx (by rw [List.length_map]; omega) (fun x d H' Q M' hd hxd s1 hy _ => ?_) (fun H1 zs s1 hM hz => ?_)⟩
  · obtain ⟨f, hf, rfl⟩ := List.mem_map.mp hd
    obtain ⟨r3, _, rfl, hr3, a1, _, rfl, ha1, _⟩ := hxd
    exact ⟨rfl, _, rfl, r3, _, _, _, rfl, rfl, .inl (.inl hr3), atI_nat (j := 0) rfl, hy rfl _ H' (Same.refl _) ha1⟩
  rw [filter_yes, List.map_map] at hz
  have hz2 : zs = (t.fs.map (·.nm)).map V.str := by
    have : Dvs H1 zs (DL.of ((t.fs.map (·.nm)).map D.str)) := by
      rw [List.map_map]
      exact hz
    exact this.strs
  subst hz2
  refine ⟨M, _, rfl, .inl ⟨SqL.of hM, fun pn np => ?_⟩⟩
  have s2 := s1.trans (same_upd (o := .tup ((t.fs.map (·.nm)).map V.str)) np)
  have hpn : (upd H1 pn (.tup ((t.fs.map (·.nm)).map V.str))) pn = some (.tup ((t.fs.map (·.nm)).map V.str)) := upd_same
  dsimp only [gName]
  generalize upd H1 pn (.tup ((t.fs.map (·.nm)).map V.str)) = H2 at s2 hpn
  -- the parameters of the functions
  refine st_seq ⟨_, rfl, pf, rfl, ⟨_, .inl (.inl (s2 _ _ hpf))⟩, fun Dd nD => it_tup (K := K) (a := pf) (xs := fx) (fun i H' => Same H2 H' ∧ ∃ kvs, H' Dd = some (.dK kvs) ∧ kvs.length ≤ i ∧ ∀ h ∈ (t.fs.take i).map hdOf, ∃ v, valV kvs (.inr h.1) = some v ∧ Dv H' v (.tup (DL.of (h.2.map dPa)))) ⟨same_upd nD, [], upd_same, Nat.zero_le _, fun h hh => by cases hh⟩ (fun i H' _ hh => .inl (.inl (hh.1 _ _ (s2 _ _ hpf)))) ?_ ?_⟩
  · rintro i x H3 hi ⟨s3, kvs, hD, hkvl, hall⟩
    have hil := (List.getElem?_eq_some_iff.mp hi).1
    obtain ⟨f, hf, hxd⟩ := (hfx.mono (TK.of (s2.trans s3))).fn_get hi
    obtain ⟨r3, _, rfl, hr3, a1, _, rfl, ha1, a2, _, rfl, ha2, a3, _, rfl, _, rfl⟩ := hxd
    have ha1 : a1 = .str f.nm := ha1
    subst ha1
    have tk : TK H3 (upd H3 Dd (.dK (putK kvs (Sum.inr f.nm) a2))) := TK.upd hD (fun _ z => by cases z)
    refine ⟨rfl, _, rfl, r3, _, _, _, rfl, rfl, .inl (.inl hr3), atI_nat (j := 0) rfl, _, rfl, r3, _, _, _, rfl, rfl, .inl (.inl hr3), atI_nat (j := 1) rfl, kvs, Sum.inr f.nm, rfl, hD, bigLine (by omega), same_mut s3 nD, _, upd_same, Nat.le_trans (putK_le _ _ _) (by omega), fun h hh => ?_⟩
    rw [valV_put]
    by_cases e : (Sum.inr h.1 : Key) = Sum.inr f.nm
    · rw [if_pos e]
      rw [List.take_add_one, hf, List.map_append] at hh
      have he : h = hdOf f := by
        rcases List.mem_append.mp hh with hh | hh
        · obtain ⟨g, hg, rfl⟩ := List.mem_map.mp hh
          obtain ⟨j, hj⟩ := List.mem_iff_getElem?.mp hg
          have hjl : j < i := by
            have := (List.getElem?_eq_some_iff.mp hj).1
            rw [List.length_take] at this
            omega
          rw [List.getElem?_take_of_lt hjl] at hj
          have hnd := (List.nodup_append.mp hN.nd).2.1
          have e1 : (t.fs.map (·.nm))[j]? = (t.fs.map (·.nm))[i]? := by
            rw [List.getElem?_map, List.getElem?_map, hj, hf]
            exact congrArg some (Sum.inr.inj e)
          have := (List.getElem?_inj (by rw [List.length_map]; omega) hnd).mp e1
          omega
        · exact List.mem_singleton.mp hh
      subst he
      exact ⟨a2, rfl, ha2.mono tk⟩
    · rw [if_neg e]
      rw [List.take_add_one, hf, List.map_append] at hh
      rcases List.mem_append.mp hh with hh | hh
      · obtain ⟨v, h1, h2⟩ := hall h hh
        exact ⟨v, h1, h2.mono tk⟩
      · rw [List.mem_singleton.mp hh] at e
        exact absurd rfl e
  rintro H3 ⟨s3, kvs, hD, _, hall⟩
  rw [hfxl, List.take_length] at hall
  have hPA : ParamsAt H3 Dd (t.fs.map hdOf) := ⟨kvs, hD, hall⟩
  have s03 := s2.trans s3
  have hpn3 := s3 _ _ hpn
  clear hD hall s3 nD
  dsimp only [gName]
  -- all different
  have cat3 : ∀ {H' : Hp} {σ : L2.St} {Q : VK}, σ[1]? = some (some (V.ref pn)) → Same H3 H' → (∀ H'' p, Same H' H'' → H'' p = some (.tup ((t.gs ++ t.ks ++ t.fs.map (·.nm)).map V.str)) → Q (.ref p) H'') → rCatA K (.ref pg) (.ref pk) H' (fun x H1 => tVar 1 σ H1 fun y H2 => rCatA K x y H2 Q) := by
    intro H' σ Q hσ s' k
    refine cat_any ((s03.trans s') _ _ hpg) ((s03.trans s') _ _ hpk) (bigLe (by rw [List.length_map, List.length_map]; omega)) fun H4 p4 s4 h4 => ⟨_, hσ, ?_⟩
    refine cat_any h4 ((s'.trans s4) _ _ hpn3) (bigLe (by rw [List.length_append, List.length_map, List.length_map, List.length_map, List.length_map]; omega)) fun H5 p5 s5 h5 => ?_
    refine k H5 p5 (s4.trans s5) ?_
    rw [h5, List.map_append, List.map_append]
  refine st_seq ⟨_, rfl, _, rfl, cat3 rfl (Same.refl _) fun H4 p4 s4 h4 => ⟨p4, _, rfl, h4, hN.nd, by rw [List.length_append, List.length_append, List.length_map]; omega, fun H5 s5 => ?_⟩⟩
  have s35 := s4.trans s5
  clear h4 s4 s5
  dsimp only
  -- each function's own
  refine st_seq ⟨_, rfl, pf, rfl, ⟨_, .inl (.inl ((s03.trans s35) _ _ hpf))⟩, for_tup (K := K) (a := pf) (xs := fx) (fun i σ H' => ∃ v3 : Option V, σ = [some (.ref r), some (.ref pn), some (.ref Dd), v3, some (.ref pg), some (.ref pk), some (.ref pe), some (.ref pf), none, none, none, none, none, none] ∧ Same H3 H')
    ⟨none, rfl, s35⟩ (fun i σ H' _ ⟨_, _, h⟩ => .inl (.inl ((s03.trans h) _ _ hpf))) ?_ ?_⟩
  · rintro i x σ H6 hi ⟨v3, rfl, s6⟩
    obtain ⟨f, hf, hxd⟩ := (hfx.mono (TK.of (s03.trans s6))).fn_get hi
    have hm := List.mem_of_getElem? hf
    obtain ⟨z1, z2, z3, z4⟩ := hZ.ps f hm
    have hsz := hZ.sz hm
    dsimp only [gName]
    refine ⟨_, rfl, _, rfl, cat3 rfl s6 fun H7 p7 s7 h7 => ⟨_, rfl, _, rfl, .ref pg, x, t.gs, f, rfl, Dv.of_strs' (((s03.trans s6).trans s7) _ _ hpg), hxd.mono (TK.of s7), by omega, by omega, (hF.fs f hm).bk, by omega, by omega, fun H8 p8 s8 h8 => ?_⟩⟩
    refine cat_any (s8 _ _ h7) h8 (bigLe (by simp only [List.length_map, List.length_append]; omega)) fun H9 p9 s9 h9 => ?_
    refine ⟨p9, _, rfl, (by rw [h9, ← List.map_append]), hN.own f hm, by simp only [List.length_map, List.length_append]; omega, fun H10 s10 => ⟨_, rfl, (((s6.trans s7).trans s8).trans s9).trans s10⟩⟩
  rintro σ H6 ⟨v3, rfl, s6⟩
  dsimp only
  -- the keeps
  refine st_seq ⟨_, rfl, pe, rfl, ⟨_, .inl (.inl ((s03.trans s6) _ _ hpe))⟩, for_tup (K := K) (a := pe) (xs := ex) (fun i σ H' => ∃ (v8 v9 : Option V), σ = [some (.ref r), some (.ref pn), some (.ref Dd), v3, some (.ref pg), some (.ref pk), some (.ref pe), some (.ref pf), v8, v9, none, none, none, none] ∧ Same H3 H')
    ⟨none, none, rfl, s6⟩ (fun i σ H' _ ⟨_, _, _, h⟩ => .inl (.inl ((s03.trans h) _ _ hpe))) ?_ ?_⟩
  · rintro i x σ H7 hi ⟨v8, v9, rfl, s7⟩
    obtain ⟨e, he, hxd⟩ := (hex.mono (TK.of (s03.trans s7))).ex_get hi
    have hm := List.mem_of_getElem? he
    have heF := (hF.kp e hm).1
    obtain ⟨r2, _, rfl, hr2, b1, _, rfl, hb1, b2, _, rfl, hb2, rfl⟩ := hxd
    obtain ⟨pt, tx, rfl, hpt, htx⟩ := hb2
    refine ⟨r2, _, rfl, .inl (.inl hr2), rfl, b1, _, rfl, .ref pt, [], rfl, rfl, ?_⟩
    dsimp only [gName]
    refine ⟨_, rfl, pt, rfl, ⟨_, .inl (.inl hpt)⟩, fun M nM => lc_tupD (fun _ => true) fstD nM hpt htx (by rw [List.length_map]; exact Nat.le_trans heF.len (by decide)) (fun x d H' Q M' hd hxd s1 hy _ => ?_) (fun H8 zs s8 hM hz => ?_)⟩
    · obtain ⟨tm, _, rfl⟩ := List.mem_map.mp hd
      obtain ⟨r3, _, rfl, hr3, a1, _, rfl, ha1, a2, _, rfl, _, rfl⟩ := hxd
      exact ⟨r3, _, rfl, .inl (.inl hr3), rfl, a1, _, rfl, a2, [], rfl, rfl, rfl, _, rfl, hy rfl _ H' (Same.refl _) ha1⟩
    rw [filter_yes, List.map_map] at hz
    have hz2 : zs = (e.2.map (·.1)).map V.str := by
      have : Dvs H8 zs (DL.of ((e.2.map (·.1)).map D.str)) := by
        rw [List.map_map]
        exact hz
      exact this.strs
    subst hz2
    refine ⟨_, rfl, M, pg, e.2.map (·.1), t.gs, rfl, hM, ((s03.trans s7).trans s8) _ _ hpg, fun n hn => ?_, _, _, rfl, s7.trans s8⟩
    obtain ⟨u, hu, rfl⟩ := List.mem_map.mp hn
    exact hN.kp e hm u hu
  rintro σ H7 ⟨v8, v9, rfl, s7⟩
  dsimp only
  -- the statements
  refine ⟨_, rfl, pf, rfl, ⟨_, .inl (.inl ((s03.trans s7) _ _ hpf))⟩, for_tup (K := K) (a := pf) (xs := fx) (fun i σ H' => ∃ (v3 v10 v11 v12 : Option V), σ = [some (.ref r), some (.ref pn), some (.ref Dd), v3, some (.ref pg), some (.ref pk), some (.ref pe), some (.ref pf), v8, v9, v10, v11, v12, none] ∧ Same H3 H')
    ⟨v3, none, none, none, rfl, s7⟩ (fun i σ H' _ ⟨_, _, _, _, _, h⟩ => .inl (.inl ((s03.trans h) _ _ hpf))) ?_ ?_⟩
  · rintro i x σ H8 hi ⟨v3, v10, v11, v12, rfl, s8⟩
    obtain ⟨f, hf, hxd⟩ := (hfx.mono (TK.of (s03.trans s8))).fn_get hi
    have hm := List.mem_of_getElem? hf
    obtain ⟨z1, z2, z3, z4⟩ := hZ.ps f hm
    have hsz := hZ.sz hm
    have hfF := hF.fs f hm
    dsimp only [gName]
    refine st_seq fun kd nkd => ?_
    have s9 := same_upd (o := .dK []) nkd
    have hkd : (upd H8 kd (.dK [])) kd = some (.dK []) := upd_same
    generalize upd H8 kd (.dK []) = H9 at s9 hkd
    refine ⟨_, rfl, _, rfl, _, rfl, .ref pg, x, t.gs, f, rfl, Dv.of_strs' (((s03.trans s8).trans s9) _ _ hpg), hxd.mono (TK.of s9), by omega, by omega, hfF.bk, by omega, by omega, fun H10 p10 s10 h10 => ?_⟩
    have s810 := (s8.trans s9).trans s10
    refine cat_any ((s03.trans s810) _ _ hpg) h10 (bigLe (by simp only [List.length_map, List.length_append]; omega)) fun H11 p11 s11 h11 => ?_
    rw [← List.map_append] at h11
    have s811 := s810.trans s11
    refine ⟨_, rfl, _, rfl, (s10.trans s11) _ _ hkd, [(kk "variable", .ref p11), (kk "kind", .ref pk), (kk "function", .ref pn)], rfl, (by show 3 ≤ 15; decide), ?_⟩
    obtain ⟨m1, m2, m3⟩ := kn_merge (.ref p11) (.ref pk) (.ref pn)
    have hkd11 := (s10.trans s11) _ _ hkd
    generalize mergeK [] [(kk "variable", V.ref p11), (kk "kind", .ref pk), (kk "function", .ref pn)] = kvs at m1 m2 m3
    have nkd3 : H3 kd = none := s8.free nkd
    have s12 : Same H3 (upd H11 kd (.dK kvs)) := same_mut s811 nkd3
    have hkd12 : (upd H11 kd (.dK kvs)) kd = some (.dK kvs) := upd_same
    have tk12 : TK H11 (upd H11 kd (.dK kvs)) := TK.upd hkd11 (fun _ z => by cases z)
    have h12 := tk12 _ _ h11
    dsimp only [gName]
    generalize upd H11 kd (.dK kvs) = H12 at s12 hkd12 h12
    have hKn : KnownAt H12 kd (t.gs ++ (f.ps.map (·.1) ++ localsT t.gs f)) t.ks ((t.fs.map hdOf).map (·.1)) := ⟨kvs, p11, pk, pn, hkd12, m1, h12, m2, (s03.trans s12) _ _ hpk, m3, by rw [hd_nms]; exact s12 _ _ hpn3⟩
    have hx12 := (hfx.mono (TK.of (s03.trans s12))).fn_get hi
    obtain ⟨f', hf', hxd'⟩ := hx12
    have : f' = f := Option.some.inj (hf'.symm.trans hf)
    subst this
    obtain ⟨r3, _, rfl, hr3, a1, _, rfl, ha1, a2, _, rfl, ha2, a3, _, rfl, ha3, rfl⟩ := hxd'
    refine ⟨_, rfl, r3, _, _, _, rfl, rfl, .inl (.inl hr3), atI_nat (j := 2) rfl, a3, f'.bk, rfl, ha3, hfF.bk, Nat.le_trans z4 (by decide), by omega, fun H13 L ls s13 nL hL hls => ?_⟩
    have hll := hls.len
    rw [List.length_map] at hll
    refine ⟨L, ls, rfl, SqL.of hL, for_any ls.length (fun j σ H' => ∃ (v11 v12 : Option V), σ = [some (.ref r), some (.ref pn), some (.ref Dd), some (.ref r3), some (.ref pg), some (.ref pk), some (.ref pe), some (.ref pf), v8, v9, some (.ref kd), v11, v12, none] ∧ Same H13 H')
      ⟨v11, v12, rfl, Same.refl _⟩ (fun j σ H' hj ⟨_, _, _, h⟩ => ⟨ls, ls[j], SqL.of (h _ _ hL), List.getElem?_eq_getElem hj⟩) (fun σ H' ⟨_, _, _, h⟩ => ⟨ls, SqL.of (h _ _ hL), Nat.le_refl _⟩) ?_ ?_⟩
    · rintro j y σ H14 H15 hj ⟨v11, v12, rfl, s14⟩ ⟨c, y1, rfl, nc, rfl, hy1⟩
      have hy1 := hy1 ls (SqL.of (s14 _ _ hL))
      obtain ⟨d, hd, hyd⟩ := (hls.mono (TK.of s14)).get hy1
      obtain ⟨st, hst, rfl⟩ := get_map hd
      have hsm := List.mem_of_getElem? hst
      obtain ⟨g1, g2⟩ := listB_hz st hsm
      have sc := same_upd (o := .tup [.int (j : Nat), y1]) nc
      refine ⟨c, _, rfl, .inl (.inl upd_same), rfl, _, _, rfl, y1, [], rfl, rfl, ?_⟩
      dsimp only [gName]
      have sk := (s12.trans s13).trans (s14.trans sc)
      refine ⟨_, rfl, _, rfl, _, rfl, _, rfl, (j : Nat), y1, kd, Dd, st, _, t.ks, t.fs.map hdOf, rfl, hyd.mono (TK.of sc), listB_F hfF.bk st hsm, by omega, by omega, hKn.same (s13.trans (s14.trans sc)), hPA.same sk, hN.st f' hm st hsm, fun H16 s16 => ⟨_, _, rfl, (s14.trans sc).trans s16⟩⟩
    · rintro σ H14 ⟨v11, v12, rfl, s14⟩
      exact ⟨_, _, _, _, rfl, (s12.trans s13).trans s14⟩
  · rintro σ H8 ⟨v3, v10, v11, v12, rfl, s8⟩
    exact q H8 (s03.trans s8)
end
end K10
namespace K10
open PySem PySem.Spec PyProof.Rows L2 TL
/-! ### the sizes of a tree -/
theorem lc_fns {K : PySem.W.Frag} {r : Addr} {xs : List V} {fs : List FnT} {g : TG} {tt : TT} {te : TE} {vs : List Nat} {σ : L2.St} {H1 : Hp} {N : Addr} {Qd : Hp → Prop} (p : FnT → Int → Prop) (hN : H1 N = none) (hr : H1 r = some (.tup xs)) (hx : Dvs H1 xs (DL.of (fs.map dFn))) (hn : fs.length ≤ 1000000)
    (hs : ∀ x f H' (Q : VK) (M : Hp → Prop), f ∈ fs → Dv H' x (dFn f) → Same H1 H' → (∀ n H2, Same H' H2 → p f n → Q (.int n) H2) → g x (wipe σ vs) H' fun σ2 H2 => wipe σ2 vs = wipe σ vs ∧ tt σ2 H2 fun b H3 => if b = true then te σ2 H3 Q else M H3)
    (hd : ∀ (H' : Hp) (ns : List Int), Same H1 H' → H' N = some (.lst (ns.map V.int)) → ns.length = fs.length → (∀ (i : Nat) f n, fs[i]? = some f → ns[i]? = some n → p f n) → Qd H') :
    ∃ W : Nat → Nat → Hp → Prop, (∃ m, W 0 m (upd H1 N (.lst []))) ∧ ∀ i m H, W i m H →
      ((Itt K r).stop i H ∧ Qd H) ∨ ((Itt K r).go i H ∧ ∃ Nx : Hp → Prop, (∀ H', Nx H' → ∃ m', m' < m ∧ W (i + 1) m' H') ∧ ∀ x H', (Itt K r).yld i H x H' → g x (wipe σ vs) H' fun σ2 H2 => wipe σ2 vs = wipe σ vs ∧ tt σ2 H2 fun b H3 =>
        if b = true then te σ2 H3 fun y H4 => ∃ acc, H4 N = some (.lst acc) ∧ acc.length < sizeLine ∧ Nx (upd H4 N (.lst (acc ++ [y]))) else Nx H3) := by
  have hl := hx.len
  rw [List.length_map] at hl
  refine it_tup (K := K) (a := r) (xs := xs) (fun i H' => Same H1 H' ∧ ∃ ns : List Int, H' N = some (.lst (ns.map V.int)) ∧ ns.length = i ∧ ∀ (j : Nat) f n, j < i → fs[j]? = some f → ns[j]? = some n → p f n) ⟨same_upd hN, [], upd_same, rfl, fun j f n h => absurd h (Nat.not_lt_zero j)⟩ (fun i H' _ hh => .inl (.inl (hh.1 _ _ hr))) ?_ ?_
  · rintro i x H' hi ⟨s1, ns, hy, hnl, hall⟩
    have hil := (List.getElem?_eq_some_iff.mp hi).1
    obtain ⟨f, hf, hxd⟩ := (hx.mono (TK.of s1)).fn_get hi
    refine hs x f H' _ _ (List.mem_of_getElem? hf) hxd s1 fun n H2 s2 hp => ⟨_, s2 _ _ hy, bigLine (by rw [List.length_map]; omega), same_mut (s1.trans s2) hN, ns ++ [n], by rw [upd_same, List.map_append]; rfl, by rw [List.length_append, hnl]; rfl, fun j g m hj hg hm => ?_⟩
    by_cases e : j < i
    · rw [List.getElem?_append_left (by omega)] at hm
      exact hall j g m e hg hm
    · have e : j = i := by omega
      subst e
      rw [List.getElem?_append_right (by omega), hnl, Nat.sub_self] at hm
      have hm : n = m := Option.some.inj hm
      have hg : f = g := Option.some.inj (hf.symm.trans hg)
      subst hm; subst hg
      exact hp
  · rintro H' ⟨s1, ns, hy, hnl, hall⟩
    refine hd H' ns s1 hy (by omega) fun i f n hf hn => hall i f n ?_ hf hn
    have := (List.getElem?_eq_some_iff.mp hn).1
    omega
theorem r_le {ns : List Int} {r b : Int} (hr : r = 0 ∨ r ∈ ns) (h0 : 0 ≤ b) (h : ∀ n ∈ ns, n ≤ b) : r ≤ b := by
  rcases hr with rfl | hr
  · exact h0
  · exact h r hr
theorem pt_all {fs : List FnT} {ns : List Int} {p : FnT → Int → Prop} (hl : ns.length = fs.length) (h : ∀ (i : Nat) f n, fs[i]? = some f → ns[i]? = some n → p f n) : ∀ n ∈ ns, ∃ f ∈ fs, p f n := by
  intro n hn
  obtain ⟨i, hi⟩ := List.mem_iff_getElem?.mp hn
  have hil := (List.getElem?_eq_some_iff.mp hi).1
  have hf : fs[i]? = some fs[i] := List.getElem?_eq_getElem (by omega)
  exact ⟨_, List.mem_of_getElem? hf, h i _ n hf hi⟩
theorem pt_sum : ∀ {fs : List FnT} {ns : List Int} (g : FnT → Nat), ns.length = fs.length → (∀ (i : Nat) f n, fs[i]? = some f → ns[i]? = some n → n = (g f : Int)) → ns.sum = ((fs.map g).sum : Int)
  | [], [], _, _, _ => rfl
  | f :: fs, n :: ns, g, hl, h => by
    rw [List.sum_cons, List.map_cons, List.sum_cons, pt_sum (fs := fs) (ns := ns) g (Nat.succ.inj hl) (fun i f' n' hf hn => h (i + 1) f' n' hf hn), h 0 f n rfl rfl]
    omega
  | [], _ :: _, _, hl, _ => by cases hl
  | _ :: _, [], _, hl, _ => by cases hl
def rLenS (K : PySem.W.Frag) : List V → Hp → VK → Prop := fun xs H Q => ∃ p ys, xs = [.ref p] ∧ (SqL K H p ys ∨ SqT K H p ys) ∧ Q (.int ys.length) H
theorem three_le : (3 : Nat) ≤ sizeLine := by decide
def spTreeZ : Sp := fun vs H Q _ => ∃ (v : V) (t : Tree), vs = [v] ∧ Dv H v (dT t) ∧ TreeF t ∧ TreeSz t ∧ ∀ H', Same H H' → Q .non H'
def Row3 (H : Hp) (p : Addr) : Prop := ∃ z n m, H p = some (.tup [.str z, .int n, .int m]) ∧ n ≤ m
theorem Row3.same {H H' : Hp} {p : Addr} (s : Same H H') : Row3 H p → Row3 H' p
  | ⟨z, n, m, h, hl⟩ => ⟨z, n, m, s _ _ h, hl⟩
theorem Row3.new {H : Hp} {p : Addr} {z : Str} {n m : Int} (h : n ≤ m) : Row3 (upd H p (.tup [.str z, .int n, .int m])) p := ⟨z, n, m, upd_same, h⟩
section
variable {P : Program} {w : World} {K : PySem.W.Frag} {mg : Str → Option Value} {base : Heap} {a : Ads}
theorem sc_check_sizes : FnScope ["tree", "sizes", "variables", "kinds", "keeps", "functions", "word", "size", "most", "function", "number", "_", "params", "block"] ["tree"] (defScope s_check_sizes) := ⟨rfl, rfl, rfl, by decide +kernel, rfl, by decide +kernel, by decide +kernel⟩
theorem ok_check_sizes (T : Txt K mg a) {tS tU tF : Addr} (B : Tabs K w mg a tS tU tF) : FnOk P w K mg base CX0 12 a.f_check_sizes a.f_check_sizes_d ["tree"] spTreeZ := by
  refine T.F_check_sizes.ok sc_check_sizes (fun vs H Q E h => ?_) (fun cdv A outer s H vs Q E hr h => ?_)
  · obtain ⟨v, t, rfl, _⟩ := h
    rfl
  obtain ⟨v, t, rfl, hv, hF, hZ, q⟩ := h
  refine ⟨_, (pss_cons (ps_asg (pv 0) (pg_tup (by rfl) (pgs_cons (pg_name (i := 2) sc_check_sizes.nd rfl (Or.inr rfl)) (pgs_cons (pg_name (i := 3) sc_check_sizes.nd rfl (Or.inl rfl)) (pgs_cons (pg_name (i := 4) sc_check_sizes.nd rfl (Or.inl rfl)) (pgs_cons (pg_name (i := 5) sc_check_sizes.nd rfl (Or.inl rfl)) pgs_nil))))))
    (pss_cons (ps_set (i := 1) sc_check_sizes.nd rfl (Or.inl rfl) (pe_tup (pa_cons (pe_tup (pa_cons pe_str (pa_cons (pe_callB (show CallR _ (.builtin "len") (rLenS K) from call_len_seq) (by rfl) T.len PySem.boot_len (pa_cons (pv 2) pa_nil)) (pa_cons (pe_gi rfl T.g_MOST_GLOBALS) pa_nil)))) (pa_cons (pe_tup (pa_cons pe_str (pa_cons (pe_callB (show CallR _ (.builtin "len") (rLenS K) from call_len_seq) (by rfl) T.len PySem.boot_len (pa_cons (pv 3) pa_nil)) (pa_cons (pe_gi rfl T.g_MOST_KINDS) pa_nil)))) (pa_cons (pe_tup (pa_cons pe_str (pa_cons (pe_callB (show CallR _ (.builtin "len") (rLenS K) from call_len_seq) (by rfl) T.len PySem.boot_len (pa_cons (pv 4) pa_nil)) (pa_cons (pe_gi rfl T.g_MOST_KEEPS) pa_nil)))) (pa_cons (pe_tup (pa_cons pe_str (pa_cons (pe_callB (show CallR _ (.builtin "len") (rLenS K) from call_len_seq) (by rfl) T.len PySem.boot_len (pa_cons (pv 5) pa_nil)) (pa_cons (pe_gi rfl T.g_MOST_FUNCTIONS) pa_nil)))) (pa_cons (pe_tup (pa_cons pe_str (pa_cons (pe_call (ok_largest T) (hr.mono (by decide)) (by rfl) T.g_largest T.F_largest.kp T.b_largest .nil pass0 (pa_cons (pe_lc (own := [("_", 11), ("params", 12)]) (g := gTup K 3 (gCons (gName 11) (gCons (gName 12) (gCons (gName 11) gNil)))) (tt := tYes) (by rfl) sc_check_sizes.nd (pi_tup (pv 5)) (blkOk_by (own := [("_", 11), ("params", 12)]) (N := ["tree", "sizes", "variables", "kinds", "keeps", "functions", "word", "size", "most", "function", "number", "_", "params", "block"]) (sc := defScope s_check_sizes) (by decide +kernel)) (fun _ _ _ _ _ => pg_tup (by rfl) (pgs_cons (pg_name (i := 11) sc_check_sizes.nd rfl (Or.inl rfl)) (pgs_cons (pg_name (i := 12) sc_check_sizes.nd rfl (Or.inl rfl)) (pgs_cons (pg_name (i := 11) sc_check_sizes.nd rfl (Or.inl rfl)) pgs_nil)))) (fun _ _ _ _ _ => pts_nil) (fun _ _ _ _ _ => (pe_callB (show CallR _ (.builtin "len") (rLenS K) from call_len_seq) (by rfl) T.len PySem.boot_len (pa_cons (pv 12) pa_nil)))) pa_nil)) (pa_cons (pe_gi rfl T.g_MOST_PARAMETERS) pa_nil)))) (pa_cons (pe_tup (pa_cons pe_str (pa_cons (pe_call (ok_largest T) (hr.mono (by decide)) (by rfl) T.g_largest T.F_largest.kp T.b_largest .nil pass0 (pa_cons (pe_lc (own := [("_", 11), ("params", 12)]) (g := gTup K 3 (gCons (gName 11) (gCons (gName 12) (gCons (gName 11) gNil)))) (tt := tYes) (by rfl) sc_check_sizes.nd (pi_tup (pv 5)) (blkOk_by (own := [("_", 11), ("params", 12)]) (N := ["tree", "sizes", "variables", "kinds", "keeps", "functions", "word", "size", "most", "function", "number", "_", "params", "block"]) (sc := defScope s_check_sizes) (by decide +kernel)) (fun _ _ _ _ _ => pg_tup (by rfl) (pgs_cons (pg_name (i := 11) sc_check_sizes.nd rfl (Or.inl rfl)) (pgs_cons (pg_name (i := 12) sc_check_sizes.nd rfl (Or.inl rfl)) (pgs_cons (pg_name (i := 11) sc_check_sizes.nd rfl (Or.inl rfl)) pgs_nil)))) (fun _ _ _ _ _ => pts_nil) (fun _ _ _ _ _ => (pe_call (ok_by_place_in T) (hr.mono (by decide)) (by rfl) T.g_by_place_in T.F_by_place_in.kp T.b_by_place_in .nil pass0 (pa_cons (pv 12) pa_nil)))) pa_nil)) (pa_cons (pe_gi rfl T.g_MOST_BY_PLACE) pa_nil)))) (pa_cons (pe_tup (pa_cons pe_str (pa_cons (pe_call (ok_largest T) (hr.mono (by decide)) (by rfl) T.g_largest T.F_largest.kp T.b_largest .nil pass0 (pa_cons (pe_lc (own := [("function", 9)]) (g := gName 9) (tt := tYes) (by rfl) sc_check_sizes.nd (pi_tup (pv 5)) (blkOk_by (own := [("function", 9)]) (N := ["tree", "sizes", "variables", "kinds", "keeps", "functions", "word", "size", "most", "function", "number", "_", "params", "block"]) (sc := defScope s_check_sizes) (by decide +kernel)) (fun _ _ _ _ _ => pg_name (i := 9) sc_check_sizes.nd rfl (Or.inl rfl)) (fun _ _ _ _ _ => pts_nil) (fun _ _ _ _ _ => (pe_callB (show CallR _ (.builtin "len") (rLenS K) from call_len_seq) (by rfl) T.len PySem.boot_len (pa_cons (pe_call (ok_locals_of T B) (hr.mono (by decide)) (by rfl) T.g_locals_of T.F_locals_of.kp T.b_locals_of .nil pass0 (pa_cons (pv 2) (pa_cons (pv 9) pa_nil))) pa_nil)))) pa_nil)) (pa_cons (pe_gi rfl T.g_MOST_LOCALS) pa_nil)))) (pa_cons (pe_tup (pa_cons pe_str (pa_cons (pe_callB (cr_sum rfl) (by rfl) T.sum (by decide +kernel) (pa_cons (pe_lc (own := [("_", 11), ("block", 13)]) (g := gTup K 3 (gCons (gName 11) (gCons (gName 11) (gCons (gName 13) gNil)))) (tt := tYes) (by rfl) sc_check_sizes.nd (pi_tup (pv 5)) (blkOk_by (own := [("_", 11), ("block", 13)]) (N := ["tree", "sizes", "variables", "kinds", "keeps", "functions", "word", "size", "most", "function", "number", "_", "params", "block"]) (sc := defScope s_check_sizes) (by decide +kernel)) (fun _ _ _ _ _ => pg_tup (by rfl) (pgs_cons (pg_name (i := 11) sc_check_sizes.nd rfl (Or.inl rfl)) (pgs_cons (pg_name (i := 11) sc_check_sizes.nd rfl (Or.inl rfl)) (pgs_cons (pg_name (i := 13) sc_check_sizes.nd rfl (Or.inl rfl)) pgs_nil)))) (fun _ _ _ _ _ => pts_nil) (fun _ _ _ _ _ => (pe_callB (show CallR _ (.builtin "len") (rLenS K) from call_len_seq) (by rfl) T.len PySem.boot_len (pa_cons (pe_call (ok_listed T B 8) (hr.mono (by decide)) (by rfl) T.g_listed T.F_listed.kp T.b_listed .nil pass0 (pa_cons (pv 13) pa_nil)) pa_nil)))) pa_nil)) (pa_cons (pe_gi rfl T.g_MOST_STATEMENTS) pa_nil)))) (pa_cons (pe_tup (pa_cons pe_str (pa_cons (pe_call (ok_largest T) (hr.mono (by decide)) (by rfl) T.g_largest T.F_largest.kp T.b_largest .nil pass0 (pa_cons (pe_lc (own := [("_", 11), ("block", 13)]) (g := gTup K 3 (gCons (gName 11) (gCons (gName 11) (gCons (gName 13) gNil)))) (tt := tYes) (by rfl) sc_check_sizes.nd (pi_tup (pv 5)) (blkOk_by (own := [("_", 11), ("block", 13)]) (N := ["tree", "sizes", "variables", "kinds", "keeps", "functions", "word", "size", "most", "function", "number", "_", "params", "block"]) (sc := defScope s_check_sizes) (by decide +kernel)) (fun _ _ _ _ _ => pg_tup (by rfl) (pgs_cons (pg_name (i := 11) sc_check_sizes.nd rfl (Or.inl rfl)) (pgs_cons (pg_name (i := 11) sc_check_sizes.nd rfl (Or.inl rfl)) (pgs_cons (pg_name (i := 13) sc_check_sizes.nd rfl (Or.inl rfl)) pgs_nil)))) (fun _ _ _ _ _ => pts_nil) (fun _ _ _ _ _ => (pe_call (ok_depth_of T B 6) (hr.mono (by decide)) (by rfl) T.g_depth_of T.F_depth_of.kp T.b_depth_of .nil pass0 (pa_cons (pv 13) pa_nil)))) pa_nil)) (pa_cons (pe_gi rfl T.g_MOST_NESTING) pa_nil)))) (pa_cons (pe_tup (pa_cons pe_str (pa_cons (pe_call (ok_largest T) (hr.mono (by decide)) (by rfl) T.g_largest T.F_largest.kp T.b_largest .nil pass0 (pa_cons (pe_lc (own := [("number", 10)]) (g := gName 10) (tt := tYes) (by rfl) sc_check_sizes.nd (pi_list (pe_call (ok_numbers_in T B) (hr.mono (by decide)) (by rfl) T.g_numbers_in T.F_numbers_in.kp T.b_numbers_in .nil pass0 (pa_cons (pv 0) pa_nil))) (blkOk_by (own := [("number", 10)]) (N := ["tree", "sizes", "variables", "kinds", "keeps", "functions", "word", "size", "most", "function", "number", "_", "params", "block"]) (sc := defScope s_check_sizes) (by decide +kernel)) (fun _ _ _ _ _ => pg_name (i := 10) sc_check_sizes.nd rfl (Or.inl rfl)) (fun _ _ _ _ _ => pts_nil) (fun _ _ _ _ _ => (pe_callB call_abs (by rfl) T.abs (by decide +kernel) (pa_cons (pv 10) pa_nil)))) pa_nil)) (pa_cons (pe_gi rfl T.g_LARGEST_NUMBER) pa_nil)))) pa_nil))))))))))))
    (pss_one (ps_for PassesOwn.never rfl (pi_tup (pv 1)) (pg_tup (by rfl) (pgs_cons (pg_name (i := 6) sc_check_sizes.nd rfl (Or.inl rfl)) (pgs_cons (pg_name (i := 7) sc_check_sizes.nd rfl (Or.inl rfl)) (pgs_cons (pg_name (i := 8) sc_check_sizes.nd rfl (Or.inl rfl)) pgs_nil))))
      (pss_one (ps_if (pt_cmpR op_gt (pv 7) (pv 8) (nomark _))
        (pss_one ps_never)
        pss_nil)))))), ?_⟩
  have hgl := hZ.g
  have hkl := hZ.k
  have hel := hZ.kp
  have hfl := hZ.f
  have hv0 := hv
  obtain ⟨r, _, rfl, hr0, y1, _, rfl, hy1, y2, _, rfl, hy2, y3, _, rfl, hy3, y4, _, rfl, hy4, rfl⟩ := hv
  have hy1' := hy1
  obtain ⟨pg, rfl, hpg⟩ := hy1.strs
  obtain ⟨pk, rfl, hpk⟩ := hy2.strs
  obtain ⟨pe, ex, rfl, hpe, hex⟩ := hy3
  obtain ⟨pf, fx, rfl, hpf, hfx⟩ := hy4
  have hexl := hex.len
  rw [List.length_map] at hexl
  have hfxl := hfx.len
  rw [List.length_map] at hfxl
  refine st_seq ⟨_, rfl, r, _, rfl, .inl (.inl hr0), rfl, .ref pg, _, rfl, .ref pk, _, rfl, .ref pe, _, rfl, .ref pf, [], rfl, rfl, ?_⟩
  dsimp only [gName]
  refine st_seq ⟨_, rfl, _, _, rfl, .inr (.inl (.inl hpg)), three_le, fun t1 n1 => ?_⟩
  have s1 := same_upd (o := .tup [.str "globals", .int (t.gs.map V.str).length, .int 4]) n1
  have h1 : Row3 _ t1 := Row3.new (H := H) (p := t1) (z := "globals") (n := (t.gs.map V.str).length) (m := 4) (by rw [List.length_map]; omega)
  generalize upd H t1 (.tup [.str "globals", .int (t.gs.map V.str).length, .int 4]) = H1 at s1 h1
  refine ⟨_, rfl, _, _, rfl, .inr (.inl (.inl (s1 _ _ hpk))), three_le, fun t2 n2 => ?_⟩
  have s2 := same_upd (o := .tup [.str "kinds", .int (t.ks.map V.str).length, .int 3]) n2
  have h2 : Row3 _ t2 := Row3.new (H := H1) (p := t2) (z := "kinds") (n := (t.ks.map V.str).length) (m := 3) (by rw [List.length_map]; omega)
  generalize upd H1 t2 (.tup [.str "kinds", .int (t.ks.map V.str).length, .int 3]) = H2 at s2 h2
  refine ⟨_, rfl, _, _, rfl, .inr (.inl (.inl ((s1.trans s2) _ _ hpe))), three_le, fun t3 n3 => ?_⟩
  have s3 := same_upd (o := .tup [.str "keeps", .int ex.length, .int 4]) n3
  have h3 : Row3 _ t3 := Row3.new (H := H2) (p := t3) (z := "keeps") (n := ex.length) (m := 4) (by omega)
  generalize upd H2 t3 (.tup [.str "keeps", .int ex.length, .int 4]) = H3 at s3 h3
  refine ⟨_, rfl, _, _, rfl, .inr (.inl (.inl (((s1.trans s2).trans s3) _ _ hpf))), three_le, fun t4 n4 => ?_⟩
  have s4 := same_upd (o := .tup [.str "functions", .int fx.length, .int 6]) n4
  have h4 : Row3 _ t4 := Row3.new (H := H3) (p := t4) (z := "functions") (n := fx.length) (m := 6) (by omega)
  generalize upd H3 t4 (.tup [.str "functions", .int fx.length, .int 6]) = H4 at s4 h4
  have s04 := ((s1.trans s2).trans s3).trans s4
  have hb : t.fs.length ≤ 1000000 := by omega
  -- parameters
  refine ⟨_, rfl, pf, rfl, ⟨_, .inl (.inl (s04 _ _ hpf))⟩, fun N5 nN5 => lc_fns (fun f n => n = (f.ps.length : Int)) nN5 (s04 _ _ hpf) (hfx.mono (TK.of s04)) hb (fun x f H' Q M hm hxd s' hy => ?_) (fun H5' ns5 s5' hN5 hl5 hp5 => ?_)⟩
  · obtain ⟨r3, _, rfl, hr3, a1, _, rfl, ha1, a2, _, rfl, ha2, a3, _, rfl, _, rfl⟩ := hxd
    obtain ⟨pp, px, rfl, hpp, hpx⟩ := ha2
    have hl := hpx.len
    rw [List.length_map] at hl
    exact ⟨r3, _, rfl, .inl (.inl hr3), rfl, a1, _, rfl, .ref pp, _, rfl, a3, [], rfl, rfl, rfl, _, rfl, _, _, rfl, .inr (.inl (.inl hpp)), hy _ H' (Same.refl _) (by rw [hl])⟩
  refine ⟨N5, ns5, rfl, hN5, fun r5 hr5 _ => ⟨three_le, fun t5 n5 => ?_⟩⟩
  have b5 : r5 ≤ 3 := r_le hr5 (by decide) fun n hn => by
    obtain ⟨f, hf, e⟩ := pt_all hl5 hp5 n hn
    have := (hZ.ps f hf).1
    omega
  have s5 := s5'.trans (same_upd (o := .tup [.str "parameters", .int r5, .int 3]) n5)
  have h5 : Row3 _ t5 := Row3.new (H := H5') (p := t5) (z := "parameters") (n := r5) (m := 3) b5
  generalize upd H5' t5 (.tup [.str "parameters", .int r5, .int 3]) = H5 at s5 h5
  have s05 := s04.trans s5
  clear hN5 hp5 hl5 hr5 s5' n5 nN5
  -- by place
  refine ⟨_, rfl, pf, rfl, ⟨_, .inl (.inl (s05 _ _ hpf))⟩, fun N6 nN6 => lc_fns (fun f n => n = (byPl f.ps : Int)) nN6 (s05 _ _ hpf) (hfx.mono (TK.of s05)) hb (fun x f H' Q M hm hxd s' hy => ?_) (fun H6' ns6 s6' hN6 hl6 hp6 => ?_)⟩
  · obtain ⟨r3, _, rfl, hr3, a1, _, rfl, ha1, a2, _, rfl, ha2, a3, _, rfl, _, rfl⟩ := hxd
    have hpl := (hZ.ps f hm).1
    exact ⟨r3, _, rfl, .inl (.inl hr3), rfl, a1, _, rfl, a2, _, rfl, a3, [], rfl, rfl, rfl, _, rfl, a2, f.ps, rfl, ha2, by omega, fun H2 s2 => hy _ H2 s2 rfl⟩
  refine ⟨N6, ns6, rfl, hN6, fun r6 hr6 _ => ⟨three_le, fun t6 n6 => ?_⟩⟩
  have b6 : r6 ≤ 2 := r_le hr6 (by decide) fun n hn => by
    obtain ⟨f, hf, e⟩ := pt_all hl6 hp6 n hn
    have := (hZ.ps f hf).2.1
    omega
  have s6 := s6'.trans (same_upd (o := .tup [.str "parameters", .int r6, .int 2]) n6)
  have h6 : Row3 _ t6 := Row3.new (H := H6') (p := t6) (z := "parameters") (n := r6) (m := 2) b6
  generalize upd H6' t6 (.tup [.str "parameters", .int r6, .int 2]) = H6 at s6 h6
  have s06 := s05.trans s6
  clear hN6 hp6 hl6 hr6 s6' n6 nN6
  -- locals
  refine ⟨_, rfl, pf, rfl, ⟨_, .inl (.inl (s06 _ _ hpf))⟩, fun N7 nN7 => lc_fns (fun f n => n = ((localsT t.gs f).length : Int)) nN7 (s06 _ _ hpf) (hfx.mono (TK.of s06)) hb (fun x f H' Q M hm hxd s' hy => ?_) (fun H7' ns7 s7' hN7 hl7 hp7 => ?_)⟩
  · obtain ⟨z1, z2, z3, z4⟩ := hZ.ps f hm
    have hsz := hZ.sz hm
    refine ⟨rfl, _, rfl, _, rfl, .ref pg, x, t.gs, f, rfl, hy1'.mono (TK.of (s06.trans s')), hxd, by omega, by omega, (hF.fs f hm).bk, by omega, by omega, fun H2 L s2 nL hL => ⟨_, _, rfl, .inl (SqL.of hL), hy _ H2 s2 (by rw [List.length_map])⟩⟩
  refine ⟨N7, ns7, rfl, hN7, fun r7 hr7 _ => ⟨three_le, fun t7 n7 => ?_⟩⟩
  have b7 : r7 ≤ 3 := r_le hr7 (by decide) fun n hn => by
    obtain ⟨f, hf, e⟩ := pt_all hl7 hp7 n hn
    have := (hZ.ps f hf).2.2.1
    omega
  have s7 := s7'.trans (same_upd (o := .tup [.str "locals", .int r7, .int 3]) n7)
  have h7 : Row3 _ t7 := Row3.new (H := H7') (p := t7) (z := "locals") (n := r7) (m := 3) b7
  generalize upd H7' t7 (.tup [.str "locals", .int r7, .int 3]) = H7 at s7 h7
  have s07 := s06.trans s7
  clear hN7 hp7 hl7 hr7 s7' n7 nN7
  -- statements
  refine ⟨_, rfl, pf, rfl, ⟨_, .inl (.inl (s07 _ _ hpf))⟩, fun N8 nN8 => lc_fns (fun f n => n = (f.bk.sz : Int)) nN8 (s07 _ _ hpf) (hfx.mono (TK.of s07)) hb (fun x f H' Q M hm hxd s' hy => ?_) (fun H8' ns8 s8' hN8 hl8 hp8 => ?_)⟩
  · obtain ⟨r3, _, rfl, hr3, a1, _, rfl, ha1, a2, _, rfl, ha2, a3, _, rfl, ha3, rfl⟩ := hxd
    obtain ⟨z1, z2, z3, z4⟩ := hZ.ps f hm
    have hsz := hZ.sz hm
    refine ⟨r3, _, rfl, .inl (.inl hr3), rfl, a1, _, rfl, a2, _, rfl, a3, [], rfl, rfl, rfl, _, rfl, a3, f.bk, rfl, ha3, (hF.fs f hm).bk, Nat.le_trans z4 (by decide), by omega, fun H2 L ls s2 nL hL hls => ⟨_, _, rfl, .inl (SqL.of hL), hy _ H2 s2 ?_⟩⟩
    rw [hls.len, List.length_map, list_szB]
  refine ⟨N8, ns8, rfl, SqL.of hN8, three_le, fun t8 n8 => ?_⟩
  have b8 : ns8.sum ≤ 60 := by
    rw [pt_sum (fun f => f.bk.sz) hl8 hp8]
    have := hZ.st
    omega
  have s8 := s8'.trans (same_upd (o := .tup [.str "statements", .int ns8.sum, .int 60]) n8)
  have h8 : Row3 _ t8 := Row3.new (H := H8') (p := t8) (z := "statements") (n := ns8.sum) (m := 60) b8
  generalize upd H8' t8 (.tup [.str "statements", .int ns8.sum, .int 60]) = H8 at s8 h8
  have s08 := s07.trans s8
  clear hN8 hp8 hl8 s8' n8 nN8
  -- nesting
  refine ⟨_, rfl, pf, rfl, ⟨_, .inl (.inl (s08 _ _ hpf))⟩, fun N9 nN9 => lc_fns (fun f n => n ≤ 6) nN9 (s08 _ _ hpf) (hfx.mono (TK.of s08)) hb (fun x f H' Q M hm hxd s' hy => ?_) (fun H9' ns9 s9' hN9 hl9 hp9 => ?_)⟩
  · obtain ⟨r3, _, rfl, hr3, a1, _, rfl, ha1, a2, _, rfl, ha2, a3, _, rfl, ha3, rfl⟩ := hxd
    obtain ⟨z1, z2, z3, z4⟩ := hZ.ps f hm
    have hsz := hZ.sz hm
    exact ⟨r3, _, rfl, .inl (.inl hr3), rfl, a1, _, rfl, a2, _, rfl, a3, [], rfl, rfl, rfl, _, rfl, a3, f.bk, rfl, ha3, (hF.fs f hm).bk, z4, by omega, fun H2 n s2 _ hn => hy n H2 s2 (by omega)⟩
  refine ⟨N9, ns9, rfl, hN9, fun r9 hr9 _ => ⟨three_le, fun t9 n9 => ?_⟩⟩
  have b9 : r9 ≤ 6 := r_le hr9 (by decide) fun n hn => by
    obtain ⟨f, hf, e⟩ := pt_all hl9 hp9 n hn
    exact e
  have s9 := s9'.trans (same_upd (o := .tup [.str "nesting", .int r9, .int 6]) n9)
  have h9 : Row3 _ t9 := Row3.new (H := H9') (p := t9) (z := "nesting") (n := r9) (m := 6) b9
  generalize upd H9' t9 (.tup [.str "nesting", .int r9, .int 6]) = H9 at s9 h9
  have s09 := s08.trans s9
  clear hN9 hp9 hl9 hr9 s9' n9 nN9
  -- numbers
  refine ⟨_, rfl, .ref r, t, rfl, hv0.mono (TK.of s09), hF, hZ, fun HA L ms sA nL hL hml hms => ⟨L, rfl, ⟨_, SqL.of hL⟩, fun NA nNA => ?_⟩⟩
  refine lc_list (K := K) (a := L) (xs := ms.map V.int) (fun i H' => Same HA H' ∧ ∃ ns : List Int, H' NA = some (.lst (ns.map V.int)) ∧ ns.length = i ∧ ∀ n ∈ ns, n ≤ 999999999999) ⟨same_upd nNA, [], upd_same, rfl, fun n hn => by cases hn⟩ (fun i H' _ hh => SqL.of (hh.1 _ _ hL)) ?_ ?_
  · rintro i y H3' hi ⟨s', ns, hN3, hnl, hns⟩
    obtain ⟨m, hm, rfl⟩ := get_map hi
    have hil := (List.getElem?_eq_some_iff.mp hm).1
    have hmd := hms m (List.mem_of_getElem? hm)
    refine ⟨rfl, _, rfl, _, rfl, _, hN3, bigLine (by rw [List.length_map]; omega), same_mut s' nNA, ns ++ [if m < 0 then -m else m], by rw [upd_same, List.map_append]; rfl, by rw [List.length_append, hnl]; rfl, fun n hn => ?_⟩
    rcases List.mem_append.mp hn with hn | hn
    · exact hns n hn
    · rw [List.mem_singleton.mp hn]
      have h1 := hmd.1
      have h2 := hmd.2
      split <;> omega
  rintro HB ⟨sB, ns10, hNA, _, hns10⟩
  refine ⟨NA, ns10, rfl, hNA, fun r10 hr10 _ => ⟨three_le, fun t10 n10 => ?_⟩⟩
  have b10 : r10 ≤ 999999999999 := r_le hr10 (by decide) hns10
  have s10 := (sA.trans sB).trans (same_upd (o := .tup [.str "numbers", .int r10, .int 999999999999]) n10)
  have h10 : Row3 _ t10 := Row3.new (H := HB) (p := t10) (z := "numbers") (n := r10) (m := 999999999999) b10
  generalize upd HB t10 (.tup [.str "numbers", .int r10, .int 999999999999]) = H10 at s10 h10
  have s010 := s09.trans s10
  refine ⟨(by show 10 ≤ sizeLine; decide), fun tt ntt => ?_⟩
  have s11 := same_upd (o := .tup [.ref t1, .ref t2, .ref t3, .ref t4, .ref t5, .ref t6, .ref t7, .ref t8, .ref t9, .ref t10]) ntt
  have htt : (upd H10 tt (.tup [.ref t1, .ref t2, .ref t3, .ref t4, .ref t5, .ref t6, .ref t7, .ref t8, .ref t9, .ref t10])) tt = some (.tup [.ref t1, .ref t2, .ref t3, .ref t4, .ref t5, .ref t6, .ref t7, .ref t8, .ref t9, .ref t10]) := upd_same
  dsimp only [gName]
  generalize upd H10 tt (.tup [.ref t1, .ref t2, .ref t3, .ref t4, .ref t5, .ref t6, .ref t7, .ref t8, .ref t9, .ref t10]) = H11 at s11 htt
  have c9 := s10.trans s11
  have c8 := s9.trans c9
  have c7 := s8.trans c8
  have c6 := s7.trans c7
  have c5 := s6.trans c6
  have c4 := s5.trans c5
  have c3 := s4.trans c4
  have c2 := s3.trans c3
  have c1 := s2.trans c2
  have hall : ∀ x ∈ [V.ref t1, .ref t2, .ref t3, .ref t4, .ref t5, .ref t6, .ref t7, .ref t8, .ref t9, .ref t10], ∃ p, x = .ref p ∧ Row3 H11 p := by
    intro x hx
    simp only [List.mem_cons, List.not_mem_nil, or_false] at hx
    rcases hx with rfl | rfl | rfl | rfl | rfl | rfl | rfl | rfl | rfl | rfl
    · exact ⟨_, rfl, h1.same c1⟩
    · exact ⟨_, rfl, h2.same c2⟩
    · exact ⟨_, rfl, h3.same c3⟩
    · exact ⟨_, rfl, h4.same c4⟩
    · exact ⟨_, rfl, h5.same c5⟩
    · exact ⟨_, rfl, h6.same c6⟩
    · exact ⟨_, rfl, h7.same c7⟩
    · exact ⟨_, rfl, h8.same c8⟩
    · exact ⟨_, rfl, h9.same c9⟩
    · exact ⟨_, rfl, h10.same s11⟩
  refine ⟨_, rfl, tt, rfl, ⟨_, .inl (.inl htt)⟩, for_tup (K := K) (a := tt) (xs := [V.ref t1, .ref t2, .ref t3, .ref t4, .ref t5, .ref t6, .ref t7, .ref t8, .ref t9, .ref t10]) (fun i σ H' => ∃ (v6 v7 v8 : Option V), σ = [some (.ref r), some (.ref tt), some (.ref pg), some (.ref pk), some (.ref pe), some (.ref pf), v6, v7, v8, none, none, none, none, none] ∧ H' = H11)
    ⟨none, none, none, rfl, rfl⟩ (fun i σ H' _ ⟨_, _, _, _, e⟩ => by rw [e]; exact .inl (.inl htt)) ?_ ?_⟩
  · rintro i x σ H12 hi ⟨v6, v7, v8, rfl, rfl⟩
    obtain ⟨p, rfl, z, n, m, hp, hnm⟩ := hall x (List.mem_of_getElem? hi)
    refine ⟨p, _, rfl, .inl (.inl hp), rfl, _, _, rfl, _, _, rfl, _, [], rfl, rfl, ?_⟩
    dsimp only [gName]
    refine st_no (fun Q q => ⟨_, rfl, _, rfl, _, _, rfl, rfl, _, rfl, ?_⟩) ⟨_, _, _, rfl, rfl⟩
    rw [decide_eq_false (by omega)]
    exact q
  · rintro σ H12 ⟨v6, v7, v8, rfl, rfl⟩
    exact q H12 (s010.trans s11)
end
end K10
namespace K10
open PySem PySem.Spec PyProof.Rows L2 TL
/-! ### forms: all that is asked of a right tree is answered with True -/
theorem ansH_or {t u : TT} {σ : L2.St} {H : Hp} {b : Bool} {PV : Hp → Prop} (h1 : Ans t σ H false) (h2 : AnsH u σ H b PV) : AnsH (tOr t u) σ H b PV := fun Q q => h1 _ (by
  show (if false = true then Q true H else u σ H Q)
  rw [if_neg Bool.false_ne_true]
  exact h2 Q q)
theorem ty_tup {K : PySem.W.Frag} {H : Hp} {p : Addr} {xs : List V} (h : H p = some (.tup xs)) : TyX K H (.ref p) (.type "tuple") := .base (.tup h)
theorem kit_tt : kitB "tuple" "tuple" = some true := by decide +kernel
theorem kit_ss : kitB "str" "str" = some true := by decide +kernel
theorem kit_bb : kitB "bool" "bool" = some true := by decide +kernel
theorem all_true (n : Nat) : (List.replicate n true).all id = true := List.all_eq_true.mpr fun x hx => (List.eq_of_mem_replicate hx)
theorem rep_succ (n : Nat) : (List.replicate n true).map V.bl ++ [.bl true] = (List.replicate (n + 1) true).map V.bl := by
  rw [List.replicate_succ', List.map_append]
  rfl
theorem lc_yes {K : PySem.W.Frag} {r : Addr} {xs : List V} {ds : List D} {g : TG} {tt : TT} {te : TE} {vs : List Nat} {σ : L2.St} {H1 : Hp} {N : Addr} {Qd : Hp → Prop} (hN : H1 N = none) (hr : H1 r = some (.tup xs)) (hx : Dvs H1 xs (DL.of ds)) (hn : ds.length ≤ 1000000)
    (hs : ∀ x d H' (Q : VK) (M : Hp → Prop), d ∈ ds → Dv H' x d → Same H1 H' → (∀ H2, Same H' H2 → Q (.bl true) H2) → g x (wipe σ vs) H' fun σ2 H2 => wipe σ2 vs = wipe σ vs ∧ tt σ2 H2 fun b H3 => if b = true then te σ2 H3 Q else M H3)
    (hd : ∀ H', Same H1 H' → H' N = some (.lst ((List.replicate ds.length true).map V.bl)) → Qd H') :
    ∃ W : Nat → Nat → Hp → Prop, (∃ m, W 0 m (upd H1 N (.lst []))) ∧ ∀ i m H, W i m H →
      ((Itt K r).stop i H ∧ Qd H) ∨ ((Itt K r).go i H ∧ ∃ Nx : Hp → Prop, (∀ H', Nx H' → ∃ m', m' < m ∧ W (i + 1) m' H') ∧ ∀ x H', (Itt K r).yld i H x H' → g x (wipe σ vs) H' fun σ2 H2 => wipe σ2 vs = wipe σ vs ∧ tt σ2 H2 fun b H3 =>
        if b = true then te σ2 H3 fun y H4 => ∃ acc, H4 N = some (.lst acc) ∧ acc.length < sizeLine ∧ Nx (upd H4 N (.lst (acc ++ [y]))) else Nx H3) := by
  have hl := hx.len
  refine it_tup (K := K) (a := r) (xs := xs) (fun i H' => Same H1 H' ∧ H' N = some (.lst ((List.replicate i true).map V.bl))) ⟨same_upd hN, upd_same⟩ (fun i H' _ hh => .inl (.inl (hh.1 _ _ hr))) ?_ ?_
  · rintro i x H' hi ⟨s1, hy⟩
    have hil := (List.getElem?_eq_some_iff.mp hi).1
    obtain ⟨d, hdi, hxd⟩ := (hx.mono (TK.of s1)).get hi
    refine hs x d H' _ _ (List.mem_of_getElem? hdi) hxd s1 fun H2 s2 => ⟨_, s2 _ _ hy, bigLine (by rw [List.length_map, List.length_replicate]; omega), same_mut (s1.trans s2) hN, ?_⟩
    rw [upd_same, rep_succ]
  · rintro H' ⟨s1, hy⟩
    rw [hl] at hy
    exact hd H' s1 hy
def spYes (k : D → Prop) : Sp := fun vs H Q _ => ∃ (v : V) (d : D), vs = [v] ∧ Dv H v d ∧ k d ∧ ∀ H', Same H H' → Q (.bl true) H'
def kName (d : D) : Prop := ∃ z, d = .str z ∧ NmOk z
def kTgt (d : D) : Prop := ∃ o, d = (Part.tgt o).d ∧ ∀ v, o = some v → NmOk v
def kTerm (d : D) : Prop := ∃ t : Str × Int, d = dTm t ∧ NmOk t.1 ∧ t.2 ≠ 0
def kSum (d : D) : Prop := ∃ e, d = dE e ∧ SumF e
def kKeep (d : D) : Prop := ∃ e, d = dE e ∧ SumF e ∧ e.1 = 0
def kNames (d : D) : Prop := ∃ ns, d = dNs ns ∧ NsF ns
def kSome (d : D) : Prop := ∃ ns, d = dNs ns ∧ ns ≠ [] ∧ NsF ns
def kParam (d : D) : Prop := ∃ p : Str × Bool, d = dPa p ∧ NmOk p.1
def kArg (d : D) : Prop := ∃ x, d = dA x ∧ ArF x
def kArgs (d : D) : Prop := ∃ as : List Ar, d = .tup (DL.of (as.map dA)) ∧ ArsF as
def kMade (d : D) : Prop := ∃ f as, d = dCall f as ∧ NmOk f ∧ ArsF as
def spParted : Sp := fun vs H Q _ => ∃ (p : Addr) (xs : List V), vs = [.ref p, .int xs.length] ∧ H p = some (.tup xs) ∧ Q (.bl true) H
def spAll (P : Program) (w : World) (K : PySem.W.Frag) (mg : Str → Option Value) (base : Heap) (L : Nat) : Sp := fun vs H Q _ => ∃ (v : V) (f : Addr) (k : D → Prop) (l : List D), vs = [v, .ref f] ∧ Held P w K mg base L f (spYes k) ∧ Dv H v (tp l) ∧ (∀ d ∈ l, k d) ∧ l.length ≤ 1000 ∧ ∀ H', Same H H' → Q (.bl true) H'
theorem Held.mono {P : Program} {w : World} {K : PySem.W.Frag} {mg : Str → Option Value} {base : Heap} {j k : Nat} {f : Addr} {sp : Sp} (h : Held P w K mg base j f sp) (hj : j ≤ k) : Held P w K mg base k f sp := by
  obtain ⟨fd, ps, F, kp, b⟩ := h.ex
  exact ⟨fd, ps, F.mono hj, kp, b⟩
theorem cut_tail {ns : List Str} : cutV (ns.map V.str) (some 1) none = (ns.drop 1).map V.str := by
  cases ns with
  | nil => rfl
  | cons x r => rw [List.map_cons, cut_one]; rfl
theorem lt_next {l : List (Str × Int)} (h : l.Pairwise fun s t => Lt s.1 t.1) {i : Nat} {x y : Str} (hx : (l.map (·.1))[i]? = some x) (hy : ((l.map (·.1)).drop 1)[i]? = some y) : Lt x y := by
  have h2 : (l.map (·.1)).Pairwise Lt := List.pairwise_map.mpr h
  rw [List.getElem?_drop] at hy
  obtain ⟨hi, ex⟩ := List.getElem?_eq_some_iff.mp hx
  obtain ⟨hj, ey⟩ := List.getElem?_eq_some_iff.mp hy
  rw [← ex, ← ey]
  exact List.pairwise_iff_getElem.mp h2 i (1 + i) hi hj (by omega)
section
variable {P : Program} {w : World} {K : PySem.W.Frag} {mg : Str → Option Value} {base : Heap} {a : Ads}
theorem one_point {k : Nat} {f : Addr} {sp : Sp} (h : Held P w K mg base k f sp) : ∃ S : Addr → Option Sp, S f = some sp ∧ ∀ f' sp', S f' = some sp' → Held P w K mg base k f' sp' := ⟨fun f' => if f' = f then some sp else none, if_pos rfl, fun f' sp' e => by
  dsimp only at e
  by_cases h' : f' = f
  · subst h'
    rw [if_pos rfl] at e
    cases e
    exact h
  · rw [if_neg h'] at e
    cases e⟩
theorem sc_is_parted : FnScope ["value", "parts"] ["value", "parts"] (defScope s_is_parted) := ⟨rfl, rfl, rfl, by decide +kernel, rfl, by decide +kernel, by decide +kernel⟩
theorem ok_is_parted (T : Txt K mg a) : FnOk P w K mg base CX0 1 a.f_is_parted a.f_is_parted_d ["value", "parts"] spParted := by
  refine T.F_is_parted.ok sc_is_parted (fun vs H Q E h => ?_) (fun cdv A outer s H vs Q E hr h => ?_)
  · obtain ⟨p, xs, rfl, _⟩ := h
    rfl
  obtain ⟨p, xs, rfl, hp, q⟩ := h
  refine ⟨_, (pss_one (ps_ret (pe_and (pe_callB call_isi (by rfl) T.isinstance (by decide +kernel) (pa_cons (pv 0) (pa_cons (pe_bltn (v := .ty "tuple") (by rfl) T.tuple (by decide +kernel) rfl) pa_nil))) (pe_one (pe_cmpR op_eq (pe_callB call_len_seq (by rfl) T.len PySem.boot_len (pa_cons (pv 0) pa_nil)) (pv 1) (nomark _)))))), ?_⟩
  refine ⟨_, rfl, _, _, _, _, true, rfl, .ty "tuple", ty_tup hp, kit_ty kit_tt, true, rfl, iteT ⟨_, rfl, _, _, rfl, .inr (.inl (.inl hp)), _, rfl, rfl, ?_⟩⟩
  rw [decide_eq_true rfl]
  exact q
theorem ok_is_nameY (T : Txt K mg a) : FnOk P w K mg base CX0 2 a.f_is_name a.f_is_name_d ["value"] (spYes kName) := (ok_is_name T).imp fun vs H Q E h => by
  obtain ⟨v, d, rfl, hv, ⟨z, rfl, hz⟩, q⟩ := h
  have hv : v = .str z := hv
  subst hv
  exact ⟨z, rfl, Nat.le_trans hz.2 (by decide), fun H' s => by rw [hz.1]; exact q H' s⟩
theorem sc_are_all : FnScope ["value", "is_one", "one"] ["value", "is_one"] (defScope s_are_all) := ⟨rfl, rfl, rfl, by decide +kernel, rfl, by decide +kernel, by decide +kernel⟩
theorem ok_are_all (T : Txt K mg a) (L : Nat) : FnOk P w K mg base CX0 (L + 1) a.f_are_all a.f_are_all_d ["value", "is_one"] (spAll P w K mg base L) := by
  refine T.F_are_all.ok sc_are_all (fun vs H Q E h => ?_) (fun cdv A outer s H vs Q E hr h => ?_)
  · obtain ⟨v, f, k, l, rfl, _⟩ := h
    rfl
  obtain ⟨v, f, k, l, rfl, hf, hv, hk, hl, q⟩ := h
  obtain ⟨SO, hSf, hSO⟩ := one_point hf
  refine ⟨_, (pss_one (ps_ret (pe_and (pe_callB call_isi (by rfl) T.isinstance (by decide +kernel) (pa_cons (pv 0) (pa_cons (pe_bltn (v := .ty "tuple") (by rfl) T.tuple (by decide +kernel) rfl) pa_nil))) (pe_one (pe_callB (cr_all rfl) (by rfl) T.all (by decide +kernel) (pa_cons (pe_lc (own := [("one", 2)]) (g := gName 2) (tt := tYes) (by rfl) sc_are_all.nd (pi_tup (pv 0)) (blkOk_by (own := [("one", 2)]) (N := ["value", "is_one", "one"]) (sc := defScope s_are_all) (by decide +kernel)) (fun _ _ _ _ _ => pg_name (i := 2) sc_are_all.nd rfl (Or.inl rfl)) (fun _ _ _ _ _ => pts_nil) (fun _ _ _ _ _ => (pe_callA (i := 1) (S := SO) hSO hr rfl (by first | exact Or.inl rfl | exact Or.inr (Or.inl rfl) | exact Or.inr (Or.inr rfl)) (pa_cons (pv 2) pa_nil)))) pa_nil)))))), ?_⟩
  obtain ⟨r, xs, rfl, hr0, hxs⟩ := hv
  refine ⟨_, rfl, _, _, _, _, true, rfl, .ty "tuple", ty_tup hr0, kit_ty kit_tt, true, rfl, iteT ⟨_, rfl, r, rfl, ⟨_, .inl (.inl hr0)⟩, fun N nN => lc_yes nN hr0 hxs (by omega) (fun x d H' Q M hd hxd s1 hy => ?_) (fun H' s1 hN => ?_)⟩⟩
  · exact ⟨rfl, f, _, rfl, hSf, _, rfl, x, d, rfl, hxd, hk d hd, hy⟩
  · refine ⟨N, _, rfl, SqL.of hN, ?_⟩
    rw [all_true]
    exact q H' s1
theorem sc_are_names : FnScope ["value"] ["value"] (defScope s_are_names) := ⟨rfl, rfl, rfl, by decide +kernel, rfl, by decide +kernel, by decide +kernel⟩
theorem ok_are_names (T : Txt K mg a) : FnOk P w K mg base CX0 4 a.f_are_names a.f_are_names_d ["value"] (spYes kNames) := by
  refine T.F_are_names.ok sc_are_names (fun vs H Q E h => ?_) (fun cdv A outer s H vs Q E hr h => ?_)
  · obtain ⟨v, d, rfl, _⟩ := h
    rfl
  obtain ⟨v, d, rfl, hv, ⟨ns, rfl, hns⟩, q⟩ := h
  refine ⟨_, (pss_one (ps_ret (pe_call (ok_are_all T 2) (hr.mono (by decide)) (by rfl) T.g_are_all T.F_are_all.kp T.b_are_all .nil pass0 (pa_cons (pv 0) (pa_cons (pe_gr rfl T.g_is_name) pa_nil))))), ?_⟩
  refine ⟨_, rfl, v, a.f_is_name, kName, _, rfl, ⟨_, _, ok_is_nameY T, T.F_is_name.kp, T.b_is_name⟩, hv, fun d hd => ?_, by rw [List.length_map]; exact hns.len, q⟩
  obtain ⟨z, hz, rfl⟩ := List.mem_map.mp hd
  exact ⟨z, rfl, hns.nm z hz⟩
theorem sc_are_some_names : FnScope ["value"] ["value"] (defScope s_are_some_names) := ⟨rfl, rfl, rfl, by decide +kernel, rfl, by decide +kernel, by decide +kernel⟩
theorem ok_are_some_names (T : Txt K mg a) : FnOk P w K mg base CX0 5 a.f_are_some_names a.f_are_some_names_d ["value"] (spYes kSome) := by
  refine T.F_are_some_names.ok sc_are_some_names (fun vs H Q E h => ?_) (fun cdv A outer s H vs Q E hr h => ?_)
  · obtain ⟨v, d, rfl, _⟩ := h
    rfl
  obtain ⟨v, d, rfl, hv, ⟨ns, rfl, hne, hns⟩, q⟩ := h
  refine ⟨_, (pss_one (ps_ret (pe_and (pe_call (ok_are_names T) (hr.mono (by decide)) (by rfl) T.g_are_names T.F_are_names.kp T.b_are_names .nil pass0 (pa_cons (pv 0) pa_nil)) (pe_one (pe_cmpR op_gt (pe_callB call_len_seq (by rfl) T.len PySem.boot_len (pa_cons (pv 0) pa_nil)) pe_int (nomark _)))))), ?_⟩
  refine ⟨_, rfl, v, dNs ns, rfl, hv, ⟨ns, rfl, hns⟩, fun H1 s1 => ⟨true, rfl, iteT ?_⟩⟩
  obtain ⟨p, rfl, hp⟩ := hv.strs
  refine ⟨_, rfl, _, _, rfl, .inr (.inl (.inl (s1 _ _ hp))), _, _, rfl, rfl, ?_⟩
  have : 0 < ns.length := List.length_pos_iff.mpr hne
  show Q (.bl (decide ((0 : Int) < ((ns.map V.str).length : Int)))) H1
  rw [decide_eq_true (by rw [List.length_map]; omega)]
  exact q H1 s1
theorem sc_is_term : FnScope ["value"] ["value"] (defScope s_is_term) := ⟨rfl, rfl, rfl, by decide +kernel, rfl, by decide +kernel, by decide +kernel⟩
theorem ok_is_term (T : Txt K mg a) : FnOk P w K mg base CX0 3 a.f_is_term a.f_is_term_d ["value"] (spYes kTerm) := by
  refine T.F_is_term.ok sc_is_term (fun vs H Q E h => ?_) (fun cdv A outer s H vs Q E hr h => ?_)
  · obtain ⟨v, d, rfl, _⟩ := h
    rfl
  obtain ⟨v, d, rfl, hv, ⟨t, rfl, hn, h0⟩, q⟩ := h
  refine ⟨_, (pss_one (ps_ret (pe_and (pe_call (ok_is_parted T) (hr.mono (by decide)) (by rfl) T.g_is_parted T.F_is_parted.kp T.b_is_parted .nil pass0 (pa_cons (pv 0) (pa_cons pe_int pa_nil))) (pe_and (pe_call (ok_is_name T) (hr.mono (by decide)) (by rfl) T.g_is_name T.F_is_name.kp T.b_is_name .nil pass0 (pa_cons (pe_ix ix_tup (pv 0) pe_int (fun _ _ => rfl)) pa_nil)) (pe_and (pe_call (ok_is_integer T) (hr.mono (by decide)) (by rfl) T.g_is_integer T.F_is_integer.kp T.b_is_integer .nil pass0 (pa_cons (pe_ix ix_tup (pv 0) pe_int (fun _ _ => rfl)) pa_nil)) (pe_one (pe_cmpR op_ne (pe_ix ix_tup (pv 0) pe_int (fun _ _ => rfl)) pe_int (nomark _)))))))), ?_⟩
  obtain ⟨r, _, rfl, hr0, _, _, rfl, rfl, _, _, rfl, rfl, rfl⟩ := hv
  refine ⟨_, rfl, r, _, rfl, hr0, true, rfl, iteT ⟨_, rfl, r, _, _, _, rfl, rfl, .inl (.inl hr0), atI_nat (j := 0) rfl, t.1, rfl, Nat.le_trans hn.2 (by decide), fun H1 s1 => ?_⟩⟩
  rw [hn.1]
  refine ⟨true, rfl, iteT ⟨_, rfl, r, _, _, _, rfl, rfl, .inl (.inl (s1 _ _ hr0)), atI_nat (j := 1) rfl, t.2, rfl, true, rfl, iteT ⟨_, rfl, r, _, _, _, rfl, rfl, .inl (.inl (s1 _ _ hr0)), atI_nat (j := 1) rfl, rfl, ?_⟩⟩⟩
  rw [decide_eq_false (fun e => h0 (V.int.inj e))]
  exact q H1 s1
theorem sc_is_param : FnScope ["value"] ["value"] (defScope s_is_param) := ⟨rfl, rfl, rfl, by decide +kernel, rfl, by decide +kernel, by decide +kernel⟩
theorem ok_is_param (T : Txt K mg a) : FnOk P w K mg base CX0 3 a.f_is_param a.f_is_param_d ["value"] (spYes kParam) := by
  refine T.F_is_param.ok sc_is_param (fun vs H Q E h => ?_) (fun cdv A outer s H vs Q E hr h => ?_)
  · obtain ⟨v, d, rfl, _⟩ := h
    rfl
  obtain ⟨v, d, rfl, hv, ⟨t, rfl, hn⟩, q⟩ := h
  refine ⟨_, (pss_one (ps_ret (pe_and (pe_call (ok_is_parted T) (hr.mono (by decide)) (by rfl) T.g_is_parted T.F_is_parted.kp T.b_is_parted .nil pass0 (pa_cons (pv 0) (pa_cons pe_int pa_nil))) (pe_and (pe_call (ok_is_name T) (hr.mono (by decide)) (by rfl) T.g_is_name T.F_is_name.kp T.b_is_name .nil pass0 (pa_cons (pe_ix ix_tup (pv 0) pe_int (fun _ _ => rfl)) pa_nil)) (pe_one (pe_callB call_isi (by rfl) T.isinstance (by decide +kernel) (pa_cons (pe_ix ix_tup (pv 0) pe_int (fun _ _ => rfl)) (pa_cons (pe_bltn (v := .ty "bool") (by rfl) T.bool (by decide +kernel) rfl) pa_nil)))))))), ?_⟩
  obtain ⟨r, _, rfl, hr0, _, _, rfl, rfl, _, _, rfl, rfl, rfl⟩ := hv
  refine ⟨_, rfl, r, _, rfl, hr0, true, rfl, iteT ⟨_, rfl, r, _, _, _, rfl, rfl, .inl (.inl hr0), atI_nat (j := 0) rfl, t.1, rfl, Nat.le_trans hn.2 (by decide), fun H1 s1 => ?_⟩⟩
  rw [hn.1]
  exact ⟨true, rfl, iteT ⟨_, rfl, r, _, _, _, rfl, rfl, .inl (.inl (s1 _ _ hr0)), atI_nat (j := 1) rfl, _, _, _, _, true, rfl, .ty "bool", .base (.bl t.2), kit_ty kit_bb, q H1 s1⟩⟩
theorem sc_is_target : FnScope ["value"] ["value"] (defScope s_is_target) := ⟨rfl, rfl, rfl, by decide +kernel, rfl, by decide +kernel, by decide +kernel⟩
theorem ok_is_target (T : Txt K mg a) : FnOk P w K mg base CX0 3 a.f_is_target a.f_is_target_d ["value"] (spYes kTgt) := by
  refine T.F_is_target.ok sc_is_target (fun vs H Q E h => ?_) (fun cdv A outer s H vs Q E hr h => ?_)
  · obtain ⟨v, d, rfl, _⟩ := h
    rfl
  obtain ⟨v, d, rfl, hv, ⟨o, rfl, ho⟩, q⟩ := h
  refine ⟨_, (pss_one (ps_ret (pe_or (pe_cmpR op_isN (pv 0) pe_non (nomark _)) (pe_one (pe_call (ok_is_name T) (hr.mono (by decide)) (by rfl) T.g_is_name T.F_is_name.kp T.b_is_name .nil pass0 (pa_cons (pv 0) pa_nil)))))), ?_⟩
  cases o with
  | none =>
    have hv : v = .non := hv
    subst hv
    exact ⟨_, rfl, rfl, true, rfl, iteT (q H (Same.refl _))⟩
  | some z =>
    have hv : v = .str z := hv
    subst hv
    have hz := ho z rfl
    refine ⟨_, rfl, rfl, false, (by rw [decide_eq_false (fun e => by cases e)]), iteF ⟨_, rfl, z, rfl, Nat.le_trans hz.2 (by decide), fun H1 s1 => ?_⟩⟩
    rw [hz.1]
    exact q H1 s1
theorem sc_is_sum : FnScope ["value", "names", "name", "_", "one", "other"] ["value"] (defScope s_is_sum) := ⟨rfl, rfl, rfl, by decide +kernel, rfl, by decide +kernel, by decide +kernel⟩
theorem ok_is_sum (T : Txt K mg a) : FnOk P w K mg base CX0 5 a.f_is_sum a.f_is_sum_d ["value"] (spYes kSum) := by
  refine T.F_is_sum.ok sc_is_sum (fun vs H Q E h => ?_) (fun cdv A outer s H vs Q E hr h => ?_)
  · obtain ⟨v, d, rfl, _⟩ := h
    rfl
  obtain ⟨v, d, rfl, hv, ⟨e, rfl, hF⟩, q⟩ := h
  refine ⟨_, (pss_cons (ps_if (PW.pt (pw_or (pt_not (pt_val (pe_call (ok_is_parted T) (hr.mono (by decide)) (by rfl) T.g_is_parted T.F_is_parted.kp T.b_is_parted .nil pass0 (pa_cons (pv 0) (pa_cons pe_int pa_nil))))) (pw_or (pt_not (pt_val (pe_call (ok_is_integer T) (hr.mono (by decide)) (by rfl) T.g_is_integer T.F_is_integer.kp T.b_is_integer .nil pass0 (pa_cons (pe_ix ix_tup (pv 0) pe_int (fun _ _ => rfl)) pa_nil)))) (pw_or1 (pt_not (pt_val (pe_call (ok_are_all T 3) (hr.mono (by decide)) (by rfl) T.g_are_all T.F_are_all.kp T.b_are_all .nil pass0 (pa_cons (pe_ix ix_tup (pv 0) pe_int (fun _ _ => rfl)) (pa_cons (pe_gr rfl T.g_is_term) pa_nil)))))))))
      (pss_one (ps_ret pe_bl))
      pss_nil)
    (pss_cons (ps_setLc (i := 1) (own := [("name", 2), ("_", 3)]) (g := gTup K 2 (gCons (gName 2) (gCons (gName 3) gNil))) (tt := tYes) (by rfl) sc_is_sum.nd rfl rfl (sw_true rfl rfl rfl (by decide +kernel)) (pi_tup (pe_ix ix_tup (pv 0) pe_int (fun _ _ => rfl))) (blkOk_by (own := [("name", 2), ("_", 3)]) (N := ["value", "names", "name", "_", "one", "other"]) (sc := defScope s_is_sum) (by decide +kernel)) (fun _ _ _ _ _ => pg_tup (by rfl) (pgs_cons (pg_name (i := 2) sc_is_sum.nd rfl (Or.inl rfl)) (pgs_cons (pg_name (i := 3) sc_is_sum.nd rfl (Or.inl rfl)) pgs_nil))) (fun _ _ _ _ _ => pts_nil) (fun _ _ _ _ _ => (pv 2)))
    (pss_one (ps_ret (pe_callB (cr_all rfl) (by rfl) T.all (by decide +kernel) (pa_cons (pe_lc (own := [("one", 4), ("other", 5)]) (g := gTup K 2 (gCons (gName 4) (gCons (gName 5) gNil))) (tt := tYes) (by rfl) sc_is_sum.nd (RZ.pi_zipA (by rfl) T.zip (pa_cons (pv 1) (pa_cons (pe_slice sl_list (pv 1) (po_some pe_int) po_none) pa_nil))) (blkOk_by (own := [("one", 4), ("other", 5)]) (N := ["value", "names", "name", "_", "one", "other"]) (sc := defScope s_is_sum) (by decide +kernel)) (fun _ _ _ _ _ => pg_tup (by rfl) (pgs_cons (pg_name (i := 4) sc_is_sum.nd rfl (Or.inl rfl)) (pgs_cons (pg_name (i := 5) sc_is_sum.nd rfl (Or.inl rfl)) pgs_nil))) (fun _ _ _ _ _ => pts_nil) (fun _ _ _ _ _ => (pe_cmpR op_lt_str (pv 4) (pv 5) (nomark _)))) pa_nil)))))), ?_⟩
  obtain ⟨r, _, rfl, hr0, _, _, rfl, rfl, x2, _, rfl, hx2, rfl⟩ := hv
  refine st_seq (st_noH (P := fun H' => Same H H') (ansH_or (fun Q q => ⟨_, rfl, r, _, rfl, hr0, _, rfl, q⟩) (ansH_or (fun Q q => ⟨_, rfl, r, _, _, _, rfl, rfl, .inl (.inl hr0), atI_nat (j := 0) rfl, e.1, rfl, _, rfl, q⟩) (fun Q q => ⟨_, rfl, r, _, _, _, rfl, rfl, .inl (.inl hr0), atI_nat (j := 1) rfl, x2, a.f_is_term, kTerm, _, rfl, ⟨_, _, ok_is_term T, T.F_is_term.kp, T.b_is_term⟩, hx2, (fun d hd => by
    obtain ⟨t, ht, rfl⟩ := List.mem_map.mp hd
    have := hF.nm t ht
    exact ⟨t, rfl, this.1, this.2.1⟩), by rw [List.length_map]; exact Nat.le_trans hF.len (by decide), fun H1 s1 => ⟨_, rfl, q H1 s1⟩⟩))) fun H1 s1 => ?_)
  dsimp only [tNext]
  have hx2' := hx2.mono (TK.of s1)
  obtain ⟨pt, tx, rfl, hpt, htx⟩ := hx2'
  refine st_seq ⟨_, rfl, r, _, _, _, rfl, rfl, .inl (.inl (s1 _ _ hr0)), atI_nat (j := 1) rfl, pt, rfl, ⟨_, .inl (.inl hpt)⟩, fun M nM => lc_tupD (fun _ => true) fstD nM hpt htx (by rw [List.length_map]; exact Nat.le_trans hF.len (by decide)) (fun x d H' Q M' hd hxd s1 hy _ => ?_) (fun H2 zs s2 hM hz => ?_)⟩
  · obtain ⟨tm, _, rfl⟩ := List.mem_map.mp hd
    obtain ⟨r3, _, rfl, hr3, a1, _, rfl, ha1, a2, _, rfl, _, rfl⟩ := hxd
    exact ⟨r3, _, rfl, .inl (.inl hr3), rfl, a1, _, rfl, a2, [], rfl, rfl, rfl, _, rfl, hy rfl _ H' (Same.refl _) ha1⟩
  rw [filter_yes, List.map_map] at hz
  have hz2 : zs = (e.2.map (·.1)).map V.str := by
    have : Dvs H2 zs (DL.of ((e.2.map (·.1)).map D.str)) := by
      rw [List.map_map]
      exact hz
    exact this.strs
  subst hz2
  dsimp only [gName]
  refine ⟨_, rfl, _, rfl, 1, rfl, M, _, rfl, SqL.of hM, fun p np => ?_⟩
  have s3 := same_upd (o := .lst (cutV ((e.2.map (·.1)).map V.str) (some 1) none)) np
  have hp : (upd H2 p (.lst (cutV ((e.2.map (·.1)).map V.str) (some 1) none))) p = some (.lst (((e.2.map (·.1)).drop 1).map V.str)) := by rw [upd_same, cut_tail]
  have hM3 := s3 _ _ hM
  generalize upd H2 p (.lst (cutV ((e.2.map (·.1)).map V.str) (some 1) none)) = H3 at s3 hp hM3
  generalize hys : (((e.2.map (·.1)).drop 1).map V.str) = ys at hp
  have hyl : ys.length ≤ e.2.length ∧ e.2.length ≤ ys.length + 1 := by
    rw [← hys, List.length_map, List.length_drop, List.length_map]
    omega
  have hel := hF.len
  refine ⟨M, p, _, ys, rfl, .inl ⟨SqL.of hM3, SqL.of hp, fun N nN => it_any ys.length (fun i H' => Same H3 H' ∧ H' N = some (.lst ((List.replicate i true).map V.bl))) ⟨same_upd nN, upd_same⟩ (fun i H' hi hh => ?_) (fun H' hh => ?_) ?_ ?_⟩⟩
  · have hi2 : i < ((e.2.map (·.1)).map V.str).length := by rw [List.length_map, List.length_map]; omega
    exact ⟨_, ys, _, ys[i], SqL.of (hh.1 _ _ hM3), SqL.of (hh.1 _ _ hp), List.getElem?_eq_getElem hi2, List.getElem?_eq_getElem hi⟩
  · exact ⟨_, ys, SqL.of (hh.1 _ _ hM3), SqL.of (hh.1 _ _ hp), .inr (Nat.le_refl _)⟩
  · rintro i x H4 H5 hi ⟨s4, hN4⟩ ⟨c, x1, x2, rfl, nc, rfl, h1, h2⟩
    have h1 := h1 _ (SqL.of (s4 _ _ hM3))
    have h2 := h2 ys (SqL.of (s4 _ _ hp))
    obtain ⟨z1, hz1, rfl⟩ := get_map h1
    rw [← hys] at h2
    obtain ⟨z2, hz2, rfl⟩ := get_map h2
    have hlt := lt_next hF.srt hz1 hz2
    have sc := same_upd (o := .tup [.str z1, .str z2]) nc
    refine ⟨c, _, rfl, .inl (.inl upd_same), rfl, _, _, rfl, _, [], rfl, rfl, rfl, ?_⟩
    refine ⟨_, rfl, _, rfl, z1, z2, rfl, rfl, _, sc _ _ hN4, bigLine (by rw [List.length_map, List.length_replicate]; omega), same_mut (s4.trans sc) nN, ?_⟩
    rw [upd_same, decide_eq_true (show z1.cps.toList < z2.cps.toList from hlt), rep_succ]
  · rintro H4 ⟨s4, hN4⟩
    refine ⟨N, _, rfl, SqL.of hN4, ?_⟩
    rw [all_true]
    exact q H4 (((s1.trans s2).trans s3).trans s4)
theorem sc_is_keep : FnScope ["value"] ["value"] (defScope s_is_keep) := ⟨rfl, rfl, rfl, by decide +kernel, rfl, by decide +kernel, by decide +kernel⟩
theorem ok_is_keep (T : Txt K mg a) : FnOk P w K mg base CX0 6 a.f_is_keep a.f_is_keep_d ["value"] (spYes kKeep) := by
  refine T.F_is_keep.ok sc_is_keep (fun vs H Q E h => ?_) (fun cdv A outer s H vs Q E hr h => ?_)
  · obtain ⟨v, d, rfl, _⟩ := h
    rfl
  obtain ⟨v, d, rfl, hv, ⟨e, rfl, hF, h0⟩, q⟩ := h
  refine ⟨_, (pss_one (ps_ret (pe_and (pe_call (ok_is_sum T) (hr.mono (by decide)) (by rfl) T.g_is_sum T.F_is_sum.kp T.b_is_sum .nil pass0 (pa_cons (pv 0) pa_nil)) (pe_one (pe_cmpR op_eq (pe_ix ix_tup (pv 0) pe_int (fun _ _ => rfl)) pe_int (nomark _)))))), ?_⟩
  refine ⟨_, rfl, v, dE e, rfl, hv, ⟨e, rfl, hF⟩, fun H1 s1 => ⟨true, rfl, iteT ?_⟩⟩
  obtain ⟨r, _, rfl, hr0, _, _, rfl, rfl, _⟩ := hv
  refine ⟨_, rfl, r, _, _, _, rfl, rfl, .inl (.inl (s1 _ _ hr0)), atI_nat (j := 0) rfl, rfl, ?_⟩
  rw [decide_eq_true (by rw [h0])]
  exact q H1 s1
theorem sc_is_arg : FnScope ["value"] ["value"] (defScope s_is_arg) := ⟨rfl, rfl, rfl, by decide +kernel, rfl, by decide +kernel, by decide +kernel⟩
theorem ok_is_arg (T : Txt K mg a) : FnOk P w K mg base CX0 6 a.f_is_arg a.f_is_arg_d ["value"] (spYes kArg) := by
  refine T.F_is_arg.ok sc_is_arg (fun vs H Q E h => ?_) (fun cdv A outer s H vs Q E hr h => ?_)
  · obtain ⟨v, d, rfl, _⟩ := h
    rfl
  obtain ⟨v, d, rfl, hv, ⟨x, rfl, hF⟩, q⟩ := h
  refine ⟨_, (pss_cons (ps_if (PW.pt (pw_or (pt_not (pt_val (pe_call (ok_is_parted T) (hr.mono (by decide)) (by rfl) T.g_is_parted T.F_is_parted.kp T.b_is_parted .nil pass0 (pa_cons (pv 0) (pa_cons pe_int pa_nil))))) (pw_or1 (pt_not (pt_val (pe_callB call_isi (by rfl) T.isinstance (by decide +kernel) (pa_cons (pe_ix ix_tup (pv 0) pe_int (fun _ _ => rfl)) (pa_cons (pe_bltn (v := .ty "str") (by rfl) T.str (by decide +kernel) rfl) pa_nil))))))))
      (pss_one (ps_ret pe_bl))
      pss_nil)
    (pss_cons (ps_if (pt_cmpR op_eq (pe_ix ix_tup (pv 0) pe_int (fun _ _ => rfl)) pe_str (nomark _))
      (pss_one (ps_ret (pe_call (ok_is_name T) (hr.mono (by decide)) (by rfl) T.g_is_name T.F_is_name.kp T.b_is_name .nil pass0 (pa_cons (pe_ix ix_tup (pv 0) pe_int (fun _ _ => rfl)) pa_nil))))
      pss_nil)
    (pss_one (ps_ret (pe_and (pe_cmpR op_eq (pe_ix ix_tup (pv 0) pe_int (fun _ _ => rfl)) pe_str (nomark _)) (pe_one (pe_call (ok_is_sum T) (hr.mono (by decide)) (by rfl) T.g_is_sum T.F_is_sum.kp T.b_is_sum .nil pass0 (pa_cons (pe_ix ix_tup (pv 0) pe_int (fun _ _ => rfl)) pa_nil)))))))), ?_⟩
  obtain ⟨z, u, e1, e2⟩ := pla_eq x
  have hv' := hv
  rw [e1] at hv'
  obtain ⟨r, _, rfl, hr0, _, _, rfl, rfl, x2, _, rfl, hx2, rfl⟩ := hv'
  refine st_seq (st_no (ans_or (fun Q q => ⟨_, rfl, r, _, rfl, hr0, _, rfl, q⟩) (fun Q q => ⟨_, rfl, r, _, _, _, rfl, rfl, .inl (.inl hr0), atI_nat (j := 0) rfl, _, _, _, _, true, rfl, .ty "str", .base (.str z), kit_ty kit_ss, _, rfl, q⟩)) ?_)
  dsimp only [tNext]
  cases x with
  | pla v =>
    cases e1
    have hx2 : x2 = .str v := hx2
    subst hx2
    have hF : NmOk v := hF
    refine st_seq (st_yes (fun Q q => ⟨_, rfl, r, _, _, _, rfl, rfl, .inl (.inl hr0), atI_nat (j := 0) rfl, rfl, _, rfl, (by rw [decide_eq_true rfl]; exact q)⟩) ?_)
    refine ⟨_, rfl, r, _, _, _, rfl, rfl, .inl (.inl hr0), atI_nat (j := 1) rfl, v, rfl, Nat.le_trans hF.2 (by decide), fun H1 s1 => ?_⟩
    rw [hF.1]
    exact q H1 s1
  | val e =>
    cases e1
    refine st_seq (st_no (fun Q q => ⟨_, rfl, r, _, _, _, rfl, rfl, .inl (.inl hr0), atI_nat (j := 0) rfl, rfl, _, rfl, (by rw [show decide (V.str "value" = V.str "place") = false from no_place]; exact q)⟩) ?_)
    dsimp only [tNext]
    refine ⟨_, rfl, r, _, _, _, rfl, rfl, .inl (.inl hr0), atI_nat (j := 0) rfl, rfl, true, (by rw [decide_eq_true rfl]), iteT ⟨_, rfl, r, _, _, _, rfl, rfl, .inl (.inl hr0), atI_nat (j := 1) rfl, x2, _, rfl, hx2, ⟨e, rfl, hF⟩, q⟩⟩
theorem sc_are_args : FnScope ["value"] ["value"] (defScope s_are_args) := ⟨rfl, rfl, rfl, by decide +kernel, rfl, by decide +kernel, by decide +kernel⟩
theorem ok_are_args (T : Txt K mg a) : FnOk P w K mg base CX0 8 a.f_are_args a.f_are_args_d ["value"] (spYes kArgs) := by
  refine T.F_are_args.ok sc_are_args (fun vs H Q E h => ?_) (fun cdv A outer s H vs Q E hr h => ?_)
  · obtain ⟨v, d, rfl, _⟩ := h
    rfl
  obtain ⟨v, d, rfl, hv, ⟨as, rfl, hF⟩, q⟩ := h
  refine ⟨_, (pss_one (ps_ret (pe_call (ok_are_all T 6) (hr.mono (by decide)) (by rfl) T.g_are_all T.F_are_all.kp T.b_are_all .nil pass0 (pa_cons (pv 0) (pa_cons (pe_gr rfl T.g_is_arg) pa_nil))))), ?_⟩
  refine ⟨_, rfl, v, a.f_is_arg, kArg, _, rfl, ⟨_, _, ok_is_arg T, T.F_is_arg.kp, T.b_is_arg⟩, hv, fun d hd => ?_, by rw [List.length_map]; exact Nat.le_trans hF.len (by decide), q⟩
  obtain ⟨x, hx, rfl⟩ := List.mem_map.mp hd
  exact ⟨x, rfl, hF.ok x hx⟩
theorem sc_is_made : FnScope ["value"] ["value"] (defScope s_is_made) := ⟨rfl, rfl, rfl, by decide +kernel, rfl, by decide +kernel, by decide +kernel⟩
theorem ok_is_made (T : Txt K mg a) : FnOk P w K mg base CX0 9 a.f_is_made a.f_is_made_d ["value"] (spYes kMade) := by
  refine T.F_is_made.ok sc_is_made (fun vs H Q E h => ?_) (fun cdv A outer s H vs Q E hr h => ?_)
  · obtain ⟨v, d, rfl, _⟩ := h
    rfl
  obtain ⟨v, d, rfl, hv, ⟨f, as, rfl, hn, hF⟩, q⟩ := h
  refine ⟨_, (pss_one (ps_ret (pe_and (pe_call (ok_is_parted T) (hr.mono (by decide)) (by rfl) T.g_is_parted T.F_is_parted.kp T.b_is_parted .nil pass0 (pa_cons (pv 0) (pa_cons pe_int pa_nil))) (pe_and (pe_call (ok_is_name T) (hr.mono (by decide)) (by rfl) T.g_is_name T.F_is_name.kp T.b_is_name .nil pass0 (pa_cons (pe_ix ix_tup (pv 0) pe_int (fun _ _ => rfl)) pa_nil)) (pe_one (pe_call (ok_are_args T) (hr.mono (by decide)) (by rfl) T.g_are_args T.F_are_args.kp T.b_are_args .nil pass0 (pa_cons (pe_ix ix_tup (pv 0) pe_int (fun _ _ => rfl)) pa_nil))))))), ?_⟩
  obtain ⟨r, _, rfl, hr0, _, _, rfl, rfl, x2, _, rfl, hx2, rfl⟩ := hv
  refine ⟨_, rfl, r, _, rfl, hr0, true, rfl, iteT ⟨_, rfl, r, _, _, _, rfl, rfl, .inl (.inl hr0), atI_nat (j := 0) rfl, f, rfl, Nat.le_trans hn.2 (by decide), fun H1 s1 => ?_⟩⟩
  rw [hn.1]
  exact ⟨true, rfl, iteT ⟨_, rfl, r, _, _, _, rfl, rfl, .inl (.inl (s1 _ _ hr0)), atI_nat (j := 1) rfl, x2, _, rfl, hx2.mono (TK.of s1), ⟨as, rfl, hF⟩, fun H2 s2 => q H2 (s1.trans s2)⟩⟩
end
end K10
namespace K10
open PySem PySem.Spec PyProof.Rows L2 TL
/-! ### blocks have the form -/
def spB : Nat → Sp
  | 0 => fun _ _ _ _ => False
  | n + 1 => fun vs H Q _ => ∃ (v : V) (d : Int) (x : TB), vs = [v, .int d] ∧ Dv H v (dBk x) ∧ x.F ∧ x.ht ≤ n ∧ x.sz ≤ 1000 ∧ d + (x.ht : Int) ≤ 30 ∧ ∀ H', Same H H' → Q (.bl true) H'
def spHn (n : Nat) : Sp := fun vs H Q _ => ∃ (v : V) (d : Int) (h : List Str × TB), vs = [v, .int d] ∧ Dv H v (dHd h) ∧ h.1 ≠ [] ∧ NsF h.1 ∧ h.2.F ∧ h.2.ht + 1 ≤ n ∧ h.2.sz ≤ 1000 ∧ d + 1 + (h.2.ht : Int) ≤ 30 ∧ ∀ H', Same H H' → Q (.bl true) H'
def spPt (n : Nat) : Sp := fun vs H Q _ => ∃ (v : V) (d : Int) (p : Part), vs = [.str p.sort, v, .int d] ∧ Dv H v p.d ∧ p.F ∧ (∀ b ∈ p.blks, b.ht + 1 ≤ n ∧ b.sz ≤ 1000 ∧ d + 1 + (b.ht : Int) ≤ 30) ∧ ∀ H', Same H H' → Q (.bl true) H'
def spSt (n : Nat) : Sp := fun vs H Q _ => ∃ (v : V) (d : Int) (s : TS), vs = [v, .int d] ∧ Dv H v (dS s) ∧ s.F ∧ s.ht ≤ n ∧ s.sz ≤ 1000 ∧ d + (s.ht : Int) ≤ 30 ∧ ∀ H', Same H H' → Q (.bl true) H'
def formL (a : Ads) : List (Str × Addr × Sp) := [("is_name", a.f_is_name, spYes kName), ("is_target", a.f_is_target, spYes kTgt), ("is_sum", a.f_is_sum, spYes kSum), ("are_some_names", a.f_are_some_names, spYes kSome), ("are_names", a.f_are_names, spYes kNames),
  ("are_args", a.f_are_args, spYes kArgs), ("is_made", a.f_is_made, spYes kMade)]
theorem formL_nd (a : Ads) : ((formL a).map (·.1)).Nodup := (by decide +kernel : (["is_name", "is_target", "is_sum", "are_some_names", "are_names", "are_args", "is_made"] : List Str).Nodup)
inductive FWay (K : PySem.W.Frag) (tF : Addr) (a : Ads) (p : Part) : Prop where
  | blk (x : TB) (e : p = .blk x)
  | hds (h : TH) (e : p = .hds h)
  | tab (h1 : decide (V.str p.sort = V.str "block") = false) (h2 : decide (V.str p.sort = V.str "handlers") = false) (x : Str) (f : Addr) (k : D → Prop) (hn : PySem.W.nsIn K tF p.sort = some (some (.ref f))) (hm : (x, f, spYes k) ∈ formL a) (hk : k p.d)
theorem fway_of {K : PySem.W.Frag} {w : World} {mg : Str → Option Value} {a : Ads} {tS tU tF : Addr} (B : Tabs K w mg a tS tU tF) (p : Part) (h : p.F) : FWay K tF a p := by
  rcases part_kinds p with ⟨x, rfl⟩ | ⟨hs, rfl⟩ | ⟨_, h1, h2⟩
  · exact .blk x rfl
  · exact .hds hs rfl
  · cases p with
    | var v => exact .tab h1 h2 _ _ _ B.f1 (.head _) ⟨v, rfl, h⟩
    | knd v => exact .tab h1 h2 _ _ _ B.f2 (.head _) ⟨v, rfl, h⟩
    | fn v => exact .tab h1 h2 _ _ _ B.f3 (.head _) ⟨v, rfl, h⟩
    | tgt o => exact .tab h1 h2 _ _ _ B.f4 (.tail _ (.head _)) ⟨o, rfl, h⟩
    | sum e => exact .tab h1 h2 _ _ _ B.f5 (.tail _ (.tail _ (.head _))) ⟨e, rfl, h⟩
    | vars vs => exact .tab h1 h2 _ _ _ B.f6 (.tail _ (.tail _ (.tail _ (.head _)))) ⟨vs, rfl, h.1, h.2⟩
    | knds ks => exact .tab h1 h2 _ _ _ B.f7 (.tail _ (.tail _ (.tail _ (.head _)))) ⟨ks, rfl, h.1, h.2⟩
    | swal ks => exact .tab h1 h2 _ _ _ B.f8 (.tail _ (.tail _ (.tail _ (.tail _ (.head _))))) ⟨ks, rfl, h⟩
    | args as => exact .tab h1 h2 _ _ _ B.f9 (.tail _ (.tail _ (.tail _ (.tail _ (.tail _ (.head _)))))) ⟨as, rfl, h⟩
    | made f as => exact .tab h1 h2 _ _ _ B.f10 (.tail _ (.tail _ (.tail _ (.tail _ (.tail _ (.tail _ (.head _))))))) ⟨f, as, rfl, h.1, h.2⟩
    | blk x => exact .blk x rfl
    | hds hs => exact .hds hs rfl
section
variable {P : Program} {w : World} {K : PySem.W.Frag} {mg : Str → Option Value} {base : Heap} {a : Ads}
theorem formL_at (T : Txt K mg a) : ∀ p ∈ formL a, FunAt K p.1 p.2.1 := by
  intro p hp
  simp only [formL, List.mem_cons, List.not_mem_nil, or_false] at hp
  rcases hp with rfl | rfl | rfl | rfl | rfl | rfl | rfl
  · exact ⟨_, _, _, T.F_is_name⟩
  · exact ⟨_, _, _, T.F_is_target⟩
  · exact ⟨_, _, _, T.F_is_sum⟩
  · exact ⟨_, _, _, T.F_are_some_names⟩
  · exact ⟨_, _, _, T.F_are_names⟩
  · exact ⟨_, _, _, T.F_are_args⟩
  · exact ⟨_, _, _, T.F_is_made⟩
theorem formL_held (T : Txt K mg a) : ∀ p ∈ formL a, Held P w K mg base 9 p.2.1 p.2.2 := by
  intro p hp
  simp only [formL, List.mem_cons, List.not_mem_nil, or_false] at hp
  rcases hp with rfl | rfl | rfl | rfl | rfl | rfl | rfl
  · exact ⟨_, _, (ok_is_nameY T).mono (by decide), T.F_is_name.kp, T.b_is_name⟩
  · exact ⟨_, _, (ok_is_target T).mono (by decide), T.F_is_target.kp, T.b_is_target⟩
  · exact ⟨_, _, (ok_is_sum T).mono (by decide), T.F_is_sum.kp, T.b_is_sum⟩
  · exact ⟨_, _, (ok_are_some_names T).mono (by decide), T.F_are_some_names.kp, T.b_are_some_names⟩
  · exact ⟨_, _, (ok_are_names T).mono (by decide), T.F_are_names.kp, T.b_are_names⟩
  · exact ⟨_, _, (ok_are_args T).mono (by decide), T.F_are_args.kp, T.b_are_args⟩
  · exact ⟨_, _, (ok_is_made T).mono (by decide), T.F_is_made.kp, T.b_is_made⟩
theorem sc_is_handler : FnScope ["value", "depth"] ["value", "depth"] (defScope s_is_handler) := ⟨rfl, rfl, rfl, by decide +kernel, rfl, by decide +kernel, by decide +kernel⟩
theorem ok_is_handler1 (T : Txt K mg a) (n k : Nat) (hk : 5 ≤ k) (ihb : FnOk P w K mg base CX0 k a.f_is_block a.f_is_block_d ["value", "depth"] (spB n)) : FnOk P w K mg base CX0 (k + 1) a.f_is_handler a.f_is_handler_d ["value", "depth"] (spHn n) := by
  refine T.F_is_handler.ok sc_is_handler (fun vs H Q E h => ?_) (fun cdv A outer s H vs Q E hr h => ?_)
  · obtain ⟨v, d, h, rfl, _⟩ := h
    rfl
  obtain ⟨v, d, h, rfl, hv, hne, hns, hF, hht, hsz, hd, q⟩ := h
  refine ⟨_, (pss_one (ps_ret (pe_and (pe_call (ok_is_parted T) (hr.mono (by omega)) (by rfl) T.g_is_parted T.F_is_parted.kp T.b_is_parted .nil pass0 (pa_cons (pv 0) (pa_cons pe_int pa_nil))) (pe_and (pe_call (ok_are_some_names T) (hr.mono (by omega)) (by rfl) T.g_are_some_names T.F_are_some_names.kp T.b_are_some_names .nil pass0 (pa_cons (pe_ix ix_tup (pv 0) pe_int (fun _ _ => rfl)) pa_nil)) (pe_one (pe_call ihb (hr.mono (by omega)) (by rfl) T.g_is_block T.F_is_block.kp T.b_is_block .nil pass0 (pa_cons (pe_ix ix_tup (pv 0) pe_int (fun _ _ => rfl)) (pa_cons (pe_op op_add (pv 1) pe_int) pa_nil)))))))), ?_⟩
  obtain ⟨r, _, rfl, hr0, x1, _, rfl, hx1, x2, _, rfl, hx2, rfl⟩ := hv
  obtain ⟨m, rfl⟩ : ∃ m, n = m + 1 := ⟨n - 1, by omega⟩
  refine ⟨_, rfl, r, _, rfl, hr0, true, rfl, iteT ⟨_, rfl, r, _, _, _, rfl, rfl, .inl (.inl hr0), atI_nat (j := 0) rfl, x1, _, rfl, hx1, ⟨h.1, rfl, hne, hns⟩, fun H1 s1 => ⟨true, rfl, iteT ?_⟩⟩⟩
  exact ⟨_, rfl, r, _, _, _, rfl, rfl, .inl (.inl (s1 _ _ hr0)), atI_nat (j := 1) rfl, _, rfl, _, _, rfl, rfl, x2, d + 1, h.2, rfl, hx2.mono (TK.of s1), hF, by omega, hsz, hd, fun H2 s2 => q H2 (s1.trans s2)⟩
theorem sc_is_part : FnScope ["sort", "part", "depth", "is_form", "one"] ["sort", "part", "depth"] (defScope s_is_part) := ⟨rfl, rfl, rfl, by decide +kernel, rfl, by decide +kernel, by decide +kernel⟩
theorem ok_is_part1 (T : Txt K mg a) {tS tU tF : Addr} (B : Tabs K w mg a tS tU tF) (n kb kh k : Nat) (hb : kb ≤ k) (hh : kh ≤ k) (hk : 9 ≤ k) (ihb : FnOk P w K mg base CX0 kb a.f_is_block a.f_is_block_d ["value", "depth"] (spB n)) (ihh : FnOk P w K mg base CX0 kh a.f_is_handler a.f_is_handler_d ["value", "depth"] (spHn n)) :
    FnOk P w K mg base CX0 (k + 1) a.f_is_part a.f_is_part_d ["sort", "part", "depth"] (spPt n) := by
  refine T.F_is_part.ok sc_is_part (fun vs H Q E h => ?_) (fun cdv A outer s H vs Q E hr h => ?_)
  · obtain ⟨v, d, p, rfl, _⟩ := h
    rfl
  obtain ⟨v, d, p, rfl, hv, hF, hbl, q⟩ := h
  obtain ⟨es, nn, DF⟩ := B.dF
  obtain ⟨SF, eSF⟩ : ∃ SF, SF = lkS (formL a) := ⟨_, rfl⟩
  have hSF : ∀ f sp, SF f = some sp → Held P w K mg base 9 f sp := fun f sp h => by
    rw [eSF] at h
    obtain ⟨x, hx⟩ := lkS_mem h
    exact formL_held T _ hx
  refine ⟨_, (pss_cons (ps_if (pt_cmpR op_eq (pv 0) pe_str (nomark _))
      (pss_one (ps_ret (pe_call ihb (hr.mono (by omega)) (by rfl) T.g_is_block T.F_is_block.kp T.b_is_block .nil pass0 (pa_cons (pv 1) (pa_cons (pe_op op_add (pv 2) pe_int) pa_nil)))))
      pss_nil)
    (pss_cons (ps_if (pt_cmpR op_eq (pv 0) pe_str (nomark _))
      (pss_one (ps_ret (pe_and (pe_callB call_isi (by rfl) T.isinstance (by decide +kernel) (pa_cons (pv 1) (pa_cons (pe_bltn (v := .ty "tuple") (by rfl) T.tuple (by decide +kernel) rfl) pa_nil))) (pe_one (pe_callB (cr_all rfl) (by rfl) T.all (by decide +kernel) (pa_cons (pe_lc (own := [("one", 4)]) (g := gName 4) (tt := tYes) (by rfl) sc_is_part.nd (pi_tup (pv 1)) (blkOk_by (own := [("one", 4)]) (N := ["sort", "part", "depth", "is_form", "one"]) (sc := defScope s_is_part) (by decide +kernel)) (fun _ _ _ _ _ => pg_name (i := 4) sc_is_part.nd rfl (Or.inl rfl)) (fun _ _ _ _ _ => pts_nil) (fun _ _ _ _ _ => (pe_call ihh (hr.mono (by omega)) (by rfl) T.g_is_handler T.F_is_handler.kp T.b_is_handler .nil pass0 (pa_cons (pv 4) (pa_cons (pv 2) pa_nil))))) pa_nil))))))
      pss_nil)
    (pss_cons (ps_set (i := 3) sc_is_part.nd rfl (Or.inl rfl) (pe_ix (show IxR _ (rIxD K w) from ix_kdict) (pe_gr rfl B.gF) (pv 0) (fun _ _ => rfl)))
    (pss_one (ps_ret (pe_callA (i := 3) (S := SF) hSF (hr.mono (by omega)) rfl (Or.inl rfl) (pa_cons (pv 1) pa_nil))))))), ?_⟩
  rcases fway_of B p hF with ⟨x, rfl⟩ | ⟨hs, rfl⟩ | ⟨h1, h2, x, f, kf, hn, hm, hkf⟩
  · obtain ⟨g1, g2, g3⟩ := hbl x List.mem_cons_self
    obtain ⟨m, rfl⟩ : ∃ m, n = m + 1 := ⟨n - 1, by omega⟩
    refine st_seq (st_yes (fun Q q => ⟨_, rfl, rfl, _, rfl, (by rw [show decide (V.str (Part.blk x).sort = V.str "block") = true from decide_eq_true rfl]; exact q)⟩) ?_)
    exact ⟨_, rfl, _, rfl, _, _, rfl, rfl, v, d + 1, x, rfl, hv, hF, by omega, g2, g3, q⟩
  · refine st_seq (st_no (fun Q q => ⟨_, rfl, rfl, _, rfl, (by rw [show decide (V.str (Part.hds hs).sort = V.str "block") = false from no_blk2]; exact q)⟩) ?_)
    dsimp only [tNext]
    refine st_seq (st_yes (fun Q q => ⟨_, rfl, rfl, _, rfl, (by rw [show decide (V.str (Part.hds hs).sort = V.str "handlers") = true from decide_eq_true rfl]; exact q)⟩) ?_)
    obtain ⟨r, xs, rfl, hr0, hxs⟩ := hv
    have hxs : Dvs H xs (dH hs) := hxs
    rw [dH_of] at hxs
    have hF : hs.L.length ≤ 1000 ∧ hs.F := hF
    refine ⟨_, rfl, _, _, _, _, true, rfl, .ty "tuple", ty_tup hr0, kit_ty kit_tt, true, rfl, iteT ⟨_, rfl, r, rfl, ⟨_, .inl (.inl hr0)⟩, fun N nN => lc_yes nN hr0 hxs (by rw [List.length_map]; omega) (fun x d' H' Q M hd hxd s1 hy => ?_) (fun H' s1 hN => ?_)⟩⟩
    · obtain ⟨hh, hhm, rfl⟩ := List.mem_map.mp hd
      obtain ⟨f1, f2, f3⟩ := TH.f_mem hF.2 hhm
      obtain ⟨g1, g2, g3⟩ := hbl hh.2 (List.mem_map_of_mem hhm)
      exact ⟨rfl, _, rfl, _, rfl, x, d, hh, rfl, hxd, f1, f2, f3, g1, g2, g3, hy⟩
    · refine ⟨N, _, rfl, SqL.of hN, ?_⟩
      rw [all_true]
      exact q H' s1
  · refine st_seq (st_no (fun Q q => ⟨_, rfl, rfl, _, rfl, (by rw [h1]; exact q)⟩) ?_)
    dsimp only [tNext]
    refine st_seq (st_no (fun Q q => ⟨_, rfl, rfl, _, rfl, (by rw [h2]; exact q)⟩) ?_)
    dsimp only [tNext]
    refine st_seq ⟨_, rfl, tF, _, .ref f, rfl, rfl, ⟨es, nn, _, DF.at_, DF.lit, hn, rfl⟩, ?_⟩
    dsimp only [gName]
    have hSf : SF f = some (spYes kf) := by
      rw [eSF]
      exact lkS_at (p := (x, f, spYes kf)) (formL_at T) (formL_nd a) hm
    exact ⟨f, _, rfl, hSf, _, rfl, v, _, rfl, hv, hkf, q⟩
theorem sc_is_statement : FnScope ["value", "depth", "sort", "part"] ["value", "depth"] (defScope s_is_statement) := ⟨rfl, rfl, rfl, by decide +kernel, rfl, by decide +kernel, by decide +kernel⟩
theorem ok_is_statement1 (T : Txt K mg a) {tS tU tF : Addr} (B : Tabs K w mg a tS tU tF) (n k : Nat) (ihp : FnOk P w K mg base CX0 k a.f_is_part a.f_is_part_d ["sort", "part", "depth"] (spPt n)) : FnOk P w K mg base CX0 (k + 1) a.f_is_statement a.f_is_statement_d ["value", "depth"] (spSt n) := by
  refine T.F_is_statement.ok sc_is_statement (fun vs H Q E h => ?_) (fun cdv A outer s H vs Q E hr h => ?_)
  · obtain ⟨v, d, st, rfl, _⟩ := h
    rfl
  obtain ⟨v, d, st, rfl, hv, hF, hht, hsz, hd, q⟩ := h
  obtain ⟨es, nn, DS⟩ := B.dS
  refine ⟨_, (pss_cons (ps_if (PW.pt (pw_or (pt_not (pt_val (pe_callB call_isi (by rfl) T.isinstance (by decide +kernel) (pa_cons (pv 0) (pa_cons (pe_bltn (v := .ty "tuple") (by rfl) T.tuple (by decide +kernel) rfl) pa_nil))))) (pw_or (pt_cmpR op_eq (pe_callB call_len_seq (by rfl) T.len PySem.boot_len (pa_cons (pv 0) pa_nil)) pe_int (nomark _)) (pw_or1 (pt_not (pt_val (pe_callB call_isi (by rfl) T.isinstance (by decide +kernel) (pa_cons (pe_ix ix_tup (pv 0) pe_int (fun _ _ => rfl)) (pa_cons (pe_bltn (v := .ty "str") (by rfl) T.str (by decide +kernel) rfl) pa_nil)))))))))
      (pss_one (ps_ret pe_bl))
      pss_nil)
    (pss_cons (ps_if (PW.pt (pw_or (pt_cmpR (op_notIn_kd DS) (pe_ix ix_tup (pv 0) pe_int (fun _ _ => rfl)) (pe_gr rfl B.gS) (by rfl)) (pw_or1 (pt_cmpR op_ne (pe_callB call_len_seq (by rfl) T.len PySem.boot_len (pa_cons (pv 0) pa_nil)) (pe_op op_add (pe_callB call_len_seq (by rfl) T.len PySem.boot_len (pa_cons (pe_ix (show IxR _ (rIxD K w) from ix_kdict) (pe_gr rfl B.gS) (pe_ix ix_tup (pv 0) pe_int (fun _ _ => rfl)) (fun _ _ => rfl)) pa_nil)) pe_int) (nomark _)))))
      (pss_one (ps_ret pe_bl))
      pss_nil)
    (pss_one (ps_ret (pe_callB (cr_all rfl) (by rfl) T.all (by decide +kernel) (pa_cons (pe_lc (own := [("sort", 2), ("part", 3)]) (g := gTup K 2 (gCons (gName 2) (gCons (gName 3) gNil))) (tt := tYes) (by rfl) sc_is_statement.nd (RZ.pi_zipA (by rfl) T.zip (pa_cons (pe_ix (show IxR _ (rIxD K w) from ix_kdict) (pe_gr rfl B.gS) (pe_ix ix_tup (pv 0) pe_int (fun _ _ => rfl)) (fun _ _ => rfl)) (pa_cons (pe_slice sl_tup (pv 0) (po_some pe_int) po_none) pa_nil))) (blkOk_by (own := [("sort", 2), ("part", 3)]) (N := ["value", "depth", "sort", "part"]) (sc := defScope s_is_statement) (by decide +kernel)) (fun _ _ _ _ _ => pg_tup (by rfl) (pgs_cons (pg_name (i := 2) sc_is_statement.nd rfl (Or.inl rfl)) (pgs_cons (pg_name (i := 3) sc_is_statement.nd rfl (Or.inl rfl)) pgs_nil))) (fun _ _ _ _ _ => pts_nil) (fun _ _ _ _ _ => (pe_call ihp hr (by rfl) T.g_is_part T.F_is_part.kp T.b_is_part .nil pass0 (pa_cons (pv 2) (pa_cons (pv 3) (pa_cons (pv 1) pa_nil)))))) pa_nil)))))), ?_⟩
  rw [dS_is] at hv
  obtain ⟨r, _, rfl, hr0, x0, xs, rfl, hx0, hxs⟩ := hv
  have hx0 : x0 = .str st.word := hx0
  subst hx0
  have hl := hxs.len
  rw [List.length_map] at hl
  obtain ⟨t, hn, ht⟩ := B.shape st
  have hk : KDct K w tS st.word (.ref t) := ⟨es, nn, _, DS.at_, DS.lit, hn, rfl⟩
  have hpl := parts_len st
  refine st_seq (st_no (ans_or (fun Q q => ⟨_, rfl, _, _, _, _, true, rfl, .ty "tuple", ty_tup hr0, kit_ty kit_tt, _, rfl, q⟩) (ans_or (fun Q q => ⟨_, rfl, _, _, rfl, .inr (.inl (.inl hr0)), rfl, _, rfl, (by rw [decide_eq_false (fun e => by have := V.int.inj e; rw [List.length_cons] at this; omega)]; exact q)⟩) (fun Q q => ⟨_, rfl, r, _, _, _, rfl, rfl, .inl (.inl hr0), atI_nat (j := 0) rfl, _, _, _, _, true, rfl, .ty "str", .base (.str st.word), kit_ty kit_ss, _, rfl, q⟩))) ?_)
  dsimp only [tNext]
  refine st_seq (st_no (ans_or (fun Q q => ⟨_, rfl, r, _, _, _, rfl, rfl, .inl (.inl hr0), atI_nat (j := 0) rfl, _, _, rfl, rfl, hn, _, rfl, q⟩) (fun Q q => ⟨_, rfl, _, _, rfl, .inr (.inl (.inl hr0)), _, rfl, r, _, _, _, rfl, rfl, .inl (.inl hr0), atI_nat (j := 0) rfl, tS, _, _, rfl, rfl, hk, _, _, rfl, .inr (ht H), _, _, rfl, rfl, rfl, _, rfl, ?_⟩)) ?_)
  · rw [decide_eq_true (by rw [List.length_cons, List.length_map, List.length_map, hl]; rfl)]
    exact q
  dsimp only [tNext]
  refine ⟨_, rfl, r, _, _, _, rfl, rfl, .inl (.inl hr0), atI_nat (j := 0) rfl, tS, _, _, rfl, rfl, hk, _, rfl, 1, rfl, r, _, rfl, .inl (.inl hr0), ?_, fun c nc => ?_⟩
  · rintro ⟨h1, _⟩
    rw [show HT.sIx (V.str st.word :: xs).length 0 (some 1) = min 1 (V.str st.word :: xs).length from HT.sIx_nat _ _ 1, List.length_cons] at h1
    omega
  rw [cut_one]
  have sc := same_upd (o := .tup xs) nc
  have hc : (upd H c (.tup xs)) c = some (.tup xs) := upd_same
  generalize upd H c (.tup xs) = H1 at sc hc
  refine ⟨t, c, _, xs, rfl, .inr ⟨ht H1, .inl (.inl hc), fun N nN => it_any xs.length (fun i H' => Same H1 H' ∧ H' N = some (.lst ((List.replicate i true).map V.bl))) ⟨same_upd nN, upd_same⟩ (fun i H' hi hh => ?_) (fun H' hh => ?_) ?_ ?_⟩⟩
  · have hi2 : i < ((st.parts.map Part.sort).map V.str).length := by rw [List.length_map, List.length_map]; omega
    exact ⟨_, xs, _, xs[i], ht H', .inl (.inl (hh.1 _ _ hc)), List.getElem?_eq_getElem hi2, List.getElem?_eq_getElem hi⟩
  · exact ⟨_, xs, ht H', .inl (.inl (hh.1 _ _ hc)), .inr (Nat.le_refl _)⟩
  · rintro i x H2 H3 hi ⟨s2, hN2⟩ ⟨T', x1, x2, rfl, nT, rfl, h1, h2⟩
    have h1 := h1 _ (ht H2)
    have h2 := h2 xs (.inl (.inl (s2 _ _ hc)))
    obtain ⟨z1, hz1, rfl⟩ := get_map h1
    obtain ⟨p, hp, rfl⟩ := get_map hz1
    obtain ⟨dd, hdd, hx2⟩ := (hxs.mono (TK.of (sc.trans s2))).get h2
    obtain ⟨p', hp', rfl⟩ := get_map hdd
    have : p' = p := Option.some.inj (hp'.symm.trans hp)
    subst this
    have hpm := List.mem_of_getElem? hp
    have s3 := same_upd (o := .tup [.str p'.sort, x2]) nT
    refine ⟨T', _, rfl, .inl (.inl upd_same), rfl, _, _, rfl, x2, [], rfl, rfl, rfl, ?_⟩
    refine ⟨_, rfl, _, rfl, _, rfl, x2, d, p', rfl, hx2.mono (TK.of s3), TS.f_parts hF p' hpm, fun b hb => ?_, fun H4 s4 => ⟨_, (s3.trans s4) _ _ hN2, bigLine (by rw [List.length_map, List.length_replicate]; omega), same_mut (s2.trans (s3.trans s4)) nN, ?_⟩⟩
    · have hbm : b ∈ st.blks := List.mem_flatMap.mpr ⟨p', hpm, hb⟩
      have g1 := blks_htS hht b hbm
      have g2 := blks_htS (Nat.le_refl st.ht) b hbm
      have g3 := sum_mem (List.mem_map_of_mem (f := TB.sz) hbm)
      have g4 := blks_sz (s := st)
      omega
    · rw [upd_same, rep_succ]
  · rintro H2 ⟨s2, hN2⟩
    refine ⟨N, _, rfl, SqL.of hN2, ?_⟩
    rw [all_true]
    exact q H2 (sc.trans s2)
theorem sc_is_block : FnScope ["value", "depth", "one"] ["value", "depth"] (defScope s_is_block) := ⟨rfl, rfl, rfl, by decide +kernel, rfl, by decide +kernel, by decide +kernel⟩
theorem ok_is_block1 (T : Txt K mg a) (n k : Nat) (ihs : FnOk P w K mg base CX0 k a.f_is_statement a.f_is_statement_d ["value", "depth"] (spSt n)) : FnOk P w K mg base CX0 (k + 1) a.f_is_block a.f_is_block_d ["value", "depth"] (spB (n + 1)) := by
  refine T.F_is_block.ok sc_is_block (fun vs H Q E h => ?_) (fun cdv A outer s H vs Q E hr h => ?_)
  · obtain ⟨v, d, x, rfl, _⟩ := h
    rfl
  obtain ⟨v, d, x, rfl, hv, hF, hht, hsz, hd, q⟩ := h
  refine ⟨_, (pss_cons (ps_if (PW.pt (pw_or (pt_cmpR op_gt (pv 1) (pe_gi rfl T.g_MOST_NESTED) (nomark _)) (pw_or1 (pt_not (pt_val (pe_callB call_isi (by rfl) T.isinstance (by decide +kernel) (pa_cons (pv 0) (pa_cons (pe_bltn (v := .ty "tuple") (by rfl) T.tuple (by decide +kernel) rfl) pa_nil))))))))
      (pss_one (ps_ret pe_bl))
      pss_nil)
    (pss_one (ps_ret (pe_callB (cr_all rfl) (by rfl) T.all (by decide +kernel) (pa_cons (pe_lc (own := [("one", 2)]) (g := gName 2) (tt := tYes) (by rfl) sc_is_block.nd (pi_tup (pv 0)) (blkOk_by (own := [("one", 2)]) (N := ["value", "depth", "one"]) (sc := defScope s_is_block) (by decide +kernel)) (fun _ _ _ _ _ => pg_name (i := 2) sc_is_block.nd rfl (Or.inl rfl)) (fun _ _ _ _ _ => pts_nil) (fun _ _ _ _ _ => (pe_call ihs hr (by rfl) T.g_is_statement T.F_is_statement.kp T.b_is_statement .nil pass0 (pa_cons (pv 2) (pa_cons (pv 1) pa_nil))))) pa_nil))))), ?_⟩
  obtain ⟨r, xs, rfl, hr0, hxs⟩ := hv
  have hxs : Dvs H xs (dB x) := hxs
  rw [dB_L] at hxs
  have hll := TB.len_sz x
  refine st_seq (st_no (ans_or (fun Q q => ⟨_, rfl, _, _, rfl, rfl, _, rfl, ?_⟩) (fun Q q => ⟨_, rfl, _, _, _, _, true, rfl, .ty "tuple", ty_tup hr0, kit_ty kit_tt, _, rfl, q⟩)) ?_)
  · rw [decide_eq_false (by omega)]
    exact q
  dsimp only [tNext]
  refine ⟨_, rfl, r, rfl, ⟨_, .inl (.inl hr0)⟩, fun N nN => lc_yes nN hr0 hxs (by rw [List.length_map]; omega) (fun y d' H' Q M hdm hyd s1 hy => ?_) (fun H' s1 hN => ?_)⟩
  · obtain ⟨st, hst, rfl⟩ := List.mem_map.mp hdm
    have g1 := TB.ht_mem2 hst
    have g2 := sum_mem (List.mem_map_of_mem (f := TS.sz) hst)
    rw [TB.sz_sum] at g2
    exact ⟨rfl, _, rfl, _, rfl, y, d, st, rfl, hyd, TB.f_mem hF hst, by omega, by omega, by omega, hy⟩
  · refine ⟨N, _, rfl, SqL.of hN, ?_⟩
    rw [all_true]
    exact q H' s1
theorem ok_is_block (T : Txt K mg a) {tS tU tF : Addr} (B : Tabs K w mg a tS tU tF) : ∀ n : Nat, FnOk P w K mg base CX0 (4 * n + 10) a.f_is_block a.f_is_block_d ["value", "depth"] (spB n)
  | 0 => ⟨fun _ _ _ _ h => h.elim, fun _ _ _ _ _ _ _ _ _ _ _ _ _ h => h.elim⟩
  | n + 1 => ok_is_block1 T n (4 * n + 13) (ok_is_statement1 T B n (4 * n + 12) (ok_is_part1 T B n (4 * n + 10) (4 * n + 11) (4 * n + 11) (by omega) (by omega) (by omega) (ok_is_block T B n) (ok_is_handler1 T n (4 * n + 10) (by omega) (ok_is_block T B n))))
end
end K10
namespace K10
open PySem PySem.Spec PyProof.Rows L2 TL
/-! ### a program -/
def kFn (d : D) : Prop := ∃ f, d = dFn f ∧ FnF f ∧ f.ps.length ≤ 3 ∧ f.bk.ht ≤ 5 ∧ f.bk.sz ≤ 1000
structure TreeOk (t : Tree) : Prop where
  F : TreeF t
  Z : TreeSz t
  N : TreeN t
/-- the functions of a program by name -/
def NamedAt (H : Hp) (nd : Addr) (fs : List FnT) : Prop := ∃ kvs : List (Key × V), H nd = some (.dK kvs) ∧ kvs.map (·.1) = fs.map (fun f => kk f.nm) ∧ Dvs H (kvs.map (·.2)) (DL.of (fs.map dFn))
theorem NamedAt.same {H H' : Hp} {nd : Addr} {fs : List FnT} (s : Same H H') : NamedAt H nd fs → NamedAt H' nd fs
  | ⟨kvs, h1, h2, h3⟩ => ⟨kvs, s _ _ h1, h2, h3.mono (TK.of s)⟩
theorem named_get {H : Hp} : ∀ {fs : List FnT} {kvs : List (Key × V)}, kvs.map (·.1) = fs.map (fun f => kk f.nm) → Dvs H (kvs.map (·.2)) (DL.of (fs.map dFn)) → (fs.map (·.nm)).Nodup → ∀ f ∈ fs, ∃ v, valV kvs (kk f.nm) = some v ∧ Dv H v (dFn f)
  | [], _, _, _, _, f, hf => by cases hf
  | g :: fs, [], h1, _, _, _, _ => by cases h1
  | g :: fs, p :: kvs, h1, h2, nd, f, hf => by
    obtain ⟨x, r, e, hx, hr⟩ := h2
    have e1 : p.2 = x := (List.cons.inj e).1
    have e2 : kvs.map (·.2) = r := (List.cons.inj e).2
    have e3 : p.1 = kk g.nm := (List.cons.inj h1).1
    rw [List.map_cons, List.nodup_cons] at nd
    rcases List.mem_cons.mp hf with rfl | hf
    · exact ⟨x, by rw [valV_pos e3, e1], hx⟩
    · have hne : ¬ p.1 = kk f.nm := fun z => nd.1 (by
        have : g.nm = f.nm := Sum.inr.inj (e3.symm.trans z)
        rw [this]
        exact List.mem_map_of_mem hf)
      rw [valV_neg hne]
      exact named_get (List.cons.inj h1).2 (by rw [e2]; exact hr) nd.2 f hf
theorem named_no : ∀ {fs : List FnT} {kvs : List (Key × V)} {z : Str}, kvs.map (·.1) = fs.map (fun f => kk f.nm) → z ∉ fs.map (·.nm) → valV kvs (kk z) = none
  | [], [], _, _, _ => rfl
  | [], _ :: _, _, h1, _ => by cases h1
  | _ :: _, [], _, h1, _ => by cases h1
  | g :: fs, p :: kvs, z, h1, hz => by
    have e3 : p.1 = kk g.nm := (List.cons.inj h1).1
    have hne : ¬ p.1 = kk z := fun e => hz (by
      have : g.nm = z := Sum.inr.inj (e3.symm.trans e)
      rw [← this]
      exact List.mem_cons_self)
    rw [valV_neg hne]
    exact named_no (List.cons.inj h1).2 fun hm => hz (List.mem_cons_of_mem _ hm)
/-- at o: the program of the tree t, which is laid at pt -/
def PrgAt (C : Addr) (H : Hp) (o : Addr) (t : Tree) : Prop := ∃ (dx pg pt nd : Addr) (r : List V), H o = some (.ins C dx [("globals", .ref pg), ("_tree", .ref pt), ("_named", .ref nd)]) ∧ H pt = some (.tup (.ref pg :: r)) ∧ Dv H (.ref pt) (dT t) ∧ NamedAt H nd t.fs
theorem PrgAt.same {C : Addr} {H H' : Hp} {o : Addr} {t : Tree} (s : Same H H') : PrgAt C H o t → PrgAt C H' o t
  | ⟨dx, pg, pt, nd, r, h1, h2, h3, h4⟩ => ⟨dx, pg, pt, nd, r, s _ _ h1, s _ _ h2, h3.mono (TK.of s), h4.same s⟩
def spIsTree : Sp := fun vs H Q _ => ∃ (v : V) (t : Tree), vs = [v] ∧ Dv H v (dT t) ∧ TreeF t ∧ TreeSz t ∧ ∀ H', Same H H' → Q (.bl true) H'
def spNamed : Sp := fun vs H Q _ => ∃ (v : V) (t : Tree), vs = [v] ∧ Dv H v (dT t) ∧ t.fs.length ≤ 1000 ∧ (t.fs.map (·.nm)).Nodup ∧ ∀ (H' : Hp) (nd : Addr), Same H H' → H nd = none → NamedAt H' nd t.fs → Q (.ref nd) H'
def spPrg (C : Addr) : Sp := fun vs H Q _ => ∃ (o dx : Addr) (v : V) (t : Tree), vs = [.ref o, v] ∧ H o = some (.ins C dx []) ∧ Dv H v (dT t) ∧ TreeOk t ∧ ∀ H', PrgAt C H' o t → (∀ b x, H b = some x → b ≠ o → H' b = some x) → Q .non H'
section
variable {P : Program} {w : World} {K : PySem.W.Frag} {mg : Str → Option Value} {base : Heap} {a : Ads}
theorem sc_is_function : FnScope ["value"] ["value"] (defScope s_is_function) := ⟨rfl, rfl, rfl, by decide +kernel, rfl, by decide +kernel, by decide +kernel⟩
theorem ok_is_function (T : Txt K mg a) {tS tU tF : Addr} (B : Tabs K w mg a tS tU tF) : FnOk P w K mg base CX0 35 a.f_is_function a.f_is_function_d ["value"] (spYes kFn) := by
  refine T.F_is_function.ok sc_is_function (fun vs H Q E h => ?_) (fun cdv A outer s H vs Q E hr h => ?_)
  · obtain ⟨v, d, rfl, _⟩ := h
    rfl
  obtain ⟨v, d, rfl, hv, ⟨f, rfl, hF, hps, hht, hsz⟩, q⟩ := h
  refine ⟨_, (pss_one (ps_ret (pe_and (pe_call (ok_is_parted T) (hr.mono (by decide)) (by rfl) T.g_is_parted T.F_is_parted.kp T.b_is_parted .nil pass0 (pa_cons (pv 0) (pa_cons pe_int pa_nil))) (pe_and (pe_call (ok_is_name T) (hr.mono (by decide)) (by rfl) T.g_is_name T.F_is_name.kp T.b_is_name .nil pass0 (pa_cons (pe_ix ix_tup (pv 0) pe_int (fun _ _ => rfl)) pa_nil)) (pe_and (pe_call (ok_are_all T 3) (hr.mono (by decide)) (by rfl) T.g_are_all T.F_are_all.kp T.b_are_all .nil pass0 (pa_cons (pe_ix ix_tup (pv 0) pe_int (fun _ _ => rfl)) (pa_cons (pe_gr rfl T.g_is_param) pa_nil))) (pe_one (pe_call (ok_is_block T B 6) (hr.mono (by decide)) (by rfl) T.g_is_block T.F_is_block.kp T.b_is_block .nil pass0 (pa_cons (pe_ix ix_tup (pv 0) pe_int (fun _ _ => rfl)) (pa_cons pe_int pa_nil))))))))), ?_⟩
  obtain ⟨r, _, rfl, hr0, _, _, rfl, rfl, x2, _, rfl, hx2, x3, _, rfl, hx3, rfl⟩ := hv
  have hn := hF.nm
  refine ⟨_, rfl, r, _, rfl, hr0, true, rfl, iteT ⟨_, rfl, r, _, _, _, rfl, rfl, .inl (.inl hr0), atI_nat (j := 0) rfl, f.nm, rfl, Nat.le_trans hn.2 (by decide), fun H1 s1 => ?_⟩⟩
  rw [hn.1]
  refine ⟨true, rfl, iteT ⟨_, rfl, r, _, _, _, rfl, rfl, .inl (.inl (s1 _ _ hr0)), atI_nat (j := 1) rfl, x2, a.f_is_param, kParam, _, rfl, ⟨_, _, ok_is_param T, T.F_is_param.kp, T.b_is_param⟩, hx2.mono (TK.of s1), (fun d hd => by
    obtain ⟨p, hp, rfl⟩ := List.mem_map.mp hd
    exact ⟨p, rfl, hF.ps p hp⟩), by rw [List.length_map]; omega, fun H2 s2 => ⟨true, rfl, iteT ?_⟩⟩⟩
  exact ⟨_, rfl, r, _, _, _, rfl, rfl, .inl (.inl ((s1.trans s2) _ _ hr0)), atI_nat (j := 2) rfl, x3, 1, f.bk, rfl, hx3.mono (TK.of (s1.trans s2)), hF.bk, hht, hsz, by omega, fun H3 s3 => q H3 ((s1.trans s2).trans s3)⟩
theorem sc_is_tree : FnScope ["value", "variables", "kinds", "keeps", "functions"] ["value"] (defScope s_is_tree) := ⟨rfl, rfl, rfl, by decide +kernel, rfl, by decide +kernel, by decide +kernel⟩
theorem ok_is_tree (T : Txt K mg a) {tS tU tF : Addr} (B : Tabs K w mg a tS tU tF) : FnOk P w K mg base CX0 37 a.f_is_tree a.f_is_tree_d ["value"] spIsTree := by
  refine T.F_is_tree.ok sc_is_tree (fun vs H Q E h => ?_) (fun cdv A outer s H vs Q E hr h => ?_)
  · obtain ⟨v, t, rfl, _⟩ := h
    rfl
  obtain ⟨v, t, rfl, hv, hF, hZ, q⟩ := h
  refine ⟨_, (pss_cons (ps_if (pt_not (pt_val (pe_call (ok_is_parted T) (hr.mono (by decide)) (by rfl) T.g_is_parted T.F_is_parted.kp T.b_is_parted .nil pass0 (pa_cons (pv 0) (pa_cons pe_int pa_nil)))))
      (pss_one (ps_ret pe_bl))
      pss_nil)
    (pss_cons (ps_asg (pv 0) (pg_tup (by rfl) (pgs_cons (pg_name (i := 1) sc_is_tree.nd rfl (Or.inl rfl)) (pgs_cons (pg_name (i := 2) sc_is_tree.nd rfl (Or.inl rfl)) (pgs_cons (pg_name (i := 3) sc_is_tree.nd rfl (Or.inl rfl)) (pgs_cons (pg_name (i := 4) sc_is_tree.nd rfl (Or.inl rfl)) pgs_nil))))))
    (pss_one (ps_ret (pe_and (pe_call (ok_are_names T) (hr.mono (by decide)) (by rfl) T.g_are_names T.F_are_names.kp T.b_are_names .nil pass0 (pa_cons (pv 1) pa_nil)) (pe_and (pe_call (ok_are_names T) (hr.mono (by decide)) (by rfl) T.g_are_names T.F_are_names.kp T.b_are_names .nil pass0 (pa_cons (pv 2) pa_nil)) (pe_and (pe_call (ok_are_all T 35) (hr.mono (by decide)) (by rfl) T.g_are_all T.F_are_all.kp T.b_are_all .nil pass0 (pa_cons (pv 3) (pa_cons (pe_gr rfl T.g_is_keep) pa_nil))) (pe_one (pe_call (ok_are_all T 35) (hr.mono (by decide)) (by rfl) T.g_are_all T.F_are_all.kp T.b_are_all .nil pass0 (pa_cons (pv 4) (pa_cons (pe_gr rfl T.g_is_function) pa_nil))))))))))), ?_⟩
  have hfl := hZ.f
  have hkl := hZ.kp
  obtain ⟨r, _, rfl, hr0, y1, _, rfl, hy1, y2, _, rfl, hy2, y3, _, rfl, hy3, y4, _, rfl, hy4, rfl⟩ := hv
  refine st_seq (st_no (fun Q q => ⟨_, rfl, r, _, rfl, hr0, _, rfl, q⟩) ?_)
  dsimp only [tNext]
  refine st_seq ⟨_, rfl, r, _, rfl, .inl (.inl hr0), rfl, y1, _, rfl, y2, _, rfl, y3, _, rfl, y4, [], rfl, rfl, ?_⟩
  dsimp only [gName]
  refine ⟨_, rfl, y1, _, rfl, hy1, ⟨t.gs, rfl, hF.gs⟩, fun H1 s1 => ⟨true, rfl, iteT ?_⟩⟩
  refine ⟨_, rfl, y2, _, rfl, hy2.mono (TK.of s1), ⟨t.ks, rfl, hF.ks⟩, fun H2 s2 => ⟨true, rfl, iteT ?_⟩⟩
  have s02 := s1.trans s2
  refine ⟨_, rfl, y3, a.f_is_keep, kKeep, _, rfl, Held.mono (j := 6) ⟨_, _, ok_is_keep T, T.F_is_keep.kp, T.b_is_keep⟩ (by decide), hy3.mono (TK.of s02), (fun d hd => by
    obtain ⟨e, he, rfl⟩ := List.mem_map.mp hd
    exact ⟨e, rfl, hF.kp e he⟩), by rw [List.length_map]; omega, fun H3 s3 => ⟨true, rfl, iteT ?_⟩⟩
  have s03 := s02.trans s3
  refine ⟨_, rfl, y4, a.f_is_function, kFn, _, rfl, ⟨_, _, ok_is_function T B, T.F_is_function.kp, T.b_is_function⟩, hy4.mono (TK.of s03), (fun d hd => by
    obtain ⟨f, hf, rfl⟩ := List.mem_map.mp hd
    obtain ⟨z1, z2, z3, z4⟩ := hZ.ps f hf
    have := hZ.sz hf
    exact ⟨f, rfl, hF.fs f hf, z1, z4, by omega⟩), by rw [List.length_map]; omega, fun H4 s4 => q H4 (s03.trans s4)⟩
theorem sc_named_functions : FnScope ["tree", "function"] ["tree"] (defScope s_named_functions) := ⟨rfl, rfl, rfl, by decide +kernel, rfl, by decide +kernel, by decide +kernel⟩
theorem ok_named_functions (T : Txt K mg a) : FnOk P w K mg base CX0 1 a.f_named_functions a.f_named_functions_d ["tree"] spNamed := by
  refine T.F_named_functions.ok sc_named_functions (fun vs H Q E h => ?_) (fun cdv A outer s H vs Q E hr h => ?_)
  · obtain ⟨v, t, rfl, _⟩ := h
    rfl
  obtain ⟨v, t, rfl, hv, hfl, hnd, q⟩ := h
  refine ⟨_, (pss_one (ps_ret ((pe_dc (own := [("function", 1)]) (g := gName 1) (tt := tYes) (by rfl) sc_named_functions.nd (pi_tup (pe_ix ix_tup (pv 0) pe_int (fun _ _ => rfl))) (blkOk_by (own := [("function", 1)]) (N := ["tree", "function"]) (sc := defScope s_named_functions) (by decide +kernel)) (fun _ _ _ _ _ => pg_name (i := 1) sc_named_functions.nd rfl (Or.inl rfl)) (fun _ _ _ _ _ => pts_nil) (fun _ _ _ _ _ => (pe_ix (show IxR _ (rIxT K) from ix_tup) (pv 1) pe_int (fun _ _ => rfl))) (fun _ _ _ _ _ => (pv 1)))))), ?_⟩
  obtain ⟨r, _, rfl, hr0, y1, _, rfl, hy1, y2, _, rfl, hy2, y3, _, rfl, hy3, y4, _, rfl, hy4, rfl⟩ := hv
  obtain ⟨pf, fx, rfl, hpf, hfx⟩ := hy4
  have hfxl := hfx.len
  rw [List.length_map] at hfxl
  refine ⟨_, rfl, r, _, _, _, rfl, rfl, .inl (.inl hr0), atI_nat (j := 3) rfl, pf, rfl, ⟨_, .inl (.inl hpf)⟩, fun nd nnd => it_tup (K := K) (a := pf) (xs := fx) (fun i H' => Same H H' ∧ NamedAt H' nd (t.fs.take i)) ⟨same_upd nnd, [], upd_same, rfl, rfl⟩ (fun i H' _ hh => .inl (.inl (hh.1 _ _ hpf))) ?_ ?_⟩
  · rintro i x H3 hi ⟨s3, kvs, hD, hk1, hk2⟩
    have hil := (List.getElem?_eq_some_iff.mp hi).1
    obtain ⟨f, hf, hxd⟩ := (hfx.mono (TK.of s3)).fn_get hi
    have hxd' := hxd
    obtain ⟨r3, _, rfl, hr3, a1, _, rfl, ha1, _⟩ := hxd
    have ha1 : a1 = .str f.nm := ha1
    subst ha1
    have hno : valV kvs (kk f.nm) = none := named_no hk1 fun hm => by
      obtain ⟨g, hg, e⟩ := List.mem_map.mp hm
      obtain ⟨j, hj⟩ := List.mem_iff_getElem?.mp hg
      have hjl : j < i := by
        have := (List.getElem?_eq_some_iff.mp hj).1
        rw [List.length_take] at this
        omega
      rw [List.getElem?_take_of_lt hjl] at hj
      have e1 : (t.fs.map (·.nm))[j]? = (t.fs.map (·.nm))[i]? := by
        rw [List.getElem?_map, List.getElem?_map, hj, hf]
        exact congrArg some e
      have := (List.getElem?_inj (by rw [List.length_map]; omega) hnd).mp e1
      omega
    have hkl : kvs.length = (t.fs.take i).length := by
      have := congrArg List.length hk1
      rwa [List.length_map, List.length_map] at this
    rw [List.length_take] at hkl
    have tk : TK H3 (upd H3 nd (.dK (putK kvs (kk f.nm) (.ref r3)))) := TK.upd hD (fun _ z => by cases z)
    refine ⟨rfl, _, rfl, r3, _, _, _, rfl, rfl, .inl (.inl hr3), atI_nat (j := 0) rfl, _, rfl, kvs, kk f.nm, rfl, hD, bigLine (by omega), same_mut s3 nnd, _, upd_same, ?_, ?_⟩
    · rw [putK_new _ hno, List.map_append, hk1, List.take_add_one, hf, List.map_append]
      rfl
    · rw [putK_new _ hno, List.map_append, List.take_add_one, hf, List.map_append]
      rw [putK_new _ hno] at tk
      exact Dvs.append (hk2.mono tk) ⟨_, [], rfl, hxd'.mono tk, rfl⟩
  · rintro H3 ⟨s3, hN⟩
    rw [hfxl, List.take_length] at hN
    exact q H3 nd s3 nnd hN
theorem sc_Program___init__ : FnScope ["self", "tree"] ["self", "tree"] (defScope s_Program___init__) := ⟨rfl, rfl, rfl, by decide +kernel, rfl, by decide +kernel, by decide +kernel⟩
theorem ok_Program___init__ (T : Txt K mg a) {tS tU tF : Addr} (B : Tabs K w mg a tS tU tF) : FnOk P w K mg base CX0 38 a.f_Program___init__ a.f_Program___init___d ["self", "tree"] (spPrg a.c_Program) := by
  refine T.F_Program___init__.ok sc_Program___init__ (fun vs H Q E h => ?_) (fun cdv A outer s H vs Q E hr h => ?_)
  · obtain ⟨o, dx, v, t, rfl, _⟩ := h
    rfl
  obtain ⟨o, dx, v, t, rfl, ho, hv, ⟨hF, hZ, hN⟩, q⟩ := h
  refine ⟨_, (pss_cons (ps_if (pt_not (pt_val (pe_call (ok_is_tree T B) (hr.mono (by decide)) (by rfl) T.g_is_tree T.F_is_tree.kp T.b_is_tree .nil pass0 (pa_cons (pv 1) pa_nil))))
      (pss_one ps_never)
      pss_nil)
    (pss_cons (ps_expr (pe_call (ok_check_sizes T B) (hr.mono (by decide)) (by rfl) T.g_check_sizes T.F_check_sizes.kp T.b_check_sizes .nil pass0 (pa_cons (pv 1) pa_nil)))
    (pss_cons (ps_expr (pe_call (ok_check_names T B) (hr.mono (by decide)) (by rfl) T.g_check_names T.F_check_names.kp T.b_check_names .nil pass0 (pa_cons (pv 1) pa_nil)))
    (pss_cons (ps_fld (pv 0) (pe_ix ix_tup (pv 1) pe_int (fun _ _ => rfl)) rfl)
    (pss_cons (ps_fld (pv 0) (pv 1) rfl)
    (pss_one (ps_fld (pv 0) (pe_call (ok_named_functions T) (hr.mono (by decide)) (by rfl) T.g_named_functions T.F_named_functions.kp T.b_named_functions .nil pass0 (pa_cons (pv 1) pa_nil)) rfl))))))), ?_⟩
  refine st_seq (st_noH (P := fun H' => Same H H') (fun Q q => ⟨_, rfl, v, t, rfl, hv, hF, hZ, fun H1 s1 => ⟨_, rfl, q _ s1⟩⟩) fun H1 s1 => ?_)
  dsimp only [tNext]
  refine st_seq ⟨_, rfl, v, t, rfl, hv.mono (TK.of s1), hF, hZ, fun H2 s2 => ?_⟩
  have s02 := s1.trans s2
  dsimp only
  refine st_seq ⟨_, rfl, v, t, rfl, hv.mono (TK.of s02), hF, hZ, hN, fun H3 s3 => ?_⟩
  have s03 := s02.trans s3
  clear s1 s2 s3 s02
  dsimp only
  have hv3 := hv.mono (TK.of s03)
  have hv3' := hv3
  obtain ⟨pt, _, rfl, hpt, y1, _, rfl, hy1, rest⟩ := hv3
  obtain ⟨pg, rfl, hpg⟩ := hy1.strs
  refine st_seq ⟨_, rfl, pt, _, _, _, rfl, rfl, .inl (.inl hpt), atI_nat (j := 0) rfl, _, rfl, o, _, dx, _, rfl, s03 _ _ ho, T.cl_Program, T.n_Program_globals, (by decide), ?_⟩
  have k4 : ∀ b x, H b = some x → b ≠ o → (upd H3 o (.ins a.c_Program dx (putF "globals" (.ref pg) []))) b = some x := fun b x e n => by rw [upd_ne n]; exact s03 _ _ e
  have ho4 : (upd H3 o (.ins a.c_Program dx (putF "globals" (.ref pg) []))) o = some (.ins a.c_Program dx [("globals", .ref pg)]) := upd_same
  have t4 : TK H3 (upd H3 o (.ins a.c_Program dx (putF "globals" (.ref pg) []))) := TK.upd (s03 _ _ ho) (fun _ z => by cases z)
  generalize upd H3 o (.ins a.c_Program dx (putF "globals" (.ref pg) [])) = H4 at k4 ho4 t4
  dsimp only
  refine st_seq ⟨_, rfl, _, rfl, o, _, dx, _, rfl, ho4, T.cl_Program, T.n_Program__tree, (by show 1 < 1000; decide), ?_⟩
  have k5 : ∀ b x, H b = some x → b ≠ o → (upd H4 o (.ins a.c_Program dx (putF "_tree" (.ref pt) [("globals", .ref pg)]))) b = some x := fun b x e n => by rw [upd_ne n]; exact k4 _ _ e n
  have ho5 : (upd H4 o (.ins a.c_Program dx (putF "_tree" (.ref pt) [("globals", .ref pg)]))) o = some (.ins a.c_Program dx (putF "_tree" (.ref pt) [("globals", .ref pg)])) := upd_same
  have t5 : TK H4 (upd H4 o (.ins a.c_Program dx (putF "_tree" (.ref pt) [("globals", .ref pg)]))) := TK.upd ho4 (fun _ z => by cases z)
  generalize upd H4 o (.ins a.c_Program dx (putF "_tree" (.ref pt) [("globals", .ref pg)])) = H5 at k5 ho5 t5
  have e5 : putF "_tree" (.ref pt) [("globals", V.ref pg)] = ([("globals", .ref pg), ("_tree", .ref pt)] : List (Str × V)) := rfl
  rw [e5] at ho5
  dsimp only
  have t35 := t4.trans t5
  refine ⟨_, rfl, .ref pt, t, rfl, hv3'.mono t35, Nat.le_trans hZ.f (by decide), (List.nodup_append.mp hN.nd).2.1, fun H6 nd s6 nnd hnd => ?_⟩
  refine ⟨_, rfl, o, _, dx, _, rfl, s6 _ _ ho5, T.cl_Program, T.n_Program__named, (by show 2 < 1000; decide), ?_⟩
  have e6 : putF "_named" (.ref nd) [("globals", V.ref pg), ("_tree", .ref pt)] = ([("globals", .ref pg), ("_tree", .ref pt), ("_named", .ref nd)] : List (Str × V)) := rfl
  rw [e6]
  have t6 : TK H6 (upd H6 o (.ins a.c_Program dx [("globals", .ref pg), ("_tree", .ref pt), ("_named", .ref nd)])) := TK.upd (s6 _ _ ho5) (fun _ z => by cases z)
  have t36 := (t35.trans (TK.of s6)).trans t6
  have hno : nd ≠ o := fun z => by rw [z, ho5] at nnd; cases nnd
  obtain ⟨kvs, n1, n2, n3⟩ := hnd
  refine q _ ⟨dx, pg, pt, nd, _, upd_same, t36 _ _ hpt, hv3'.mono t36, kvs, by rw [upd_ne hno]; exact n1, n2, n3.mono t6⟩ fun b x e n => ?_
  rw [upd_ne n]
  exact s6 _ _ (k5 _ _ e n)
end
end K10
namespace K10
open PySem PySem.Spec PyProof.Rows L2 TL
section
variable {P : Program} {w : World} {K : PySem.W.Frag} {mg : Str → Option Value} {base : Heap} {CX : CXT} {x qual : Str} {st : Stmt} {f : Addr} {fd : FuncData} {N ps : List Str} {k : Nat} {sp : Sp}
/-- a def that lets out what CX says -/
theorem okY (F : Fun K x qual st f fd) (S : FnScope N ps (defScope st)) (len : ∀ vs H Q E, sp vs H Q E → vs.length = ps.length)
    (hbody : ∀ (cdv : Value) (A : Around) (outer : List Env) (s : Shared) (H : Hp) (vs : List V) (Q : VK) (E : XK), Room k (A.deeper (envOfC qual (defScope st) s.heap.objs.size f cdv)) → sp vs H Q E →
      ∃ t, PSs (cxOf CX P w K mg base N qual (defScope st) f cdv A outer s H E) (defBody st) t ∧ t { nx := fun _ H' => Q .non H', rt := Q } (start N vs) H) : FnOk P w K mg base CX (k + 1) f fd ps sp := by
  obtain ⟨oc, od, kV, doc, pm, an, cdv, ct, osl, rfl, lk, hcd⟩ := F.ex
  exact fn_of lk hcd S len fun A outer s H vs Q E hr hsp => hbody cdv A outer s H vs Q E hr hsp
end
/-! ### what is wrong with names -/
inductive Er where
  | dup (z : Str)
  | unk (z : Str)
  | arg (i : Nat)
  | fin (i : Nat)
def Er.cls (a : Ads) : Er → Addr
  | .dup _ => a.c_DuplicateName
  | .unk _ => a.c_UnknownName
  | .arg _ => a.c_WrongArguments
  | .fin _ => a.c_InvalidFinally
def Er.fd : Er → Str
  | .dup _ => "name"
  | .unk _ => "name"
  | .arg _ => "place"
  | .fin _ => "place"
def Er.v : Er → V
  | .dup z => .str z
  | .unk z => .str z
  | .arg i => .int i
  | .fin i => .int i
def erOut (a : Ads) (E : XK) (e : Er) (H : Hp) : Prop := ∀ (H' : Hp) (d : Addr), Same H H' → H' d = none → E (.ref (e.cls a)) (some d) (upd H' d (.xd [(e.fd, e.v)]))
def endO (a : Ads) (Q : VK) (E : XK) (H : Hp) (r : Option Er) : Prop := (∀ e, r = some e → erOut a E e H) ∧ (r = none → ∀ H', Same H H' → Q .non H')
theorem erOut.same {a : Ads} {E : XK} {e : Er} {H H1 : Hp} (h : erOut a E e H) (s : Same H H1) : erOut a E e H1 := fun H' d s1 n => h H' d (s.trans s1) n
/-! the first name that stands ahead of it -/
def dupF : List Str → List Str → Option Str
  | _, [] => none
  | seen, z :: r => if z ∈ seen then some z else dupF (seen ++ [z]) r
def dupE (ns : List Str) : Option Er := (dupF [] ns).map Er.dup
theorem drop_at {α : Type} {l : List α} {i : Nat} {z : α} (h : l[i]? = some z) : l.drop i = z :: l.drop (i + 1) := by
  obtain ⟨hl, rfl⟩ := List.getElem?_eq_some_iff.mp h
  rw [List.drop_eq_getElem_cons hl]
theorem dupF_nodup : ∀ (seen ns : List Str), seen.Nodup → dupF seen ns = none → (seen ++ ns).Nodup
  | seen, [], h, _ => by rw [List.append_nil]; exact h
  | seen, z :: r, h, e => by
    unfold dupF at e
    by_cases hz : z ∈ seen
    · rw [if_pos hz] at e
      cases e
    · rw [if_neg hz] at e
      have := dupF_nodup (seen ++ [z]) r (by
        rw [List.nodup_append]
        refine ⟨h, by simp, fun a ha b hb => ?_⟩
        rw [List.mem_singleton.mp hb]
        intro e
        exact hz (e ▸ ha)) e
      rw [List.append_assoc] at this
      exact this
theorem dupE_nodup {ns : List Str} (h : dupE ns = none) : ns.Nodup := by
  unfold dupE at h
  have := dupF_nodup [] ns List.nodup_nil (by
    cases e : dupF [] ns with
    | none => rfl
    | some z => rw [e] at h; cases h)
  rwa [List.nil_append] at this
/-! the first name that is not known -/
def unkE (ks ns : List Str) : Option Er := (ns.find? fun z => !decide (z ∈ ks)).map Er.unk
theorem find_at {α : Type} {p : α → Bool} : ∀ {l : List α} {i : Nat} {x : α}, (∀ y ∈ l.take i, p y = false) → l[i]? = some x → p x = true → l.find? p = some x
  | [], _, _, _, h, _ => by cases h
  | y :: l, 0, x, _, h, hx => by
    have : y = x := Option.some.inj h
    rw [this, List.find?_cons, hx]
  | y :: l, i + 1, x, g, h, hx => by
    rw [List.find?_cons, g y List.mem_cons_self]
    exact find_at (fun z hz => g z (List.mem_cons_of_mem _ hz)) h hx
theorem find_no {α : Type} {p : α → Bool} {l : List α} (h : ∀ y ∈ l, p y = false) : l.find? p = none := List.find?_eq_none.mpr fun x hx => by rw [h x hx]; exact Bool.false_ne_true
theorem fs_at {α β : Type} {f : α → Option β} : ∀ {l : List α} {i : Nat} {x : α} {e : β}, (∀ y ∈ l.take i, f y = none) → l[i]? = some x → f x = some e → l.findSome? f = some e
  | [], _, _, _, _, h, _ => by cases h
  | y :: l, 0, x, e, _, h, hx => by
    have : y = x := Option.some.inj h
    rw [this, List.findSome?_cons, hx]
  | y :: l, i + 1, x, e, g, h, hx => by
    rw [List.findSome?_cons, g y List.mem_cons_self]
    exact fs_at (fun z hz => g z (List.mem_cons_of_mem _ hz)) h hx
theorem fs_no {α β : Type} {f : α → Option β} {l : List α} (h : ∀ y ∈ l, f y = none) : l.findSome? f = none := List.findSome?_eq_none_iff.mpr h
theorem take_more {α : Type} {q : α → Prop} {l : List α} {i : Nat} {x : α} (h : ∀ y ∈ l.take i, q y) (hx : l[i]? = some x) (hq : q x) : ∀ y ∈ l.take (i + 1), q y := fun y hy => by
  rw [List.take_add_one, hx] at hy
  rcases List.mem_append.mp hy with hy | hy
  · exact h y hy
  · rw [List.mem_singleton.mp hy]
    exact hq
theorem take_all {α : Type} {q : α → Prop} {l : List α} (h : ∀ y ∈ l.take l.length, q y) : ∀ y ∈ l, q y := by rwa [List.take_length] at h
def spDiffX (a : Ads) : Sp := fun vs H Q E => ∃ (p : Addr) (ns : List Str), vs = [.ref p] ∧ H p = some (.tup (ns.map V.str)) ∧ ns.length ≤ 4000 ∧ endO a Q E H (dupE ns)
def spKnownX (a : Ads) : Sp := fun vs H Q E => ∃ (p q : Addr) (ns ks : List Str), vs = [.ref p, .ref q] ∧ H p = some (.lst (ns.map V.str)) ∧ H q = some (.tup (ks.map V.str)) ∧ endO a Q E H (unkE ks ns)
section
variable {P : Program} {w : World} {K : PySem.W.Frag} {mg : Str → Option Value} {base : Heap} {a : Ads}
theorem sc_DuplicateName___init__ : FnScope ["self", "name"] ["self", "name"] (defScope s_DuplicateName___init__) := ⟨rfl, rfl, rfl, by decide +kernel, rfl, by decide +kernel, by decide +kernel⟩
theorem ok_DuplicateName___init__ (T : Txt K mg a) : FnOk P w K mg base CX0 1 a.f_DuplicateName___init__ a.f_DuplicateName___init___d ["self", "name"] (L2E.spErr a.c_DuplicateName "name") := by
  refine T.F_DuplicateName___init__.ok sc_DuplicateName___init__ (fun vs H Q E h => ?_) (fun cdv A outer s H vs Q E hr h => ?_)
  · obtain ⟨_, _, rfl, _⟩ := h
    rfl
  obtain ⟨x, v, rfl, hx, q⟩ := h
  exact ⟨_, pss_one (L2E.ps_ostE T.e_DuplicateName (pv 0) (pv 1)), _, rfl, _, rfl, x, rfl, hx, q⟩
theorem sc_UnknownName___init__ : FnScope ["self", "name"] ["self", "name"] (defScope s_UnknownName___init__) := ⟨rfl, rfl, rfl, by decide +kernel, rfl, by decide +kernel, by decide +kernel⟩
theorem ok_UnknownName___init__ (T : Txt K mg a) : FnOk P w K mg base CX0 1 a.f_UnknownName___init__ a.f_UnknownName___init___d ["self", "name"] (L2E.spErr a.c_UnknownName "name") := by
  refine T.F_UnknownName___init__.ok sc_UnknownName___init__ (fun vs H Q E h => ?_) (fun cdv A outer s H vs Q E hr h => ?_)
  · obtain ⟨_, _, rfl, _⟩ := h
    rfl
  obtain ⟨x, v, rfl, hx, q⟩ := h
  exact ⟨_, pss_one (L2E.ps_ostE T.e_UnknownName (pv 0) (pv 1)), _, rfl, _, rfl, x, rfl, hx, q⟩
theorem sc_WrongArguments___init__ : FnScope ["self", "place"] ["self", "place"] (defScope s_WrongArguments___init__) := ⟨rfl, rfl, rfl, by decide +kernel, rfl, by decide +kernel, by decide +kernel⟩
theorem ok_WrongArguments___init__ (T : Txt K mg a) : FnOk P w K mg base CX0 1 a.f_WrongArguments___init__ a.f_WrongArguments___init___d ["self", "place"] (L2E.spErr a.c_WrongArguments "place") := by
  refine T.F_WrongArguments___init__.ok sc_WrongArguments___init__ (fun vs H Q E h => ?_) (fun cdv A outer s H vs Q E hr h => ?_)
  · obtain ⟨_, _, rfl, _⟩ := h
    rfl
  obtain ⟨x, v, rfl, hx, q⟩ := h
  exact ⟨_, pss_one (L2E.ps_ostE T.e_WrongArguments (pv 0) (pv 1)), _, rfl, _, rfl, x, rfl, hx, q⟩
theorem sc_InvalidFinally___init__ : FnScope ["self", "place"] ["self", "place"] (defScope s_InvalidFinally___init__) := ⟨rfl, rfl, rfl, by decide +kernel, rfl, by decide +kernel, by decide +kernel⟩
theorem ok_InvalidFinally___init__ (T : Txt K mg a) : FnOk P w K mg base CX0 1 a.f_InvalidFinally___init__ a.f_InvalidFinally___init___d ["self", "place"] (L2E.spErr a.c_InvalidFinally "place") := by
  refine T.F_InvalidFinally___init__.ok sc_InvalidFinally___init__ (fun vs H Q E h => ?_) (fun cdv A outer s H vs Q E hr h => ?_)
  · obtain ⟨_, _, rfl, _⟩ := h
    rfl
  obtain ⟨x, v, rfl, hx, q⟩ := h
  exact ⟨_, pss_one (L2E.ps_ostE T.e_InvalidFinally (pv 0) (pv 1)), _, rfl, _, rfl, x, rfl, hx, q⟩
theorem ok_check_differentX (T : Txt K mg a) : FnOk P w K mg base (L2N.CX P w) 4 a.f_check_different a.f_check_different_d ["names"] (spDiffX a) := by
  refine okY T.F_check_different sc_check_different (fun vs H Q E h => ?_) (fun cdv A outer s H vs Q E hr h => ?_)
  · obtain ⟨p, ns, rfl, _⟩ := h
    rfl
  obtain ⟨p, ns, rfl, hp, hl, hbad, q⟩ := h
  refine ⟨_, (pss_cons (ps_set (i := 1) sc_check_different.nd rfl (Or.inl rfl) (pe_callTy0 cr_set0K (by rfl) T.set (by decide +kernel)))
    (pss_one (ps_for (passes_of rfl) rfl (pi_tup (pv 0)) (pg_name (i := 2) sc_check_different.nd rfl (Or.inl rfl))
      (pss_cons (ps_if (pt_cmpR or_sinK (pv 2) (pv 1) (by rfl))
        (pss_one (L2N.ps_raise rfl (L2N.takes_of rfl rfl rfl rfl) (L2E.pmk_err T.e_DuplicateName (ok_DuplicateName___init__ T) (hr.mono (by decide)) T.b_DuplicateName___init__ pass0 rfl T.mg_DuplicateName (pa_cons (pv 2) pa_nil))))
        pss_nil)
      (pss_one (ps_expr (pe_saddK (pv 1) (pa_cons (pv 2) pa_nil)))))))), ?_⟩
  refine ⟨rfl, fun S nS => ?_⟩
  have sS := same_upd (o := SetK P w S (fun _ => false) 0) nS
  have hS : (upd H S (SetK P w S (fun _ => false) 0)) S = some (SetK P w S (fun _ => false) 0) := upd_same
  dsimp only [gName]
  refine ⟨_, rfl, p, rfl, ⟨_, .inl (.inl (sS _ _ hp))⟩, for_tup (K := K) (a := p) (xs := ns.map V.str) (fun i σ H' => ∃ (v2 : Option V) (F : Key → Bool), σ = [some (.ref p), some (.ref S), v2] ∧ Same H H' ∧ H' S = some (SetK P w S F i) ∧ (∀ z, F (Sum.inr z) = decide (z ∈ ns.take i)) ∧ dupF [] ns = dupF (ns.take i) (ns.drop i))
    ⟨none, _, rfl, sS, hS, fun z => (decide_eq_false (by simp)).symm, rfl⟩ (fun i σ H' _ ⟨_, _, _, s', _⟩ => .inl (.inl (s' _ _ hp))) ?_ ?_⟩
  · rintro i x σ H2 hi ⟨v2, F, rfl, s2, hS2, hF, hd⟩
    obtain ⟨z, hz, rfl⟩ := get_map hi
    have hil := (List.getElem?_eq_some_iff.mp hz).1
    rw [drop_at hz, dupF] at hd
    dsimp only [gName]
    by_cases hm : z ∈ ns.take i
    · rw [if_pos hm] at hd
      refine st_seq (st_yes (fun Q q => ⟨_, rfl, _, rfl, Sum.inr z, S, F, i, rfl, rfl, hS2, _, rfl, ?_⟩) ?_)
      · rw [if_neg Bool.false_ne_true, hF, decide_eq_true hm]
        exact q
      · exact ⟨_, rfl, _, rfl, fun d hd' => hbad (.dup z) (by unfold dupE; rw [hd]; rfl) H2 d s2 hd'⟩
    rw [if_neg hm] at hd
    have hnz : F (Sum.inr z) = false := by rw [hF]; exact decide_eq_false hm
    refine st_seq (st_no (fun Q q => ⟨_, rfl, _, rfl, Sum.inr z, S, F, i, rfl, rfl, hS2, _, rfl, ?_⟩) ?_)
    · rw [if_neg Bool.false_ne_true, hnz]
      exact q
    dsimp only [tNext]
    refine ⟨_, rfl, ⟨S, F, i, rfl, hS2⟩, _, rfl, S, Sum.inr z, F, i, rfl, rfl, hS2, Nat.lt_of_le_of_lt (show i + 1 ≤ 4000 by omega) (by decide), ?_⟩
    rw [hnz, if_neg Bool.false_ne_true]
    have et : ns.take (i + 1) = ns.take i ++ [z] := by rw [List.take_add_one, hz]; rfl
    refine ⟨_, _, rfl, same_mut s2 nS, upd_same, fun y => ?_, by rw [et]; exact hd⟩
    rw [hF, et]
    by_cases hy : y ∈ ns.take i
    · rw [decide_eq_true hy, decide_eq_true (List.mem_append_left _ hy)]
      rfl
    · rw [decide_eq_false hy]
      by_cases hyz : y = z
      · subst hyz
        rw [decide_eq_true rfl, decide_eq_true (List.mem_append_right _ (by simp))]
        rfl
      · rw [decide_eq_false (fun e => hyz (Sum.inr.inj e)), decide_eq_false (fun e => by
          rcases List.mem_append.mp e with e | e
          · exact hy e
          · exact hyz (by simpa using e))]
        rfl
  · rintro σ H2 ⟨v2, F, rfl, s2, hS2, hF, hd⟩
    rw [List.length_map, List.drop_length] at hd
    exact q (by unfold dupE; rw [hd]; rfl) H2 s2
theorem ok_check_knownX (T : Txt K mg a) : FnOk P w K mg base (L2N.CX P w) 4 a.f_check_known a.f_check_known_d ["names", "known"] (spKnownX a) := by
  refine okY T.F_check_known sc_check_known (fun vs H Q E h => ?_) (fun cdv A outer s H vs Q E hr h => ?_)
  · obtain ⟨p, t, ns, ks, rfl, _⟩ := h
    rfl
  obtain ⟨p, t, ns, ks, rfl, hp, ht, hbad, q⟩ := h
  refine ⟨_, (pss_one (ps_for (passes_of rfl) rfl (pi_list (pv 0)) (pg_name (i := 2) sc_check_known.nd rfl (Or.inl rfl))
      (pss_one (ps_if (pt_cmpR op_notIn_seq (pv 2) (pv 1) (by rfl))
        (pss_one (L2N.ps_raise rfl (L2N.takes_of rfl rfl rfl rfl) (L2E.pmk_err T.e_UnknownName (ok_UnknownName___init__ T) (hr.mono (by decide)) T.b_UnknownName___init__ pass0 rfl T.mg_UnknownName (pa_cons (pv 2) pa_nil))))
        pss_nil)))), ?_⟩
  refine ⟨_, rfl, p, rfl, ⟨_, SqL.of hp⟩, for_list (K := K) (a := p) (xs := ns.map V.str) (fun i σ H' => ∃ v2 : Option V, σ = [some (.ref p), some (.ref t), v2] ∧ H' = H ∧ ∀ z ∈ ns.take i, (!decide (z ∈ ks)) = false)
    ⟨none, rfl, rfl, fun z hz => by cases hz⟩ (fun i σ H' _ ⟨_, _, e, _⟩ => by rw [e]; exact SqL.of hp) ?_ ?_⟩
  · rintro i x σ H2 hi ⟨v2, rfl, rfl, hk⟩
    obtain ⟨z, hz, rfl⟩ := get_map hi
    dsimp only [gName]
    by_cases hm : z ∈ ks
    · refine st_no (fun Q q => ⟨_, rfl, _, rfl, t, _, rfl, .inr (.inl (.inl ht)), rfl, flat_strs ks, _, rfl, ?_⟩) ⟨_, rfl, rfl, take_more hk hz (by rw [decide_eq_true hm]; rfl)⟩
      rw [if_pos rfl, inV_strs, decide_eq_true hm]
      exact q
    · refine st_yes (fun Q q => ⟨_, rfl, _, rfl, t, _, rfl, .inr (.inl (.inl ht)), rfl, flat_strs ks, _, rfl, ?_⟩) ?_
      · rw [if_pos rfl, inV_strs, decide_eq_false hm]
        exact q
      · exact ⟨_, rfl, _, rfl, fun d hd' => hbad (.unk z) (by unfold unkE; rw [find_at hk hz (by rw [decide_eq_false hm]; rfl)]; rfl) H2 d (Same.refl _) hd'⟩
  · rintro σ H2 ⟨v2, rfl, rfl, hk⟩
    rw [List.length_map] at hk
    exact q (by unfold unkE; rw [find_no (take_all hk)]; rfl) H2 (Same.refl _)
end
end K10
namespace K10
open PySem PySem.Spec PyProof.Rows L2 TL
/-! ### the first error of a statement -/
def poolN (vs ks fs : List Str) (s : Str) : List Str := if s = "variable" then vs else if s = "kind" then ks else fs
def uokB (vs ks fs : List Str) (u : Str × Str) : Bool := decide (u.2 ∈ poolN vs ks fs u.1)
def parOf (hs : List Hd) (f : Str) : List (Str × Bool) := ((hs.find? fun h => decide (h.1 = f)).map (·.2)).getD []
def stE (vs ks : List Str) (hs : List Hd) (i : Nat) (s : TS) : Option Er :=
  match s.uses.find? (fun u => !uokB vs ks (hs.map (·.1)) u) with
  | some u => some (.unk u.2)
  | none => if s.calls.any (fun c => !fitB c.2 (parOf hs c.1)) then some (.arg i) else if finB s then none else some (.fin i)
theorem unk1 (ks : List Str) (n : Str) : unkE ks [n] = if n ∈ ks then none else some (.unk n) := by
  unfold unkE
  by_cases h : n ∈ ks
  · rw [if_pos h, find_no (fun y hy => by rw [List.mem_singleton.mp hy, decide_eq_true h]; rfl)]
    rfl
  · rw [if_neg h, List.find?_cons, decide_eq_false h]
    rfl
theorem exU (e : Ex) : ∀ u ∈ exUses e, u.1 = "variable" := fun u hu => by
  obtain ⟨t, _, rfl⟩ := List.mem_map.mp hu
  rfl
theorem arU (a : Ar) : ∀ u ∈ arUses a, u.1 = "variable" := by
  cases a with
  | pla v =>
    intro u hu
    rw [List.mem_singleton.mp hu]
    rfl
  | val e => exact exU e
theorem part_sorts (p : Part) : ∀ u ∈ p.uses, u.1 = "variable" ∨ u.1 = "kind" ∨ u.1 = "function" := by
  intro u hu
  cases p with
  | var v => rw [List.mem_singleton.mp hu]; exact .inl rfl
  | sum e => exact .inl (exU e u hu)
  | tgt o => cases o with
    | none => cases hu
    | some v => rw [List.mem_singleton.mp hu]; exact .inl rfl
  | fn f => rw [List.mem_singleton.mp hu]; exact .inr (.inr rfl)
  | args as =>
    obtain ⟨x, _, hx⟩ := List.mem_flatMap.mp hu
    exact .inl (arU x u hx)
  | blk _ => cases hu
  | knds ks =>
    obtain ⟨x, _, rfl⟩ := List.mem_map.mp hu
    exact .inr (.inl rfl)
  | knd k => rw [List.mem_singleton.mp hu]; exact .inr (.inl rfl)
  | hds h =>
    obtain ⟨x, _, hx⟩ := List.mem_flatMap.mp hu
    obtain ⟨y, _, rfl⟩ := List.mem_map.mp hx
    exact .inr (.inl rfl)
  | vars vs =>
    obtain ⟨x, _, rfl⟩ := List.mem_map.mp hu
    exact .inl rfl
  | made f as =>
    rcases List.mem_cons.mp hu with rfl | hu
    · exact .inr (.inr rfl)
    · obtain ⟨x, _, hx⟩ := List.mem_flatMap.mp hu
      exact .inl (arU x u hx)
  | swal ks =>
    obtain ⟨x, _, rfl⟩ := List.mem_map.mp hu
    exact .inr (.inl rfl)
theorem uses_sorts {s : TS} : ∀ u ∈ s.uses, u.1 = "variable" ∨ u.1 = "kind" ∨ u.1 = "function" := fun u hu => by
  obtain ⟨p, _, hp⟩ := List.mem_flatMap.mp hu
  exact part_sorts p u hp
theorem pn_v (vs ks fs : List Str) : poolN vs ks fs "variable" = vs := if_pos rfl
theorem pn_k (vs ks fs : List Str) : poolN vs ks fs "kind" = ks := by
  unfold poolN
  rw [if_neg (by decide +kernel), if_pos rfl]
theorem pn_f (vs ks fs : List Str) : poolN vs ks fs "function" = fs := by
  unfold poolN
  rw [if_neg (by decide +kernel), if_neg (by decide +kernel)]
theorem KnownAt.getX {H : Hp} {kd : Addr} {vs ks fs : List Str} (k : KnownAt H kd vs ks fs) {s : Str} (h : s = "variable" ∨ s = "kind" ∨ s = "function") : ∃ (t : Addr), DGet H kd (.str s) (some (.ref t)) ∧ H t = some (.tup ((poolN vs ks fs s).map V.str)) := by
  obtain ⟨kvs, tv, tk, tf, h1, h2, h3, h4, h5, h6, h7⟩ := k.ex
  rcases h with rfl | rfl | rfl
  · exact ⟨tv, h2 ▸ DGet.k (k := Sum.inr "variable") h1, by rw [pn_v]; exact h3⟩
  · exact ⟨tk, h4 ▸ DGet.k (k := Sum.inr "kind") h1, by rw [pn_k]; exact h5⟩
  · exact ⟨tf, h6 ▸ DGet.k (k := Sum.inr "function") h1, by rw [pn_f]; exact h7⟩
/-- a called function is one of the names -/
theorem call_use {s : TS} {c : Str × List Ar} (h : c ∈ s.calls) : (("function" : Str), c.1) ∈ s.uses := by
  cases s with
  | pl p =>
    cases p with
    | call t f as =>
      rw [List.mem_singleton.mp h]
      exact List.mem_flatMap.mpr ⟨Part.fn f, by simp [TS.parts], List.mem_singleton.mpr rfl⟩
    | _ => cases h
  | wth f as g bs ks x =>
    have h : c ∈ [(f, as), (g, bs)] := h
    simp only [List.mem_cons, List.not_mem_nil, or_false] at h
    rcases h with rfl | rfl
    · exact List.mem_flatMap.mpr ⟨Part.made f as, by simp [TS.parts], List.mem_cons_self⟩
    · exact List.mem_flatMap.mpr ⟨Part.made g bs, by simp [TS.parts], List.mem_cons_self⟩
  | _ => cases h
theorem par_at {hs : List Hd} {f : Str} (h : f ∈ hs.map (·.1)) : ∃ x ∈ hs, x.1 = f ∧ parOf hs f = x.2 := by
  obtain ⟨y, hy, rfl⟩ := List.mem_map.mp h
  have : (hs.find? fun h => decide (h.1 = y.1)).isSome = true := List.find?_isSome.mpr ⟨y, hy, decide_eq_true rfl⟩
  obtain ⟨x, hx⟩ := Option.isSome_iff_exists.mp this
  refine ⟨x, List.mem_of_find?_eq_some hx, of_decide_eq_true (List.find?_some (p := fun h : Hd => decide (h.1 = y.1)) hx), ?_⟩
  unfold parOf
  rw [hx]
  rfl
def spStmX (a : Ads) : Sp := fun vs H Q E => ∃ (i : Nat) (sv : V) (kd pd : Addr) (st : TS) (ns ks : List Str) (hs : List Hd), vs = [.int i, sv, .ref kd, .ref pd] ∧ Dv H sv (dS st) ∧ st.F ∧ st.ht ≤ 7 ∧ st.sz ≤ 1000 ∧ KnownAt H kd ns ks (hs.map (·.1)) ∧ ParamsAt H pd hs ∧ (∀ h ∈ hs, h.2.length ≤ 1000) ∧ endO a Q E H (stE ns ks hs i st)
section
variable {P : Program} {w : World} {K : PySem.W.Frag} {mg : Str → Option Value} {base : Heap} {a : Ads}
theorem ok_check_statementX (T : Txt K mg a) {tS tU tF : Addr} (B : Tabs K w mg a tS tU tF) : FnOk P w K mg base (L2N.CX P w) 13 a.f_check_statement a.f_check_statement_d ["place", "statement", "known", "params"] (spStmX a) := by
  refine okY T.F_check_statement sc_check_statement (fun vs H Q E h => ?_) (fun cdv A outer s H vs Q E hr h => ?_)
  · obtain ⟨i, sv, kd, pd, st, ns, ks, hs, rfl, _⟩ := h
    rfl
  obtain ⟨i, sv, kd, pd, st, ns, ks, hs, rfl, hv, hF, hht, hsz, hkn, hpa, hpl, hbad, q⟩ := h
  refine ⟨_, (pss_cons (ps_for (passes_of rfl) rfl (pi_list (pe_call (ok_uses_in T B) (hr.mono (by decide)) (by rfl) T.g_uses_in T.F_uses_in.kp T.b_uses_in .nil pass0 (pa_cons (pv 1) pa_nil))) (pg_tup (by rfl) (pgs_cons (pg_name (i := 4) sc_check_statement.nd rfl (Or.inl rfl)) (pgs_cons (pg_name (i := 5) sc_check_statement.nd rfl (Or.inl rfl)) pgs_nil)))
      (pss_one (ps_expr (pe_call (E := fun cls d H => E cls d H) (ok_check_knownX T) (hr.mono (by decide)) (by rfl) T.g_check_known T.F_check_known.kp T.b_check_known .nil (fun pins σ => L2N.passAt (L2N.takes_of rfl rfl rfl rfl) σ pins) (pa_cons (pe_lst (pa_cons (pv 5) pa_nil)) (pa_cons (pe_dget (hu_of hr) (pv 2) (pv 4) (fun _ _ => rfl)) pa_nil))))))
    (pss_cons (ps_for (passes_of rfl) rfl (pi_list (pe_call (ok_calls_in T B) (hr.mono (by decide)) (by rfl) T.g_calls_in T.F_calls_in.kp T.b_calls_in .nil pass0 (pa_cons (pv 1) pa_nil))) (pg_tup (by rfl) (pgs_cons (pg_name (i := 5) sc_check_statement.nd rfl (Or.inl rfl)) (pgs_cons (pg_name (i := 6) sc_check_statement.nd rfl (Or.inl rfl)) pgs_nil)))
      (pss_one (ps_if (pt_not (pt_val (pe_call (ok_are_fitting T) (hr.mono (by decide)) (by rfl) T.g_are_fitting T.F_are_fitting.kp T.b_are_fitting .nil pass0 (pa_cons (pv 6) (pa_cons (pe_dget (hu_of hr) (pv 3) (pv 5) (fun _ _ => rfl)) pa_nil)))))
        (pss_one (L2N.ps_raise rfl (L2N.takes_of rfl rfl rfl rfl) (L2E.pmk_err T.e_WrongArguments (ok_WrongArguments___init__ T) (hr.mono (by decide)) T.b_WrongArguments___init__ pass0 rfl T.mg_WrongArguments (pa_cons (pv 0) pa_nil))))
        pss_nil)))
    (pss_one (ps_if (PW.pt (pw_and (pt_cmpR op_eq (pe_ix ix_tup (pv 1) pe_int (fun _ _ => rfl)) pe_str (nomark _)) (pw_and1 (pt_val (pe_call (ok_is_barred T B) (hr.mono (by decide)) (by rfl) T.g_is_barred T.F_is_barred.kp T.b_is_barred .nil pass0 (pa_cons (pe_ix ix_tup (pv 1) pe_int (fun _ _ => rfl)) pa_nil))))))
      (pss_one (L2N.ps_raise rfl (L2N.takes_of rfl rfl rfl rfl) (L2E.pmk_err T.e_InvalidFinally (ok_InvalidFinally___init__ T) (hr.mono (by decide)) T.b_InvalidFinally___init__ pass0 rfl T.mg_InvalidFinally (pa_cons (pv 0) pa_nil))))
      pss_nil)))), ?_⟩
  -- the names
  refine st_seq ⟨_, rfl, sv, st, rfl, hv, hF, fun H2 L xs s2 nL hL hx => ?_⟩
  have hxl := hx.len
  rw [List.length_map] at hxl
  refine ⟨L, rfl, ⟨_, SqL.of hL⟩, for_list (K := K) (a := L) (xs := xs) (fun i' σ H' => ∃ (v4 v5 : Option V), σ = [some (.int i), some sv, some (.ref kd), some (.ref pd), v4, v5, none] ∧ Same H2 H' ∧ ∀ u ∈ st.uses.take i', (!uokB ns ks (hs.map (·.1)) u) = false)
    ⟨none, none, rfl, Same.refl _, fun u hu => by cases hu⟩ (fun i σ H' _ ⟨_, _, _, h, _⟩ => SqL.of (h _ _ hL)) ?_ ?_⟩
  · rintro j x σ H3 hj ⟨v4, v5, rfl, s3, hok⟩
    obtain ⟨d, hd, hxd⟩ := (hx.mono (TK.of s3)).get hj
    obtain ⟨u, hu, rfl⟩ := get_map hd
    have hsu := uses_sorts u (List.mem_of_getElem? hu)
    obtain ⟨r, _, rfl, hr3, _, _, rfl, rfl, _, _, rfl, rfl, rfl⟩ := hxd
    refine ⟨r, _, rfl, .inl (.inl hr3), rfl, _, _, rfl, _, [], rfl, rfl, ?_⟩
    dsimp only [gName]
    refine ⟨_, rfl, one_le, fun M nM => ?_⟩
    have s4 := same_upd (o := .lst [.str u.2]) nM
    obtain ⟨t, g1, g2⟩ := (hkn.same ((s2.trans s3).trans s4)).getX hsu
    refine ⟨_, rfl, _, rfl, kd, _, rfl, g1, M, t, [u.2], _, rfl, upd_same, g2, fun e he => ?_, fun he H' s' => ⟨_, _, rfl, (s3.trans s4).trans s', ?_⟩⟩
    · rw [unk1] at he
      by_cases hm : u.2 ∈ poolN ns ks (hs.map (·.1)) u.1
      · rw [if_pos hm] at he
        cases he
      · rw [if_neg hm] at he
        cases he
        have hu2 : (!uokB ns ks (hs.map (·.1)) u) = true := by unfold uokB; rw [decide_eq_false hm]; rfl
        exact (hbad (.unk u.2) (by unfold stE; rw [find_at hok hu hu2])).same ((s2.trans s3).trans s4)
    · rw [unk1] at he
      by_cases hm : u.2 ∈ poolN ns ks (hs.map (·.1)) u.1
      · exact take_more hok hu (by unfold uokB; rw [decide_eq_true hm]; rfl)
      · rw [if_neg hm] at he
        cases he
  rintro σ H3 ⟨v4, v5, rfl, s3, hok⟩
  have hul : xs.length = st.uses.length := hxl
  rw [hul] at hok
  have hok := take_all hok
  have hfn := find_no hok
  have s03 := s2.trans s3
  -- the calls
  dsimp only
  refine st_seq ⟨_, rfl, sv, st, rfl, hv.mono (TK.of s03), fun H4 C cs s4 nC hC hcs => ?_⟩
  have hcl := hcs.len
  rw [List.length_map] at hcl
  refine ⟨C, rfl, ⟨_, SqL.of hC⟩, for_list (K := K) (a := C) (xs := cs) (fun i' σ H' => ∃ (v4 v5 v6 : Option V), σ = [some (.int i), some sv, some (.ref kd), some (.ref pd), v4, v5, v6] ∧ Same H4 H' ∧ ∀ c ∈ st.calls.take i', (!fitB c.2 (parOf hs c.1)) = false)
    ⟨v4, v5, none, rfl, Same.refl _, fun u hu => by cases hu⟩ (fun i σ H' _ ⟨_, _, _, _, h, _⟩ => SqL.of (h _ _ hC)) ?_ ?_⟩
  · rintro j x σ H5 hj ⟨v4, v5, v6, rfl, s5, hfits⟩
    obtain ⟨d, hd, hxd⟩ := (hcs.mono (TK.of s5)).get hj
    obtain ⟨c, hc, rfl⟩ := get_map hd
    have hcm := List.mem_of_getElem? hc
    have huse := hok _ (call_use hcm)
    have hin : c.1 ∈ hs.map (·.1) := by
      unfold uokB at huse
      dsimp only at huse
      rw [pn_f] at huse
      by_cases hm : c.1 ∈ hs.map (·.1)
      · exact hm
      · rw [decide_eq_false hm] at huse
        cases huse
    obtain ⟨h, hh, hn, hpo⟩ := par_at hin
    have hcF := ((calls_ok hF).2 c hcm).2
    obtain ⟨r, _, rfl, hr3, _, _, rfl, rfl, u, _, rfl, hu, rfl⟩ := hxd
    refine ⟨r, _, rfl, .inl (.inl hr3), rfl, _, _, rfl, u, [], rfl, rfl, ?_⟩
    dsimp only [gName]
    obtain ⟨v, g1, g2⟩ := (hpa.same ((s03.trans s4).trans s5)).get hh
    rw [hn] at g1
    cases hfit : fitB c.2 h.2 with
    | true =>
      refine st_noH (P := fun H' => Same H4 H') (fun Q q => ⟨_, rfl, _, rfl, _, rfl, pd, v, rfl, g1, u, v, c.2, h.2, rfl, hu, g2, Nat.le_trans hcF.len (by decide), hpl h hh, fun H' s' => ⟨_, rfl, ?_⟩⟩) (fun H' s' => ⟨_, _, _, rfl, s', take_more hfits hc (by rw [hpo, hfit]; rfl)⟩)
      rw [hfit]
      exact q _ (s5.trans s')
    | false =>
      refine st_yesH (P := fun H' => Same H4 H') (fun Q q => ⟨_, rfl, _, rfl, _, rfl, pd, v, rfl, g1, u, v, c.2, h.2, rfl, hu, g2, Nat.le_trans hcF.len (by decide), hpl h hh, fun H' s' => ⟨_, rfl, ?_⟩⟩) (fun H' s' => ?_)
      · rw [hfit]
        exact q _ (s5.trans s')
      · exact ⟨_, rfl, _, rfl, fun d hd' => hbad (.arg i) (by
          unfold stE
          rw [hfn]
          dsimp only
          rw [if_pos (List.any_eq_true.mpr ⟨c, hcm, by rw [hpo, hfit]; rfl⟩)]) H' d ((s03.trans s4).trans s') hd'⟩
  rintro σ H5 ⟨v4, v5, v6, rfl, s5, hfits⟩
  rw [hcl] at hfits
  have hfits := take_all hfits
  have hany : st.calls.any (fun c => !fitB c.2 (parOf hs c.1)) = false := List.any_eq_false.mpr fun c hc => by rw [hfits c hc]; exact Bool.false_ne_true
  have s05 := (s03.trans s4).trans s5
  -- the finally
  have hv5 := hv.mono (TK.of s05)
  rw [dS_is] at hv5
  obtain ⟨r, _, rfl, hr0, x0, ps, rfl, hx0, hps⟩ := hv5
  have hx0 : x0 = .str st.word := hx0
  subst hx0
  dsimp only
  rcases word_try st with ⟨x, h, y, rfl⟩ | hw
  · obtain ⟨p1, _, rfl, _, p2, _, rfl, _, p3, _, rfl, hp3, rfl⟩ := hps
    have hy : max x.ht (max h.ht y.ht) + 1 ≤ 7 := hht
    have hys : x.sz + h.sz + y.sz + 1 ≤ 1000 := hsz
    cases hbr : (listB y).any barB with
    | false =>
      have hfin : finB (.tr x h y) = true := by show (!(listB y).any barB) = true; rw [hbr]; rfl
      refine st_noH (P := fun H' => Same H5 H') (ansH_and (fun Q q => ⟨_, rfl, r, _, _, _, rfl, rfl, .inl (.inl hr0), atI_nat (j := 0) rfl, rfl, _, rfl, (by rw [show decide (V.str (TS.word (.tr x h y)) = V.str "try") = true from decide_eq_true rfl]; exact q)⟩) (fun Q q => ⟨_, rfl, r, _, _, _, rfl, rfl, .inl (.inl hr0), atI_nat (j := 3) rfl, p3, y, rfl, hp3, hF.2.2.2, by omega, by omega, fun H' s' => ⟨_, rfl, ?_⟩⟩)) (fun H' s' => q (by unfold stE; rw [hfn]; dsimp only; rw [hany, hfin]; rfl) H' (s05.trans s'))
      rw [hbr]
      exact q _ s'
    | true =>
      have hfin : finB (.tr x h y) = false := by show (!(listB y).any barB) = false; rw [hbr]; rfl
      refine st_yesH (P := fun H' => Same H5 H') (ansH_and (fun Q q => ⟨_, rfl, r, _, _, _, rfl, rfl, .inl (.inl hr0), atI_nat (j := 0) rfl, rfl, _, rfl, (by rw [show decide (V.str (TS.word (.tr x h y)) = V.str "try") = true from decide_eq_true rfl]; exact q)⟩) (fun Q q => ⟨_, rfl, r, _, _, _, rfl, rfl, .inl (.inl hr0), atI_nat (j := 3) rfl, p3, y, rfl, hp3, hF.2.2.2, by omega, by omega, fun H' s' => ⟨_, rfl, ?_⟩⟩)) (fun H' s' => ?_)
      · rw [hbr]
        exact q _ s'
      · exact ⟨_, rfl, _, rfl, fun d hd' => hbad (.fin i) (by unfold stE; rw [hfn]; dsimp only; rw [hany, hfin]; rfl) H' d (s05.trans s') hd'⟩
  · refine st_no (ans_and0 (fun Q q => ⟨_, rfl, r, _, _, _, rfl, rfl, .inl (.inl hr0), atI_nat (j := 0) rfl, rfl, _, rfl, (by rw [hw]; exact q)⟩)) (q ?_ H5 s05)
    have hfin : finB st = true := by
      cases st with
      | tr x h y => exact absurd hw (by rw [show decide (V.str (TS.word (.tr x h y)) = V.str "try") = true from decide_eq_true rfl]; exact fun z => by cases z)
      | _ => rfl
    unfold stE
    rw [hfn]
    dsimp only
    rw [hany, hfin]
    rfl
end
end K10
namespace K10
open PySem PySem.Spec PyProof.Rows L2 TL
/-! ### the first error of a tree -/
def allN (t : Tree) : List Str := t.gs ++ t.ks ++ t.fs.map (·.nm)
def ownN (t : Tree) (f : FnT) : List Str := f.ps.map (·.1) ++ localsT t.gs f
def ownE (t : Tree) (f : FnT) : Option Er := dupE (t.gs ++ t.ks ++ t.fs.map (·.nm) ++ (f.ps.map (·.1) ++ localsT t.gs f))
def keepE (t : Tree) (e : Ex) : Option Er := unkE t.gs (e.2.map (·.1))
def bodyE (t : Tree) (f : FnT) : Option Er := (listB f.bk).zipIdx.findSome? fun p => stE (t.gs ++ (f.ps.map (·.1) ++ localsT t.gs f)) t.ks (t.fs.map hdOf) p.2 p.1
def treeE (t : Tree) : Option Er :=
  match dupE (t.gs ++ t.ks ++ t.fs.map (·.nm)) with
  | some e => some e
  | none => match t.fs.findSome? (ownE t) with
    | some e => some e
    | none => match t.kp.findSome? (keepE t) with
      | some e => some e
      | none => t.fs.findSome? (bodyE t)
theorem treeE_nd {t : Tree} (h : treeE t = none) : dupE (t.gs ++ t.ks ++ t.fs.map (·.nm)) = none := by
  unfold treeE at h
  cases e : dupE (t.gs ++ t.ks ++ t.fs.map (·.nm)) with
  | none => rfl
  | some x => rw [e] at h; cases h
def spNamesX (a : Ads) : Sp := fun vs H Q E => ∃ (v : V) (t : Tree), vs = [v] ∧ Dv H v (dT t) ∧ TreeF t ∧ TreeSz t ∧ endO a Q E H (treeE t)
def spPrgX (a : Ads) : Sp := fun vs H Q E => ∃ (o dx : Addr) (v : V) (t : Tree), vs = [.ref o, v] ∧ H o = some (.ins a.c_Program dx []) ∧ Dv H v (dT t) ∧ TreeF t ∧ TreeSz t ∧ (∀ e, treeE t = some e → erOut a E e H) ∧
  (treeE t = none → ∀ H', PrgAt a.c_Program H' o t → (∀ b x, H b = some x → b ≠ o → H' b = some x) → Q .non H')
section
variable {P : Program} {w : World} {K : PySem.W.Frag} {mg : Str → Option Value} {base : Heap} {a : Ads}
theorem ok_check_namesX (T : Txt K mg a) {tS tU tF : Addr} (B : Tabs K w mg a tS tU tF) : FnOk P w K mg base (L2N.CX P w) 14 a.f_check_names a.f_check_names_d ["tree"] (spNamesX a) := by
  refine okY T.F_check_names sc_check_names (fun vs H Q E h => ?_) (fun cdv A outer s H vs Q E hr h => ?_)
  · obtain ⟨v, t, rfl, _⟩ := h
    rfl
  obtain ⟨v, t, rfl, hv, hF, hZ, hbad, q⟩ := h
  refine ⟨_, (pss_cons (ps_asg (pv 0) (pg_tup (by rfl) (pgs_cons (pg_name (i := 4) sc_check_names.nd rfl (Or.inl rfl)) (pgs_cons (pg_name (i := 5) sc_check_names.nd rfl (Or.inl rfl)) (pgs_cons (pg_name (i := 6) sc_check_names.nd rfl (Or.inl rfl)) (pgs_cons (pg_name (i := 7) sc_check_names.nd rfl (Or.inl rfl)) pgs_nil))))))
    (pss_cons (ps_set (i := 1) sc_check_names.nd rfl (Or.inl rfl) (pe_callTy call_tuple_of (by rfl) T.tuple (by decide +kernel) (pa_cons (pe_lc (own := [("function", 3)]) (g := gName 3) (tt := tYes) (by rfl) sc_check_names.nd (pi_tup (pv 7)) (blkOk_by (own := [("function", 3)]) (N := ["tree", "names", "params", "function", "variables", "kinds", "keeps", "functions", "_", "terms", "known", "place", "statement", "name"]) (sc := defScope s_check_names) (by decide +kernel)) (fun _ _ _ _ _ => pg_name (i := 3) sc_check_names.nd rfl (Or.inl rfl)) (fun _ _ _ _ _ => pts_nil) (fun _ _ _ _ _ => (pe_ix (show IxR _ (rIxT K) from ix_tup) (pv 3) pe_int (fun _ _ => rfl)))) pa_nil)))
    (pss_cons (EnT.ps_setDc (i := 2) (own := [("function", 3)]) (g := gName 3) (tt := tYes) (by rfl) sc_check_names.nd rfl rfl (EnT.sw_dict rfl rfl rfl (by decide +kernel)) (pi_tup (pv 7)) (blkOk_by (own := [("function", 3)]) (N := ["tree", "names", "params", "function", "variables", "kinds", "keeps", "functions", "_", "terms", "known", "place", "statement", "name"]) (sc := defScope s_check_names) (by decide +kernel)) (fun _ _ _ _ _ => pg_name (i := 3) sc_check_names.nd rfl (Or.inl rfl)) (fun _ _ _ _ _ => pts_nil) (fun _ _ _ _ _ => (pe_ix (show IxR _ (rIxT K) from ix_tup) (pv 3) pe_int (fun _ _ => rfl))) (fun _ _ _ _ _ => (pe_ix (show IxR _ (rIxT K) from ix_tup) (pv 3) pe_int (fun _ _ => rfl))))
    (pss_cons (ps_expr (pe_call (E := fun cls d H => E cls d H) (ok_check_differentX T) (hr.mono (by decide)) (by rfl) T.g_check_different T.F_check_different.kp T.b_check_different .nil (fun pins σ => L2N.passAt (L2N.takes_of rfl rfl rfl rfl) σ pins) (pa_cons (pe_op op_catA (pe_op op_catA (pv 4) (pv 5)) (pv 1)) pa_nil)))
    (pss_cons (ps_for (passes_of rfl) rfl (pi_tup (pv 7)) (pg_name (i := 3) sc_check_names.nd rfl (Or.inl rfl))
      (pss_one (ps_expr (pe_call (E := fun cls d H => E cls d H) (ok_check_differentX T) (hr.mono (by decide)) (by rfl) T.g_check_different T.F_check_different.kp T.b_check_different .nil (fun pins σ => L2N.passAt (L2N.takes_of rfl rfl rfl rfl) σ pins) (pa_cons (pe_op op_catA (pe_op op_catA (pe_op op_catA (pv 4) (pv 5)) (pv 1)) (pe_call (ok_own_names T B) (hr.mono (by decide)) (by rfl) T.g_own_names T.F_own_names.kp T.b_own_names .nil pass0 (pa_cons (pv 4) (pa_cons (pv 3) pa_nil)))) pa_nil)))))
    (pss_cons (ps_for (passes_of rfl) rfl (pi_tup (pv 6)) (pg_tup (by rfl) (pgs_cons (pg_name (i := 8) sc_check_names.nd rfl (Or.inl rfl)) (pgs_cons (pg_name (i := 9) sc_check_names.nd rfl (Or.inl rfl)) pgs_nil)))
      (pss_one (ps_expr (pe_call (E := fun cls d H => E cls d H) (ok_check_knownX T) (hr.mono (by decide)) (by rfl) T.g_check_known T.F_check_known.kp T.b_check_known .nil (fun pins σ => L2N.passAt (L2N.takes_of rfl rfl rfl rfl) σ pins) (pa_cons (pe_lc (own := [("name", 13), ("_", 8)]) (g := gTup K 2 (gCons (gName 13) (gCons (gName 8) gNil))) (tt := tYes) (by rfl) sc_check_names.nd (pi_tup (pv 9)) (blkOk_by (own := [("name", 13), ("_", 8)]) (N := ["tree", "names", "params", "function", "variables", "kinds", "keeps", "functions", "_", "terms", "known", "place", "statement", "name"]) (sc := defScope s_check_names) (by decide +kernel)) (fun _ _ _ _ _ => pg_tup (by rfl) (pgs_cons (pg_name (i := 13) sc_check_names.nd rfl (Or.inl rfl)) (pgs_cons (pg_name (i := 8) sc_check_names.nd rfl (Or.inl rfl)) pgs_nil))) (fun _ _ _ _ _ => pts_nil) (fun _ _ _ _ _ => (pv 13))) (pa_cons (pv 4) pa_nil))))))
    (pss_one (ps_for (passes_of rfl) rfl (pi_tup (pv 7)) (pg_name (i := 3) sc_check_names.nd rfl (Or.inl rfl))
      (pss_cons (ps_set (i := 10) sc_check_names.nd rfl (Or.inl rfl) (pe_disp (pps_cons pe_str (pe_op op_catA (pv 4) (pe_call (ok_own_names T B) (hr.mono (by decide)) (by rfl) T.g_own_names T.F_own_names.kp T.b_own_names .nil pass0 (pa_cons (pv 4) (pa_cons (pv 3) pa_nil)))) (pps_cons pe_str (pv 5) (pps_cons pe_str (pv 1) pps_nil))) rfl rfl (by simp) (by decide)))
      (pss_one (ps_for (passes_of rfl) rfl (pi_enum (by rfl) T.enumerate (pa_cons (pe_call (ok_listed T B 8) (hr.mono (by decide)) (by rfl) T.g_listed T.F_listed.kp T.b_listed .nil pass0 (pa_cons (pe_ix ix_tup (pv 3) pe_int (fun _ _ => rfl)) pa_nil)) pa_nil)) (pg_tup (by rfl) (pgs_cons (pg_name (i := 11) sc_check_names.nd rfl (Or.inl rfl)) (pgs_cons (pg_name (i := 12) sc_check_names.nd rfl (Or.inl rfl)) pgs_nil)))
        (pss_one (ps_expr (pe_call (E := fun cls d H => E cls d H) (ok_check_statementX T B) (hr.mono (by decide)) (by rfl) T.g_check_statement T.F_check_statement.kp T.b_check_statement .nil (fun pins σ => L2N.passAt (L2N.takes_of rfl rfl rfl rfl) σ pins) (pa_cons (pv 11) (pa_cons (pv 12) (pa_cons (pv 10) (pa_cons (pv 2) pa_nil)))))))))))))))))), ?_⟩
  have hgl := hZ.g
  have hkl := hZ.k
  have hfl := hZ.f
  obtain ⟨r, _, rfl, hr0, y1, _, rfl, hy1, y2, _, rfl, hy2, y3, _, rfl, hy3, y4, _, rfl, hy4, rfl⟩ := hv
  obtain ⟨pg, rfl, hpg⟩ := hy1.strs
  obtain ⟨pk, rfl, hpk⟩ := hy2.strs
  obtain ⟨pe, ex, rfl, hpe, hex⟩ := hy3
  obtain ⟨pf, fx, rfl, hpf, hfx⟩ := hy4
  have hexl := hex.len
  rw [List.length_map] at hexl
  have hfxl := hfx.len
  rw [List.length_map] at hfxl
  refine st_seq ⟨_, rfl, r, _, rfl, .inl (.inl hr0), rfl, .ref pg, _, rfl, .ref pk, _, rfl, .ref pe, _, rfl, .ref pf, [], rfl, rfl, ?_⟩
  dsimp only [gName]
  -- the names of the functions
  refine st_seq ⟨_, rfl, pf, rfl, ⟨_, .inl (.inl hpf)⟩, fun M nM => lc_tupD (fun _ => true) fstD nM hpf hfx (by rw [List.length_map]; omega) (fun x d H' Q M' hd hxd s1 hy _ => ?_) (fun H1 zs s1 hM hz => ?_)⟩
  · obtain ⟨f, hf, rfl⟩ := List.mem_map.mp hd
    obtain ⟨r3, _, rfl, hr3, a1, _, rfl, ha1, _⟩ := hxd
    exact ⟨rfl, _, rfl, r3, _, _, _, rfl, rfl, .inl (.inl hr3), atI_nat (j := 0) rfl, hy rfl _ H' (Same.refl _) ha1⟩
  rw [filter_yes, List.map_map] at hz
  have hz2 : zs = (t.fs.map (·.nm)).map V.str := by
    have : Dvs H1 zs (DL.of ((t.fs.map (·.nm)).map D.str)) := by
      rw [List.map_map]
      exact hz
    exact this.strs
  subst hz2
  refine ⟨M, _, rfl, .inl ⟨SqL.of hM, fun pn np => ?_⟩⟩
  have s2 := s1.trans (same_upd (o := .tup ((t.fs.map (·.nm)).map V.str)) np)
  have hpn : (upd H1 pn (.tup ((t.fs.map (·.nm)).map V.str))) pn = some (.tup ((t.fs.map (·.nm)).map V.str)) := upd_same
  dsimp only [gName]
  generalize upd H1 pn (.tup ((t.fs.map (·.nm)).map V.str)) = H2 at s2 hpn
  -- the parameters of the functions
  refine st_seq ⟨_, rfl, pf, rfl, ⟨_, .inl (.inl (s2 _ _ hpf))⟩, fun Dd nD => it_tup (K := K) (a := pf) (xs := fx) (fun i H' => Same H2 H' ∧ ∃ kvs, H' Dd = some (.dK kvs) ∧ kvs.length ≤ i ∧ ((t.fs.map (·.nm)).Nodup → ∀ h ∈ (t.fs.take i).map hdOf, ∃ v, valV kvs (.inr h.1) = some v ∧ Dv H' v (.tup (DL.of (h.2.map dPa))))) ⟨same_upd nD, [], upd_same, Nat.zero_le _, fun _ h hh => by cases hh⟩ (fun i H' _ hh => .inl (.inl (hh.1 _ _ (s2 _ _ hpf)))) ?_ ?_⟩
  · rintro i x H3 hi ⟨s3, kvs, hD, hkvl, hall⟩
    have hil := (List.getElem?_eq_some_iff.mp hi).1
    obtain ⟨f, hf, hxd⟩ := (hfx.mono (TK.of (s2.trans s3))).fn_get hi
    obtain ⟨r3, _, rfl, hr3, a1, _, rfl, ha1, a2, _, rfl, ha2, a3, _, rfl, _, rfl⟩ := hxd
    have ha1 : a1 = .str f.nm := ha1
    subst ha1
    have tk : TK H3 (upd H3 Dd (.dK (putK kvs (Sum.inr f.nm) a2))) := TK.upd hD (fun _ z => by cases z)
    refine ⟨rfl, _, rfl, r3, _, _, _, rfl, rfl, .inl (.inl hr3), atI_nat (j := 0) rfl, _, rfl, r3, _, _, _, rfl, rfl, .inl (.inl hr3), atI_nat (j := 1) rfl, kvs, Sum.inr f.nm, rfl, hD, bigLine (by omega), same_mut s3 nD, _, upd_same, Nat.le_trans (putK_le _ _ _) (by omega), fun hnd h hh => ?_⟩
    rw [valV_put]
    by_cases e : (Sum.inr h.1 : Key) = Sum.inr f.nm
    · rw [if_pos e]
      rw [List.take_add_one, hf, List.map_append] at hh
      have he : h = hdOf f := by
        rcases List.mem_append.mp hh with hh | hh
        · obtain ⟨g, hg, rfl⟩ := List.mem_map.mp hh
          obtain ⟨j, hj⟩ := List.mem_iff_getElem?.mp hg
          have hjl : j < i := by
            have := (List.getElem?_eq_some_iff.mp hj).1
            rw [List.length_take] at this
            omega
          rw [List.getElem?_take_of_lt hjl] at hj
          have e1 : (t.fs.map (·.nm))[j]? = (t.fs.map (·.nm))[i]? := by
            rw [List.getElem?_map, List.getElem?_map, hj, hf]
            exact congrArg some (Sum.inr.inj e)
          have := (List.getElem?_inj (by rw [List.length_map]; omega) hnd).mp e1
          omega
        · exact List.mem_singleton.mp hh
      subst he
      exact ⟨a2, rfl, ha2.mono tk⟩
    · rw [if_neg e]
      rw [List.take_add_one, hf, List.map_append] at hh
      rcases List.mem_append.mp hh with hh | hh
      · obtain ⟨v, h1, h2⟩ := hall hnd h hh
        exact ⟨v, h1, h2.mono tk⟩
      · rw [List.mem_singleton.mp hh] at e
        exact absurd rfl e
  rintro H3 ⟨s3, kvs, hD, _, hall⟩
  rw [hfxl, List.take_length] at hall
  have hPA : (t.fs.map (·.nm)).Nodup → ParamsAt H3 Dd (t.fs.map hdOf) := fun hnd => ⟨kvs, hD, hall hnd⟩
  have s03 := s2.trans s3
  have hpn3 := s3 _ _ hpn
  clear hD hall s3 nD
  dsimp only [gName]
  -- all different
  have cat3 : ∀ {H' : Hp} {σ : L2.St} {Q : VK}, σ[1]? = some (some (V.ref pn)) → Same H3 H' → (∀ H'' p, Same H' H'' → H'' p = some (.tup ((t.gs ++ t.ks ++ t.fs.map (·.nm)).map V.str)) → Q (.ref p) H'') → rCatA K (.ref pg) (.ref pk) H' (fun x H1 => tVar 1 σ H1 fun y H2 => rCatA K x y H2 Q) := by
    intro H' σ Q hσ s' k
    refine cat_any ((s03.trans s') _ _ hpg) ((s03.trans s') _ _ hpk) (bigLe (by rw [List.length_map, List.length_map]; omega)) fun H4 p4 s4 h4 => ⟨_, hσ, ?_⟩
    refine cat_any h4 ((s'.trans s4) _ _ hpn3) (bigLe (by rw [List.length_append, List.length_map, List.length_map, List.length_map, List.length_map]; omega)) fun H5 p5 s5 h5 => ?_
    refine k H5 p5 (s4.trans s5) ?_
    rw [h5, List.map_append, List.map_append]
  refine st_seq ⟨_, rfl, _, rfl, cat3 rfl (Same.refl _) fun H4 p4 s4 h4 => ⟨p4, _, rfl, h4, by rw [List.length_append, List.length_append, List.length_map]; omega, fun e he => (hbad e (by unfold treeE; rw [he])).same (s03.trans s4), fun hd1 H5 s5 => ?_⟩⟩
  have hnd3 := dupE_nodup hd1
  have hndf : (t.fs.map (·.nm)).Nodup := (List.nodup_append.mp hnd3).2.1
  have hPA := hPA hndf
  have s35 := s4.trans s5
  clear h4 s4 s5
  dsimp only
  -- each function's own
  refine st_seq ⟨_, rfl, pf, rfl, ⟨_, .inl (.inl ((s03.trans s35) _ _ hpf))⟩, for_tup (K := K) (a := pf) (xs := fx) (fun i σ H' => ∃ v3 : Option V, σ = [some (.ref r), some (.ref pn), some (.ref Dd), v3, some (.ref pg), some (.ref pk), some (.ref pe), some (.ref pf), none, none, none, none, none, none] ∧ Same H3 H' ∧ ∀ f ∈ t.fs.take i, ownE t f = none)
    ⟨none, rfl, s35, fun f hf => by cases hf⟩ (fun i σ H' _ ⟨_, _, h, _⟩ => .inl (.inl ((s03.trans h) _ _ hpf))) ?_ ?_⟩
  · rintro i x σ H6 hi ⟨v3, rfl, s6, hokf⟩
    obtain ⟨f, hf, hxd⟩ := (hfx.mono (TK.of (s03.trans s6))).fn_get hi
    have hm := List.mem_of_getElem? hf
    obtain ⟨z1, z2, z3, z4⟩ := hZ.ps f hm
    have hsz := hZ.sz hm
    dsimp only [gName]
    refine ⟨_, rfl, _, rfl, cat3 rfl s6 fun H7 p7 s7 h7 => ⟨_, rfl, _, rfl, .ref pg, x, t.gs, f, rfl, Dv.of_strs' (((s03.trans s6).trans s7) _ _ hpg), hxd.mono (TK.of s7), by omega, by omega, (hF.fs f hm).bk, by omega, by omega, fun H8 p8 s8 h8 => ?_⟩⟩
    refine cat_any (s8 _ _ h7) h8 (bigLe (by simp only [List.length_map, List.length_append]; omega)) fun H9 p9 s9 h9 => ?_
    refine ⟨p9, _, rfl, (by rw [h9, ← List.map_append]), by simp only [List.length_map, List.length_append]; omega, fun e he => (hbad e (by unfold treeE; rw [hd1, fs_at hokf hf he])).same (s03.trans (((s6.trans s7).trans s8).trans s9)), fun hn H10 s10 => ⟨_, rfl, (((s6.trans s7).trans s8).trans s9).trans s10, take_more hokf hf hn⟩⟩
  rintro σ H6 ⟨v3, rfl, s6, hokf⟩
  rw [hfxl] at hokf
  have hd2 := fs_no (take_all hokf)
  dsimp only
  -- the keeps
  refine st_seq ⟨_, rfl, pe, rfl, ⟨_, .inl (.inl ((s03.trans s6) _ _ hpe))⟩, for_tup (K := K) (a := pe) (xs := ex) (fun i σ H' => ∃ (v8 v9 : Option V), σ = [some (.ref r), some (.ref pn), some (.ref Dd), v3, some (.ref pg), some (.ref pk), some (.ref pe), some (.ref pf), v8, v9, none, none, none, none] ∧ Same H3 H' ∧ ∀ e ∈ t.kp.take i, keepE t e = none)
    ⟨none, none, rfl, s6, fun f hf => by cases hf⟩ (fun i σ H' _ ⟨_, _, _, h, _⟩ => .inl (.inl ((s03.trans h) _ _ hpe))) ?_ ?_⟩
  · rintro i x σ H7 hi ⟨v8, v9, rfl, s7, hokk⟩
    obtain ⟨e, he, hxd⟩ := (hex.mono (TK.of (s03.trans s7))).ex_get hi
    have hm := List.mem_of_getElem? he
    have heF := (hF.kp e hm).1
    obtain ⟨r2, _, rfl, hr2, b1, _, rfl, hb1, b2, _, rfl, hb2, rfl⟩ := hxd
    obtain ⟨pt, tx, rfl, hpt, htx⟩ := hb2
    refine ⟨r2, _, rfl, .inl (.inl hr2), rfl, b1, _, rfl, .ref pt, [], rfl, rfl, ?_⟩
    dsimp only [gName]
    refine ⟨_, rfl, pt, rfl, ⟨_, .inl (.inl hpt)⟩, fun M nM => lc_tupD (fun _ => true) fstD nM hpt htx (by rw [List.length_map]; exact Nat.le_trans heF.len (by decide)) (fun x d H' Q M' hd hxd s1 hy _ => ?_) (fun H8 zs s8 hM hz => ?_)⟩
    · obtain ⟨tm, _, rfl⟩ := List.mem_map.mp hd
      obtain ⟨r3, _, rfl, hr3, a1, _, rfl, ha1, a2, _, rfl, _, rfl⟩ := hxd
      exact ⟨r3, _, rfl, .inl (.inl hr3), rfl, a1, _, rfl, a2, [], rfl, rfl, rfl, _, rfl, hy rfl _ H' (Same.refl _) ha1⟩
    rw [filter_yes, List.map_map] at hz
    have hz2 : zs = (e.2.map (·.1)).map V.str := by
      have : Dvs H8 zs (DL.of ((e.2.map (·.1)).map D.str)) := by
        rw [List.map_map]
        exact hz
      exact this.strs
    subst hz2
    refine ⟨_, rfl, M, pg, e.2.map (·.1), t.gs, rfl, hM, ((s03.trans s7).trans s8) _ _ hpg, fun er he' => (hbad er (by unfold treeE; rw [hd1, hd2, fs_at hokk he he'])).same (s03.trans (s7.trans s8)), fun hn H9 s9 => ⟨_, _, rfl, (s7.trans s8).trans s9, take_more hokk he (by unfold keepE; exact hn)⟩⟩
  rintro σ H7 ⟨v8, v9, rfl, s7, hokk⟩
  rw [hexl] at hokk
  have hd3 := fs_no (take_all hokk)
  dsimp only
  -- the statements
  refine ⟨_, rfl, pf, rfl, ⟨_, .inl (.inl ((s03.trans s7) _ _ hpf))⟩, for_tup (K := K) (a := pf) (xs := fx) (fun i σ H' => ∃ (v3 v10 v11 v12 : Option V), σ = [some (.ref r), some (.ref pn), some (.ref Dd), v3, some (.ref pg), some (.ref pk), some (.ref pe), some (.ref pf), v8, v9, v10, v11, v12, none] ∧ Same H3 H' ∧ ∀ f ∈ t.fs.take i, bodyE t f = none)
    ⟨v3, none, none, none, rfl, s7, fun f hf => by cases hf⟩ (fun i σ H' _ ⟨_, _, _, _, _, h, _⟩ => .inl (.inl ((s03.trans h) _ _ hpf))) ?_ ?_⟩
  · rintro i x σ H8 hi ⟨v3, v10, v11, v12, rfl, s8, hokb⟩
    obtain ⟨f, hf, hxd⟩ := (hfx.mono (TK.of (s03.trans s8))).fn_get hi
    have hm := List.mem_of_getElem? hf
    obtain ⟨z1, z2, z3, z4⟩ := hZ.ps f hm
    have hsz := hZ.sz hm
    have hfF := hF.fs f hm
    dsimp only [gName]
    refine st_seq fun kd nkd => ?_
    have s9 := same_upd (o := .dK []) nkd
    have hkd : (upd H8 kd (.dK [])) kd = some (.dK []) := upd_same
    generalize upd H8 kd (.dK []) = H9 at s9 hkd
    refine ⟨_, rfl, _, rfl, _, rfl, .ref pg, x, t.gs, f, rfl, Dv.of_strs' (((s03.trans s8).trans s9) _ _ hpg), hxd.mono (TK.of s9), by omega, by omega, hfF.bk, by omega, by omega, fun H10 p10 s10 h10 => ?_⟩
    have s810 := (s8.trans s9).trans s10
    refine cat_any ((s03.trans s810) _ _ hpg) h10 (bigLe (by simp only [List.length_map, List.length_append]; omega)) fun H11 p11 s11 h11 => ?_
    rw [← List.map_append] at h11
    have s811 := s810.trans s11
    refine ⟨_, rfl, _, rfl, (s10.trans s11) _ _ hkd, [(kk "variable", .ref p11), (kk "kind", .ref pk), (kk "function", .ref pn)], rfl, (by show 3 ≤ 15; decide), ?_⟩
    obtain ⟨m1, m2, m3⟩ := kn_merge (.ref p11) (.ref pk) (.ref pn)
    have hkd11 := (s10.trans s11) _ _ hkd
    generalize mergeK [] [(kk "variable", V.ref p11), (kk "kind", .ref pk), (kk "function", .ref pn)] = kvs at m1 m2 m3
    have nkd3 : H3 kd = none := s8.free nkd
    have s12 : Same H3 (upd H11 kd (.dK kvs)) := same_mut s811 nkd3
    have hkd12 : (upd H11 kd (.dK kvs)) kd = some (.dK kvs) := upd_same
    have tk12 : TK H11 (upd H11 kd (.dK kvs)) := TK.upd hkd11 (fun _ z => by cases z)
    have h12 := tk12 _ _ h11
    dsimp only [gName]
    generalize upd H11 kd (.dK kvs) = H12 at s12 hkd12 h12
    have hKn : KnownAt H12 kd (t.gs ++ (f.ps.map (·.1) ++ localsT t.gs f)) t.ks ((t.fs.map hdOf).map (·.1)) := ⟨kvs, p11, pk, pn, hkd12, m1, h12, m2, (s03.trans s12) _ _ hpk, m3, by rw [hd_nms]; exact s12 _ _ hpn3⟩
    have hx12 := (hfx.mono (TK.of (s03.trans s12))).fn_get hi
    obtain ⟨f', hf', hxd'⟩ := hx12
    have : f' = f := Option.some.inj (hf'.symm.trans hf)
    subst this
    obtain ⟨r3, _, rfl, hr3, a1, _, rfl, ha1, a2, _, rfl, ha2, a3, _, rfl, ha3, rfl⟩ := hxd'
    refine ⟨_, rfl, r3, _, _, _, rfl, rfl, .inl (.inl hr3), atI_nat (j := 2) rfl, a3, f'.bk, rfl, ha3, hfF.bk, Nat.le_trans z4 (by decide), by omega, fun H13 L ls s13 nL hL hls => ?_⟩
    have hll := hls.len
    rw [List.length_map] at hll
    refine ⟨L, ls, rfl, SqL.of hL, for_any ls.length (fun j σ H' => ∃ (v11 v12 : Option V), σ = [some (.ref r), some (.ref pn), some (.ref Dd), some (.ref r3), some (.ref pg), some (.ref pk), some (.ref pe), some (.ref pf), v8, v9, some (.ref kd), v11, v12, none] ∧ Same H13 H' ∧ ∀ p ∈ (listB f'.bk).zipIdx.take j, stE (t.gs ++ (f'.ps.map (·.1) ++ localsT t.gs f')) t.ks (t.fs.map hdOf) p.2 p.1 = none)
      ⟨v11, v12, rfl, Same.refl _, fun p hp => by cases hp⟩ (fun j σ H' hj ⟨_, _, _, h, _⟩ => ⟨ls, ls[j], SqL.of (h _ _ hL), List.getElem?_eq_getElem hj⟩) (fun σ H' ⟨_, _, _, h, _⟩ => ⟨ls, SqL.of (h _ _ hL), Nat.le_refl _⟩) ?_ ?_⟩
    · rintro j y σ H14 H15 hj ⟨v11, v12, rfl, s14, hoks⟩ ⟨c, y1, rfl, nc, rfl, hy1⟩
      have hy1 := hy1 ls (SqL.of (s14 _ _ hL))
      obtain ⟨d, hd, hyd⟩ := (hls.mono (TK.of s14)).get hy1
      obtain ⟨st, hst, rfl⟩ := get_map hd
      have hsm := List.mem_of_getElem? hst
      obtain ⟨g1, g2⟩ := listB_hz st hsm
      have sc := same_upd (o := .tup [.int (j : Nat), y1]) nc
      have hzi : (listB f'.bk).zipIdx[j]? = some (st, j) := by rw [List.getElem?_zipIdx, hst]; exact congrArg (fun n => some (st, n)) (Nat.zero_add j)
      refine ⟨c, _, rfl, .inl (.inl upd_same), rfl, _, _, rfl, y1, [], rfl, rfl, ?_⟩
      dsimp only [gName]
      have sk := (s12.trans s13).trans (s14.trans sc)
      refine ⟨_, rfl, _, rfl, _, rfl, _, rfl, (j : Nat), y1, kd, Dd, st, _, t.ks, t.fs.map hdOf, rfl, hyd.mono (TK.of sc), listB_F hfF.bk st hsm, by omega, by omega, hKn.same (s13.trans (s14.trans sc)), hPA.same sk, (fun h hh => by
        obtain ⟨g, hg, rfl⟩ := List.mem_map.mp hh
        exact Nat.le_trans (hZ.ps g hg).1 (by decide)), fun er he => (hbad er (by unfold treeE; rw [hd1, hd2, hd3]; exact fs_at hokb hf (fs_at hoks hzi he))).same (s03.trans sk), fun hn H16 s16 => ⟨_, _, rfl, (s14.trans sc).trans s16, take_more hoks hzi hn⟩⟩
    · rintro σ H14 ⟨v11, v12, rfl, s14, hoks⟩
      refine ⟨_, _, _, _, rfl, (s12.trans s13).trans s14, take_more hokb hf (fs_no (take_all (l := (listB f'.bk).zipIdx) ?_))⟩
      rw [List.length_zipIdx, ← hll]
      exact hoks
  · rintro σ H8 ⟨v3, v10, v11, v12, rfl, s8, hokb⟩
    rw [hfxl] at hokb
    exact q (by unfold treeE; rw [hd1, hd2, hd3]; exact fs_no (take_all hokb)) H8 (s03.trans s8)
theorem ok_Program___init__X (T : Txt K mg a) {tS tU tF : Addr} (B : Tabs K w mg a tS tU tF) : FnOk P w K mg base (L2N.CX P w) 38 a.f_Program___init__ a.f_Program___init___d ["self", "tree"] (spPrgX a) := by
  refine okY T.F_Program___init__ sc_Program___init__ (fun vs H Q E h => ?_) (fun cdv A outer s H vs Q E hr h => ?_)
  · obtain ⟨o, dx, v, t, rfl, _⟩ := h
    rfl
  obtain ⟨o, dx, v, t, rfl, ho, hv, hF, hZ, hbad, q⟩ := h
  refine ⟨_, (pss_cons (ps_if (pt_not (pt_val (pe_call (ok_is_tree T B) (hr.mono (by decide)) (by rfl) T.g_is_tree T.F_is_tree.kp T.b_is_tree .nil pass0 (pa_cons (pv 1) pa_nil))))
      (pss_one ps_never)
      pss_nil)
    (pss_cons (ps_expr (pe_call (ok_check_sizes T B) (hr.mono (by decide)) (by rfl) T.g_check_sizes T.F_check_sizes.kp T.b_check_sizes .nil pass0 (pa_cons (pv 1) pa_nil)))
    (pss_cons (ps_expr (pe_call (E := fun cls d H => E cls d H) (ok_check_namesX T B) (hr.mono (by decide)) (by rfl) T.g_check_names T.F_check_names.kp T.b_check_names .nil (fun pins σ => L2N.passAt (L2N.takes_of rfl rfl rfl rfl) σ pins) (pa_cons (pv 1) pa_nil)))
    (pss_cons (ps_fld (pv 0) (pe_ix ix_tup (pv 1) pe_int (fun _ _ => rfl)) rfl)
    (pss_cons (ps_fld (pv 0) (pv 1) rfl)
    (pss_one (ps_fld (pv 0) (pe_call (ok_named_functions T) (hr.mono (by decide)) (by rfl) T.g_named_functions T.F_named_functions.kp T.b_named_functions .nil pass0 (pa_cons (pv 1) pa_nil)) rfl))))))), ?_⟩
  refine st_seq (st_noH (P := fun H' => Same H H') (fun Q q => ⟨_, rfl, v, t, rfl, hv, hF, hZ, fun H1 s1 => ⟨_, rfl, q _ s1⟩⟩) fun H1 s1 => ?_)
  dsimp only [tNext]
  refine st_seq ⟨_, rfl, v, t, rfl, hv.mono (TK.of s1), hF, hZ, fun H2 s2 => ?_⟩
  have s02 := s1.trans s2
  dsimp only
  refine st_seq ⟨_, rfl, v, t, rfl, hv.mono (TK.of s02), hF, hZ, fun e he => (hbad e he).same s02, fun hok H3 s3 => ?_⟩
  have s03 := s02.trans s3
  clear s1 s2 s3 s02
  dsimp only
  have hv3 := hv.mono (TK.of s03)
  have hv3' := hv3
  obtain ⟨pt, _, rfl, hpt, y1, _, rfl, hy1, rest⟩ := hv3
  obtain ⟨pg, rfl, hpg⟩ := hy1.strs
  refine st_seq ⟨_, rfl, pt, _, _, _, rfl, rfl, .inl (.inl hpt), atI_nat (j := 0) rfl, _, rfl, o, _, dx, _, rfl, s03 _ _ ho, T.cl_Program, T.n_Program_globals, (by decide), ?_⟩
  have k4 : ∀ b x, H b = some x → b ≠ o → (upd H3 o (.ins a.c_Program dx (putF "globals" (.ref pg) []))) b = some x := fun b x e n => by rw [upd_ne n]; exact s03 _ _ e
  have ho4 : (upd H3 o (.ins a.c_Program dx (putF "globals" (.ref pg) []))) o = some (.ins a.c_Program dx [("globals", .ref pg)]) := upd_same
  have t4 : TK H3 (upd H3 o (.ins a.c_Program dx (putF "globals" (.ref pg) []))) := TK.upd (s03 _ _ ho) (fun _ z => by cases z)
  generalize upd H3 o (.ins a.c_Program dx (putF "globals" (.ref pg) [])) = H4 at k4 ho4 t4
  dsimp only
  refine st_seq ⟨_, rfl, _, rfl, o, _, dx, _, rfl, ho4, T.cl_Program, T.n_Program__tree, (by show 1 < 1000; decide), ?_⟩
  have k5 : ∀ b x, H b = some x → b ≠ o → (upd H4 o (.ins a.c_Program dx (putF "_tree" (.ref pt) [("globals", .ref pg)]))) b = some x := fun b x e n => by rw [upd_ne n]; exact k4 _ _ e n
  have ho5 : (upd H4 o (.ins a.c_Program dx (putF "_tree" (.ref pt) [("globals", .ref pg)]))) o = some (.ins a.c_Program dx (putF "_tree" (.ref pt) [("globals", .ref pg)])) := upd_same
  have t5 : TK H4 (upd H4 o (.ins a.c_Program dx (putF "_tree" (.ref pt) [("globals", .ref pg)]))) := TK.upd ho4 (fun _ z => by cases z)
  generalize upd H4 o (.ins a.c_Program dx (putF "_tree" (.ref pt) [("globals", .ref pg)])) = H5 at k5 ho5 t5
  have e5 : putF "_tree" (.ref pt) [("globals", V.ref pg)] = ([("globals", .ref pg), ("_tree", .ref pt)] : List (Str × V)) := rfl
  rw [e5] at ho5
  dsimp only
  have t35 := t4.trans t5
  refine ⟨_, rfl, .ref pt, t, rfl, hv3'.mono t35, Nat.le_trans hZ.f (by decide), (List.nodup_append.mp (dupE_nodup (treeE_nd hok))).2.1, fun H6 nd s6 nnd hnd => ?_⟩
  refine ⟨_, rfl, o, _, dx, _, rfl, s6 _ _ ho5, T.cl_Program, T.n_Program__named, (by show 2 < 1000; decide), ?_⟩
  have e6 : putF "_named" (.ref nd) [("globals", V.ref pg), ("_tree", .ref pt)] = ([("globals", .ref pg), ("_tree", .ref pt), ("_named", .ref nd)] : List (Str × V)) := rfl
  rw [e6]
  have t6 : TK H6 (upd H6 o (.ins a.c_Program dx [("globals", .ref pg), ("_tree", .ref pt), ("_named", .ref nd)])) := TK.upd (s6 _ _ ho5) (fun _ z => by cases z)
  have t36 := (t35.trans (TK.of s6)).trans t6
  have hno : nd ≠ o := fun z => by rw [z, ho5] at nnd; cases nnd
  obtain ⟨kvs, n1, n2, n3⟩ := hnd
  refine q hok _ ⟨dx, pg, pt, nd, _, upd_same, t36 _ _ hpt, hv3'.mono t36, kvs, by rw [upd_ne hno]; exact n1, n2, n3.mono t6⟩ fun b x e n => ?_
  rw [upd_ne n]
  exact s6 _ _ (k5 _ _ e n)
end
end K10
namespace K10
open PySem PySem.Spec PyProof.Rows L2 TL
/-! ### the law's own reading of statements -/
def ws5 : List Str := ["if", "while", "try", "undo", "with"]
def ws6 : List Str := ["set", "input", "call", "risk", "raise", "return"]
theorem ne65 : ∀ x ∈ ws6, ∀ y ∈ ws5, decide (V.str x = V.str y) = false := by decide +kernel
theorem ne_of_words {x y : Str} (h : (x == y) = false) : decide (V.str x = V.str y) = false := decide_eq_false fun e => by
  rw [V.str.inj e, beq_self_eq_true] at h
  cases h
theorem plain6 (p : P0) : TS.word (.pl p) ∈ ws6 := by
  cases p with
  | set _ _ => exact .head _
  | inp _ => exact .tail _ (.head _)
  | call _ _ _ => exact .tail _ (.tail _ (.head _))
  | risk _ => exact .tail _ (.tail _ (.tail _ (.head _)))
  | rse _ => exact .tail _ (.tail _ (.tail _ (.tail _ (.head _))))
  | ret _ => exact .tail _ (.tail _ (.tail _ (.tail _ (.tail _ (.head _)))))
theorem plain_blks (p : P0) : TS.blks (.pl p) = [] := by
  cases p <;> rfl
def spSizeL : Nat → Sp
  | 0 => fun _ _ _ _ => False
  | n + 1 => fun vs H Q _ => ∃ (v : V) (x : TB), vs = [v] ∧ Dv H v (dBk x) ∧ x.F ∧ x.ht ≤ n ∧ x.sz ≤ 1000 ∧ ∀ H', Same H H' → Q (.int x.sz) H'
def dNum (p : TS × Nat) : D := tp [.int p.2, dS p.1]
def spNumL : Nat → Sp
  | 0 => fun _ _ _ _ => False
  | n + 1 => fun vs H Q _ => ∃ (v : V) (x : TB) (k : Nat), vs = [v, .int k] ∧ Dv H v (dBk x) ∧ x.F ∧ x.ht ≤ n ∧ x.sz ≤ 1000 ∧ ∀ (H' : Hp) (L : Addr) (xs : List V), Same H H' → H L = none → H' L = some (.lst xs) → Dvs H' xs (DL.of (((listB x).zipIdx k).map dNum)) → Q (.ref L) H'
theorem cast_sum : ∀ l : List Nat, (l.map fun n : Nat => (n : Int)).sum = (l.sum : Nat)
  | [] => rfl
  | x :: r => by rw [List.map_cons, List.sum_cons, List.sum_cons, cast_sum r, Int.natCast_add]
section
variable {P : Program} {w : World} {K : PySem.W.Frag} {mg : Str → Option Value} {base : Heap} {a : Ads}
theorem sc__law_parts : FnScope ["_law_statement", "_law_handler"] ["_law_statement"] (defScope s__law_parts) := ⟨rfl, rfl, rfl, by decide +kernel, rfl, by decide +kernel, by decide +kernel⟩
theorem ok__law_parts (T : Txt K mg a) : FnOk P w K mg base CX0 2 a.f__law_parts a.f__law_parts_d ["_law_statement"] spBlocks := by
  refine T.F__law_parts.ok sc__law_parts (fun vs H Q E h => ?_) (fun cdv A outer s H vs Q E hr h => ?_)
  · obtain ⟨v, s, rfl, _⟩ := h
    rfl
  obtain ⟨v, st, rfl, hv, hF, q⟩ := h
  refine ⟨_, (pss_cons (ps_if (pt_cmpR op_eq (pe_ix ix_tup (pv 0) pe_int (fun _ _ => rfl)) pe_str (nomark _))
      (pss_one (ps_ret (pe_lst (pa_cons (pe_ix ix_tup (pv 0) pe_int (fun _ _ => rfl)) (pa_cons (pe_ix ix_tup (pv 0) pe_int (fun _ _ => rfl)) pa_nil)))))
      pss_nil)
    (pss_cons (ps_if (pt_cmpR op_eq (pe_ix ix_tup (pv 0) pe_int (fun _ _ => rfl)) pe_str (nomark _))
      (pss_one (ps_ret (pe_lst (pa_cons (pe_ix ix_tup (pv 0) pe_int (fun _ _ => rfl)) pa_nil))))
      pss_nil)
    (pss_cons (ps_if (pt_cmpR op_eq (pe_ix ix_tup (pv 0) pe_int (fun _ _ => rfl)) pe_str (nomark _))
      (pss_one (ps_ret (pe_op op_cat (pe_op op_cat (pe_lst (pa_cons (pe_ix ix_tup (pv 0) pe_int (fun _ _ => rfl)) pa_nil)) (pe_lc (own := [("_law_handler", 1)]) (g := gName 1) (tt := tYes) (by rfl) sc__law_parts.nd (pi_tup (pe_ix ix_tup (pv 0) pe_int (fun _ _ => rfl))) (blkOk_by (own := [("_law_handler", 1)]) (N := ["_law_statement", "_law_handler"]) (sc := defScope s__law_parts) (by decide +kernel)) (fun _ _ _ _ _ => pg_name (i := 1) sc__law_parts.nd rfl (Or.inl rfl)) (fun _ _ _ _ _ => pts_nil) (fun _ _ _ _ _ => (pe_ix (show IxR _ (rIxT K) from ix_tup) (pv 1) pe_int (fun _ _ => rfl))))) (pe_lst (pa_cons (pe_ix ix_tup (pv 0) pe_int (fun _ _ => rfl)) pa_nil)))))
      pss_nil)
    (pss_cons (ps_if (pt_cmpR op_eq (pe_ix ix_tup (pv 0) pe_int (fun _ _ => rfl)) pe_str (nomark _))
      (pss_one (ps_ret (pe_lst (pa_cons (pe_ix ix_tup (pv 0) pe_int (fun _ _ => rfl)) pa_nil))))
      pss_nil)
    (pss_cons (ps_if (pt_cmpR op_eq (pe_ix ix_tup (pv 0) pe_int (fun _ _ => rfl)) pe_str (nomark _))
      (pss_one (ps_ret (pe_lst (pa_cons (pe_ix ix_tup (pv 0) pe_int (fun _ _ => rfl)) pa_nil))))
      pss_nil)
    (pss_one (ps_ret (pe_lst pa_nil)))))))), ?_⟩
  rw [dS_is] at hv
  obtain ⟨r, _, rfl, hr0, x0, xs, rfl, hx0, hxs⟩ := hv
  have hx0 : x0 = .str st.word := hx0
  subst hx0
  cases st with
  | pl p =>
    have hb := plain_blks p
    have h6 := plain6 p
    obtain ⟨st0, e0⟩ : ∃ z : Str, z = TS.word (.pl p) := ⟨_, rfl⟩
    rw [← e0] at hr0 h6
    refine st_seq (st_no (fun Q q => ⟨_, rfl, r, _, _, _, rfl, rfl, .inl (.inl hr0), atI_nat (j := 0) rfl, rfl, _, rfl, (by rw [show decide (V.str st0 = V.str "if") = false from ne65 _ h6 _ (.head _)]; exact q)⟩) ?_)
    dsimp only [tNext]
    refine st_seq (st_no (fun Q q => ⟨_, rfl, r, _, _, _, rfl, rfl, .inl (.inl hr0), atI_nat (j := 0) rfl, rfl, _, rfl, (by rw [show decide (V.str st0 = V.str "while") = false from ne65 _ h6 _ (.tail _ (.head _))]; exact q)⟩) ?_)
    dsimp only [tNext]
    refine st_seq (st_no (fun Q q => ⟨_, rfl, r, _, _, _, rfl, rfl, .inl (.inl hr0), atI_nat (j := 0) rfl, rfl, _, rfl, (by rw [show decide (V.str st0 = V.str "try") = false from ne65 _ h6 _ (.tail _ (.tail _ (.head _)))]; exact q)⟩) ?_)
    dsimp only [tNext]
    refine st_seq (st_no (fun Q q => ⟨_, rfl, r, _, _, _, rfl, rfl, .inl (.inl hr0), atI_nat (j := 0) rfl, rfl, _, rfl, (by rw [show decide (V.str st0 = V.str "undo") = false from ne65 _ h6 _ (.tail _ (.tail _ (.tail _ (.head _))))]; exact q)⟩) ?_)
    dsimp only [tNext]
    refine st_seq (st_no (fun Q q => ⟨_, rfl, r, _, _, _, rfl, rfl, .inl (.inl hr0), atI_nat (j := 0) rfl, rfl, _, rfl, (by rw [show decide (V.str st0 = V.str "with") = false from ne65 _ h6 _ (.tail _ (.tail _ (.tail _ (.tail _ (.head _)))))]; exact q)⟩) ?_)
    dsimp only [tNext]
    refine ⟨Nat.zero_le _, fun L nL => q _ L [] (same_upd nL) nL upd_same (by rw [hb]; rfl)⟩
  | iff x y =>
    obtain ⟨st0, e0⟩ : ∃ z : Str, z = "if" := ⟨_, rfl⟩
    have hr0 : H r = some (.tup (.str st0 :: xs)) := by rw [e0]; exact hr0
    refine st_seq (st_yes (fun Q q => ⟨_, rfl, r, _, _, _, rfl, rfl, .inl (.inl hr0), atI_nat (j := 0) rfl, rfl, _, rfl, (by rw [show decide (V.str st0 = V.str "if") = true from by rw [e0]; exact decide_eq_true rfl]; exact q)⟩) ?_)
    obtain ⟨x1, _, rfl, h1, x2, _, rfl, h2, rfl⟩ := hxs
    refine ⟨_, rfl, r, _, _, _, rfl, rfl, .inl (.inl hr0), atI_nat (j := 1) rfl, _, rfl, r, _, _, _, rfl, rfl, .inl (.inl hr0), atI_nat (j := 2) rfl, two_le, fun L nL => ?_⟩
    have t := TK.of (same_upd (o := .lst [x1, x2]) nL)
    exact q _ L [x1, x2] (same_upd nL) nL upd_same ⟨x1, [x2], rfl, h1.mono t, x2, [], rfl, h2.mono t, rfl⟩
  | whl x =>
    obtain ⟨st0, e0⟩ : ∃ z : Str, z = "while" := ⟨_, rfl⟩
    have hr0 : H r = some (.tup (.str st0 :: xs)) := by rw [e0]; exact hr0
    refine st_seq (st_no (fun Q q => ⟨_, rfl, r, _, _, _, rfl, rfl, .inl (.inl hr0), atI_nat (j := 0) rfl, rfl, _, rfl, (by rw [show decide (V.str st0 = V.str "if") = false from by rw [e0]; exact ne_of_words (by decide +kernel)]; exact q)⟩) ?_)
    dsimp only [tNext]
    refine st_seq (st_yes (fun Q q => ⟨_, rfl, r, _, _, _, rfl, rfl, .inl (.inl hr0), atI_nat (j := 0) rfl, rfl, _, rfl, (by rw [show decide (V.str st0 = V.str "while") = true from by rw [e0]; exact decide_eq_true rfl]; exact q)⟩) ?_)
    obtain ⟨x1, _, rfl, h1, rfl⟩ := hxs
    refine ⟨_, rfl, r, _, _, _, rfl, rfl, .inl (.inl hr0), atI_nat (j := 1) rfl, one_le, fun L nL => ?_⟩
    have t := TK.of (same_upd (o := .lst [x1]) nL)
    exact q _ L [x1] (same_upd nL) nL upd_same ⟨x1, [], rfl, h1.mono t, rfl⟩
  | tr x hs y =>
    obtain ⟨st0, e0⟩ : ∃ z : Str, z = "try" := ⟨_, rfl⟩
    have hr0 : H r = some (.tup (.str st0 :: xs)) := by rw [e0]; exact hr0
    refine st_seq (st_no (fun Q q => ⟨_, rfl, r, _, _, _, rfl, rfl, .inl (.inl hr0), atI_nat (j := 0) rfl, rfl, _, rfl, (by rw [show decide (V.str st0 = V.str "if") = false from by rw [e0]; exact ne_of_words (by decide +kernel)]; exact q)⟩) ?_)
    dsimp only [tNext]
    refine st_seq (st_no (fun Q q => ⟨_, rfl, r, _, _, _, rfl, rfl, .inl (.inl hr0), atI_nat (j := 0) rfl, rfl, _, rfl, (by rw [show decide (V.str st0 = V.str "while") = false from by rw [e0]; exact ne_of_words (by decide +kernel)]; exact q)⟩) ?_)
    dsimp only [tNext]
    refine st_seq (st_yes (fun Q q => ⟨_, rfl, r, _, _, _, rfl, rfl, .inl (.inl hr0), atI_nat (j := 0) rfl, rfl, _, rfl, (by rw [show decide (V.str st0 = V.str "try") = true from by rw [e0]; exact decide_eq_true rfl]; exact q)⟩) ?_)
    obtain ⟨x1, _, rfl, h1, x2, _, rfl, h2, x3, _, rfl, h3, rfl⟩ := hxs
    obtain ⟨rh, zs, rfl, hrh, hzs⟩ := h2
    have hzs : Dvs H zs (dH hs) := hzs
    rw [dH_of] at hzs
    have hl := hF.2.1
    refine ⟨_, rfl, r, _, _, _, rfl, rfl, .inl (.inl hr0), atI_nat (j := 1) rfl, one_le, fun A nA => ?_⟩
    have sA := same_upd (o := .lst [x1]) nA
    have hA : (upd H A (.lst [x1])) A = some (.lst [x1]) := upd_same
    generalize upd H A (.lst [x1]) = H1 at sA hA
    refine ⟨_, rfl, r, _, _, _, rfl, rfl, .inl (.inl (sA _ _ hr0)), atI_nat (j := 2) rfl, rh, rfl, ⟨_, .inl (.inl (sA _ _ hrh))⟩, fun M nM => lc_tupD (fun _ => true) sndD nM (sA _ _ hrh) (hzs.mono (TK.of sA)) (by rw [List.length_map]; omega) (fun z d H' Q M' hd hxd s1 hy _ => ?_) (fun H2 ys s2 hM hz => ?_)⟩
    · obtain ⟨e, he, rfl⟩ := List.mem_map.mp hd
      obtain ⟨r2, _, rfl, hr2, a1, _, rfl, ha1, a2, _, rfl, ha2, rfl⟩ := hxd
      exact ⟨rfl, _, rfl, r2, _, _, _, rfl, rfl, .inl (.inl hr2), atI_nat (j := 1) rfl, hy rfl _ H' (Same.refl _) ha2⟩
    rw [filter_yes, List.map_map] at hz
    have hzl := hz.len
    rw [List.length_map] at hzl
    refine ⟨A, M, _, _, rfl, rfl, s2 _ _ hA, hM, bigLe (by rw [List.length_singleton]; omega), fun R nR => ?_⟩
    have sR := same_upd (o := .lst ([x1] ++ ys)) nR
    have hR : (upd H2 R (.lst ([x1] ++ ys))) R = some (.lst ([x1] ++ ys)) := upd_same
    generalize upd H2 R (.lst ([x1] ++ ys)) = H3 at sR hR
    have s13 := s2.trans sR
    have s03 := sA.trans s13
    refine ⟨_, rfl, r, _, _, _, rfl, rfl, .inl (.inl (s03 _ _ hr0)), atI_nat (j := 3) rfl, one_le, fun C nC => ?_⟩
    have sC := same_upd (o := .lst [x3]) nC
    have hC : (upd H3 C (.lst [x3])) C = some (.lst [x3]) := upd_same
    generalize upd H3 C (.lst [x3]) = H4 at sC hC
    refine ⟨R, C, _, _, rfl, rfl, sC _ _ hR, hC, bigLe (by rw [List.length_append, List.length_singleton, List.length_singleton]; omega), fun Z nZ => ?_⟩
    have sZ := same_upd (o := .lst ([x1] ++ ys ++ [x3])) nZ
    have s04 := (s03.trans sC).trans sZ
    have t04 := TK.of s04
    refine q _ Z _ s04 ((s03.trans sC).free nZ) upd_same ?_
    have hyz : Dvs (upd H4 Z (.lst ([x1] ++ ys ++ [x3]))) ys (DL.of ((hs.L.map fun h : List Str × TB => h.2).map dBk)) := by
      rw [List.map_map]
      exact hz.mono (TK.of ((sR.trans sC).trans sZ))
    have e2 : (TS.blks (.tr x hs y)).map dBk = [dBk x] ++ (hs.L.map fun h : List Str × TB => h.2).map dBk ++ [dBk y] := by
      show ([x] ++ ((hs.L.map fun h : List Str × TB => h.2) ++ ([y] ++ []))).map dBk = _
      rw [List.append_nil, List.map_append, List.map_append, List.append_assoc]
      rfl
    rw [e2]
    exact Dvs.append (l := [dBk x] ++ (hs.L.map fun h : List Str × TB => h.2).map dBk) (m := [dBk y]) (Dvs.append (l := [dBk x]) ⟨x1, [], rfl, h1.mono t04, rfl⟩ hyz) ⟨x3, [], rfl, h3.mono t04, rfl⟩
  | undo vs x =>
    obtain ⟨st0, e0⟩ : ∃ z : Str, z = "undo" := ⟨_, rfl⟩
    have hr0 : H r = some (.tup (.str st0 :: xs)) := by rw [e0]; exact hr0
    refine st_seq (st_no (fun Q q => ⟨_, rfl, r, _, _, _, rfl, rfl, .inl (.inl hr0), atI_nat (j := 0) rfl, rfl, _, rfl, (by rw [show decide (V.str st0 = V.str "if") = false from by rw [e0]; exact ne_of_words (by decide +kernel)]; exact q)⟩) ?_)
    dsimp only [tNext]
    refine st_seq (st_no (fun Q q => ⟨_, rfl, r, _, _, _, rfl, rfl, .inl (.inl hr0), atI_nat (j := 0) rfl, rfl, _, rfl, (by rw [show decide (V.str st0 = V.str "while") = false from by rw [e0]; exact ne_of_words (by decide +kernel)]; exact q)⟩) ?_)
    dsimp only [tNext]
    refine st_seq (st_no (fun Q q => ⟨_, rfl, r, _, _, _, rfl, rfl, .inl (.inl hr0), atI_nat (j := 0) rfl, rfl, _, rfl, (by rw [show decide (V.str st0 = V.str "try") = false from by rw [e0]; exact ne_of_words (by decide +kernel)]; exact q)⟩) ?_)
    dsimp only [tNext]
    refine st_seq (st_yes (fun Q q => ⟨_, rfl, r, _, _, _, rfl, rfl, .inl (.inl hr0), atI_nat (j := 0) rfl, rfl, _, rfl, (by rw [show decide (V.str st0 = V.str "undo") = true from by rw [e0]; exact decide_eq_true rfl]; exact q)⟩) ?_)
    obtain ⟨y1, _, rfl, _, x1, _, rfl, h1, rfl⟩ := hxs
    refine ⟨_, rfl, r, _, _, _, rfl, rfl, .inl (.inl hr0), atI_nat (j := 2) rfl, one_le, fun L nL => ?_⟩
    have t := TK.of (same_upd (o := .lst [x1]) nL)
    exact q _ L [x1] (same_upd nL) nL upd_same ⟨x1, [], rfl, h1.mono t, rfl⟩
  | wth f as g bs ks x =>
    obtain ⟨st0, e0⟩ : ∃ z : Str, z = "with" := ⟨_, rfl⟩
    have hr0 : H r = some (.tup (.str st0 :: xs)) := by rw [e0]; exact hr0
    refine st_seq (st_no (fun Q q => ⟨_, rfl, r, _, _, _, rfl, rfl, .inl (.inl hr0), atI_nat (j := 0) rfl, rfl, _, rfl, (by rw [show decide (V.str st0 = V.str "if") = false from by rw [e0]; exact ne_of_words (by decide +kernel)]; exact q)⟩) ?_)
    dsimp only [tNext]
    refine st_seq (st_no (fun Q q => ⟨_, rfl, r, _, _, _, rfl, rfl, .inl (.inl hr0), atI_nat (j := 0) rfl, rfl, _, rfl, (by rw [show decide (V.str st0 = V.str "while") = false from by rw [e0]; exact ne_of_words (by decide +kernel)]; exact q)⟩) ?_)
    dsimp only [tNext]
    refine st_seq (st_no (fun Q q => ⟨_, rfl, r, _, _, _, rfl, rfl, .inl (.inl hr0), atI_nat (j := 0) rfl, rfl, _, rfl, (by rw [show decide (V.str st0 = V.str "try") = false from by rw [e0]; exact ne_of_words (by decide +kernel)]; exact q)⟩) ?_)
    dsimp only [tNext]
    refine st_seq (st_no (fun Q q => ⟨_, rfl, r, _, _, _, rfl, rfl, .inl (.inl hr0), atI_nat (j := 0) rfl, rfl, _, rfl, (by rw [show decide (V.str st0 = V.str "undo") = false from by rw [e0]; exact ne_of_words (by decide +kernel)]; exact q)⟩) ?_)
    dsimp only [tNext]
    refine st_seq (st_yes (fun Q q => ⟨_, rfl, r, _, _, _, rfl, rfl, .inl (.inl hr0), atI_nat (j := 0) rfl, rfl, _, rfl, (by rw [show decide (V.str st0 = V.str "with") = true from by rw [e0]; exact decide_eq_true rfl]; exact q)⟩) ?_)
    obtain ⟨y1, _, rfl, _, y2, _, rfl, _, y3, _, rfl, _, x1, _, rfl, h1, rfl⟩ := hxs
    refine ⟨_, rfl, r, _, _, _, rfl, rfl, .inl (.inl hr0), atI_nat (j := 4) rfl, one_le, fun L nL => ?_⟩
    have t := TK.of (same_upd (o := .lst [x1]) nL)
    exact q _ L [x1] (same_upd nL) nL upd_same ⟨x1, [], rfl, h1.mono t, rfl⟩
theorem sc__law_size : FnScope ["_law_block", "_law_total", "_law_statement", "_law_part"] ["_law_block"] (defScope s__law_size) := ⟨rfl, rfl, rfl, by decide +kernel, rfl, by decide +kernel, by decide +kernel⟩
theorem ok__law_size1 (T : Txt K mg a) (n k : Nat) (hk : 2 ≤ k) (ih : FnOk P w K mg base CX0 k a.f__law_size a.f__law_size_d ["_law_block"] (spSizeL n)) : FnOk P w K mg base CX0 (k + 1) a.f__law_size a.f__law_size_d ["_law_block"] (spSizeL (n + 1)) := by
  refine T.F__law_size.ok sc__law_size (fun vs H Q E h => ?_) (fun cdv A outer s H vs Q E hr h => ?_)
  · obtain ⟨v, x, rfl, _⟩ := h
    rfl
  obtain ⟨v, x, rfl, hv, hF, hht, hsz, q⟩ := h
  refine ⟨_, (pss_cons (ps_set (i := 1) sc__law_size.nd rfl (Or.inl rfl) pe_int)
    (pss_cons (ps_for PassesOwn.never rfl (pi_tup (pv 0)) (pg_name (i := 2) sc__law_size.nd rfl (Or.inl rfl))
      (pss_one (ps_set (i := 1) sc__law_size.nd rfl (Or.inl rfl) (pe_op op_add (pe_op op_add (pv 1) pe_int) (pe_callB (cr_sum rfl) (by rfl) T.sum (by decide +kernel) (pa_cons (pe_lc (own := [("_law_part", 3)]) (g := gName 3) (tt := tYes) (by rfl) sc__law_size.nd (pi_list (pe_call (ok__law_parts T) (hr.mono (by omega)) (by rfl) T.g__law_parts T.F__law_parts.kp T.b__law_parts .nil pass0 (pa_cons (pv 2) pa_nil))) (blkOk_by (own := [("_law_part", 3)]) (N := ["_law_block", "_law_total", "_law_statement", "_law_part"]) (sc := defScope s__law_size) (by decide +kernel)) (fun _ _ _ _ _ => pg_name (i := 3) sc__law_size.nd rfl (Or.inl rfl)) (fun _ _ _ _ _ => pts_nil) (fun _ _ _ _ _ => (pe_call ih hr (by rfl) T.g__law_size T.F__law_size.kp T.b__law_size .nil pass0 (pa_cons (pv 3) pa_nil)))) pa_nil))))))
    (pss_one (ps_ret (pv 1))))), ?_⟩
  obtain ⟨r, xs, rfl, hr0, hxs⟩ := hv
  have hxs : Dvs H xs (dB x) := hxs
  rw [dB_L] at hxs
  have hxl := hxs.len
  rw [List.length_map] at hxl
  show tSeq _ _ _ _ _
  dsimp only [gName]
  refine st_seq ⟨_, rfl, r, rfl, ⟨_, .inl (.inl hr0)⟩, for_tup (K := K) (a := r) (xs := xs) (fun i σ H' => ∃ v2 : Option V, σ = [some (.ref r), some (.int (((x.L.take i).map TS.sz).sum : Nat)), v2, none] ∧ Same H H')
    ⟨none, rfl, Same.refl _⟩ (fun i σ H' _ ⟨_, _, s'⟩ => .inl (.inl (s' _ _ hr0))) ?_ ?_⟩
  · rintro i y σ H2 hi ⟨v2, rfl, s2⟩
    obtain ⟨d, hd, hyd⟩ := (hxs.mono (TK.of s2)).get hi
    obtain ⟨st, hst, rfl⟩ := get_map hd
    have hm := List.mem_of_getElem? hst
    have hsF := TB.f_mem hF hm
    have hsH := TB.ht_mem2 hm
    obtain ⟨hFb, hFl⟩ := TS.f_blks hsF
    have hsl : st.sz ≤ x.sz := by
      rw [← TB.sz_sum]
      exact sum_mem (List.mem_map_of_mem hm)
    have hbs := blks_sz (s := st)
    dsimp only [gName]
    refine ⟨_, rfl, _, _, rfl, rfl, ?_⟩
    refine ⟨_, rfl, y, st, rfl, hyd, hsF, fun H3 L ls s3 nL hL hls => ?_⟩
    have hll := hls.len
    rw [List.length_map] at hll
    refine ⟨L, rfl, ⟨_, SqL.of hL⟩, fun N nN => ?_⟩
    have hLN : L ≠ N := ne_of_none hL nN
    refine lc_list (K := K) (a := L) (xs := ls) (fun j H' => Same H3 H' ∧ H' N = some (.lst ((((st.blks.take j).map TB.sz).map fun n : Nat => (n : Int)).map V.int))) ⟨same_upd nN, upd_same⟩ (fun j H' _ hh => SqL.of (hh.1 _ _ hL)) ?_ ?_
    · rintro j u H4 hj ⟨s4, hN4⟩
      obtain ⟨d5, hd5, hu⟩ := (hls.mono (TK.of s4)).get hj
      obtain ⟨bx, hbx, rfl⟩ := get_map hd5
      have hbm := List.mem_of_getElem? hbx
      have bh := blks_htS (Nat.le_trans hsH hht) bx hbm
      have bs := sum_mem (List.mem_map_of_mem (f := TB.sz) hbm)
      obtain ⟨m, rfl⟩ : ∃ m, n = m + 1 := ⟨n - 1, by omega⟩
      refine ⟨rfl, _, rfl, u, bx, rfl, hu, hFb bx hbm, by omega, by omega, fun H5 s5 => ⟨_, s5 _ _ hN4, ?_, same_mut (s4.trans s5) nN, ?_⟩⟩
      · rw [List.length_map, List.length_map, List.length_map, List.length_take]
        exact bigLine (by omega)
      · rw [upd_same, List.take_add_one, hbx, List.map_append, List.map_append, List.map_append]
        rfl
    · rintro H4 ⟨s4, hN4⟩
      rw [hll, List.take_length] at hN4
      refine ⟨N, _, rfl, SqL.of hN4, ?_⟩
      refine ⟨_, _, rfl, rfl, some y, ?_, (s2.trans s3).trans s4⟩
      have et : (((x.L.take (i + 1)).map TS.sz).sum : Nat) = ((x.L.take i).map TS.sz).sum + 1 + (st.blks.map TB.sz).sum := by
        rw [List.take_add_one, hst, List.map_append, List.sum_append]
        show _ + (st.sz + 0) = _
        omega
      rw [et, cast_sum]
      show [some (V.ref r), some (V.int ((((x.L.take i).map TS.sz).sum : Nat) + 1 + ((st.blks.map TB.sz).sum : Nat))), some y, none] = _
      rw [Int.natCast_add, Int.natCast_add]
      rfl
  · rintro σ H2 ⟨v2, rfl, s2⟩
    rw [hxl, List.take_length, TB.sz_sum]
    exact ⟨_, rfl, q H2 s2⟩
theorem ok__law_size (T : Txt K mg a) : ∀ n : Nat, FnOk P w K mg base CX0 (2 + n) a.f__law_size a.f__law_size_d ["_law_block"] (spSizeL n)
  | 0 => ⟨fun _ _ _ _ h => h.elim, fun _ _ _ _ _ _ _ _ _ _ _ _ _ h => h.elim⟩
  | n + 1 => ok__law_size1 T n (2 + n) (Nat.le_add_right _ _) (ok__law_size T n)
end
end K10
namespace K10
open PySem PySem.Spec PyProof.Rows L2 TL
theorem ansH_andH {t u : TT} {σ : L2.St} {H : Hp} {b : Bool} {P1 PV : Hp → Prop} (h1 : AnsH t σ H true P1) (h2 : ∀ H1, P1 H1 → AnsH u σ H1 b PV) : AnsH (tAnd t u) σ H b PV := fun Q q => h1 _ fun H1 p1 => by
  show (if true = true then u σ H1 Q else Q false H1)
  rw [if_pos rfl]
  exact h2 H1 p1 Q q
theorem ansH_and0 {t u : TT} {σ : L2.St} {H : Hp} {PV : Hp → Prop} (h1 : AnsH t σ H false PV) : AnsH (tAnd t u) σ H false PV := fun Q q => h1 _ fun H1 p1 => by
  show (if false = true then u σ H1 Q else Q false H1)
  rw [if_neg Bool.false_ne_true]
  exact q H1 p1
theorem loc_app (A : List Str) : ∀ (l : List TS) (B : List Str), (l.foldl locStep (A ++ B, B)).1 = A ++ (l.foldl locStep (A ++ B, B)).2
  | [], B => rfl
  | s :: r, B => by
    rw [List.foldl_cons]
    unfold locStep
    cases s.asg with
    | none => exact loc_app A r B
    | some v =>
      dsimp only
      by_cases h : v ∈ A ++ B
      · rw [if_pos h]
        exact loc_app A r B
      · rw [if_neg h]
        have := loc_app A r (B ++ [v])
        rw [← List.append_assoc] at this
        exact this
theorem loc_own (gs : List Str) (f : FnT) : ((listB f.bk).foldl locStep (gs ++ f.ps.map (·.1), [])).1 = gs ++ (f.ps.map (·.1) ++ localsT gs f) := by
  have := loc_app (gs ++ f.ps.map (·.1)) (listB f.bk) []
  rw [List.append_nil] at this
  rw [this, List.append_assoc]
  rfl
def spOwnL : Sp := fun vs H Q _ => ∃ (v1 v2 : V) (t : Tree) (f : FnT), vs = [v1, v2] ∧ Dv H v1 (dT t) ∧ Dv H v2 (dFn f) ∧ t.gs.length ≤ 1000 ∧ f.ps.length ≤ 1000 ∧ f.bk.F ∧ f.bk.ht ≤ 7 ∧ f.bk.sz ≤ 1000 ∧
  ∀ (H' : Hp) (L : Addr), Same H H' → H L = none → H' L = some (.lst ((t.gs ++ (f.ps.map (·.1) ++ localsT t.gs f)).map V.str)) → Q (.ref L) H'
section
variable {P : Program} {w : World} {K : PySem.W.Frag} {mg : Str → Option Value} {base : Heap} {a : Ads}
theorem sc__law_numbered : FnScope ["_law_block", "_law_first", "_law_found", "_law_place", "_law_statement", "_law_inner", "_law_part"] ["_law_block", "_law_first"] (defScope s__law_numbered) := ⟨rfl, rfl, rfl, by decide +kernel, rfl, by decide +kernel, by decide +kernel⟩
theorem ok__law_numbered1 (T : Txt K mg a) (n k : Nat) (hk : 2 + n ≤ k) (ih : FnOk P w K mg base CX0 k a.f__law_numbered a.f__law_numbered_d ["_law_block", "_law_first"] (spNumL n)) : FnOk P w K mg base CX0 (k + 1) a.f__law_numbered a.f__law_numbered_d ["_law_block", "_law_first"] (spNumL (n + 1)) := by
  refine T.F__law_numbered.ok sc__law_numbered (fun vs H Q E h => ?_) (fun cdv A outer s H vs Q E hr h => ?_)
  · obtain ⟨v, x, k, rfl, _⟩ := h
    rfl
  obtain ⟨v, x, k0, rfl, hv, hF, hht, hsz, q⟩ := h
  refine ⟨_, (pss_cons (ps_set (i := 2) sc__law_numbered.nd rfl (Or.inl rfl) (pe_lst pa_nil))
    (pss_cons (ps_set (i := 3) sc__law_numbered.nd rfl (Or.inl rfl) (pv 1))
    (pss_cons (ps_for PassesOwn.never rfl (pi_tup (pv 0)) (pg_name (i := 4) sc__law_numbered.nd rfl (Or.inl rfl))
      (pss_cons (ps_expr (pe_bm PySem.F.plainAttrs_list PySem.F.slot_list_append PySem.F.type_list_append mt_append (pv 2) (pa_cons (pe_tup (pa_cons (pv 3) (pa_cons (pv 4) pa_nil))) pa_nil)))
      (pss_cons (ps_set (i := 5) sc__law_numbered.nd rfl (Or.inl rfl) (pe_op op_add (pv 3) pe_int))
      (pss_cons (ps_for PassesOwn.never rfl (pi_list (pe_call (ok__law_parts T) (hr.mono (by omega)) (by rfl) T.g__law_parts T.F__law_parts.kp T.b__law_parts .nil pass0 (pa_cons (pv 4) pa_nil))) (pg_name (i := 6) sc__law_numbered.nd rfl (Or.inl rfl))
        (pss_cons (ps_set (i := 2) sc__law_numbered.nd rfl (Or.inl rfl) (pe_op op_cat (pv 2) (pe_call ih hr (by rfl) T.g__law_numbered T.F__law_numbered.kp T.b__law_numbered .nil pass0 (pa_cons (pv 6) (pa_cons (pv 5) pa_nil)))))
        (pss_one (ps_set (i := 5) sc__law_numbered.nd rfl (Or.inl rfl) (pe_op op_add (pv 5) (pe_call (ok__law_size T n) (hr.mono (by omega)) (by rfl) T.g__law_size T.F__law_size.kp T.b__law_size .nil pass0 (pa_cons (pv 6) pa_nil)))))))
      (pss_one (ps_set (i := 3) sc__law_numbered.nd rfl (Or.inl rfl) (pv 5)))))))
    (pss_one (ps_ret (pv 2)))))), ?_⟩
  obtain ⟨r, xs, rfl, hr0, hxs⟩ := hv
  have hxs : Dvs H xs (dB x) := hxs
  rw [dB_L] at hxs
  have hxl := hxs.len
  rw [List.length_map] at hxl
  have hlb := list_szB x
  have hli := listB_is x
  refine ⟨Nat.zero_le _, fun F0 nF0 => ?_⟩
  have s0 := same_upd (o := .lst []) nF0
  have hF0 : (upd H F0 (.lst [])) F0 = some (.lst []) := upd_same
  dsimp only [gName]
  generalize upd H F0 (.lst []) = H1 at s0 hF0
  refine st_seq ⟨_, rfl, ?_⟩
  dsimp only [gName]
  refine st_seq ⟨_, rfl, r, rfl, ⟨_, .inl (.inl (s0 _ _ hr0))⟩, for_tup (K := K) (a := r) (xs := xs) (fun i σ H' => ∃ (v4 v5 v6 : Option V) (F : Addr) (ys : List V), σ = [some (.ref r), some (.int k0), some (.ref F), some (.int ((k0 + ((x.L.take i).flatMap listS).length : Nat) : Int)), v4, v5, v6] ∧ Same H H' ∧ H F = none ∧ H' F = some (.lst ys) ∧ Dvs H' ys (DL.of ((((x.L.take i).flatMap listS).zipIdx k0).map dNum)))
    ⟨none, none, none, F0, [], rfl, s0, nF0, hF0, rfl⟩ (fun i σ H' _ ⟨_, _, _, _, _, _, s', _⟩ => .inl (.inl (s' _ _ hr0))) ?_ ?_⟩
  · rintro i y σ H2 hi ⟨v4, v5, v6, F, ys, rfl, s2, nF, hF2, hD2⟩
    obtain ⟨d, hd, hyd⟩ := (hxs.mono (TK.of s2)).get hi
    obtain ⟨st, hst, rfl⟩ := get_map hd
    have hm := List.mem_of_getElem? hst
    have hsF := TB.f_mem hF hm
    have hsH := TB.ht_mem2 hm
    have et := flat_take (g := listS) hst
    have hyl := hD2.len
    rw [List.length_map, List.length_zipIdx] at hyl
    have b0 : ((x.L.take (i + 1)).flatMap listS).length ≤ x.sz := by rw [← hlb, hli]; exact flat_take_le
    rw [et, listS_is, List.length_append, List.length_cons] at b0
    have tkN : ∀ {H' : Hp} {G : Addr} {zs zs' : List V}, H' G = some (.lst zs) → TK H' (upd H' G (.lst zs')) := fun h => TK.upd h (fun _ z => by cases z)
    generalize hA : (x.L.take i).flatMap listS = A at hF2 hD2 hyl b0 et
    dsimp only [gName]
    refine st_seq ⟨_, rfl, .inl ⟨rfl, _, SqL.of hF2⟩, _, rfl, _, rfl, two_le, fun c nc => ?_⟩
    have sc := same_upd (o := .tup [.int ((k0 + A.length : Nat) : Int), y]) nc
    have hFc := sc _ _ hF2
    refine ⟨F, _, _, rfl, rfl, hFc, bigLine (by omega), ?_⟩
    have t3 : TK (upd H2 c (.tup [.int ((k0 + A.length : Nat) : Int), y])) (upd (upd H2 c (.tup [.int ((k0 + A.length : Nat) : Int), y])) F (.lst (ys ++ [.ref c]))) := tkN hFc
    have s3 : Same H (upd (upd H2 c (.tup [.int ((k0 + A.length : Nat) : Int), y])) F (.lst (ys ++ [.ref c]))) := same_mut (s2.trans sc) nF
    have hF3 : (upd (upd H2 c (.tup [.int ((k0 + A.length : Nat) : Int), y])) F (.lst (ys ++ [.ref c]))) F = some (.lst (ys ++ [.ref c])) := upd_same
    have hc3 := t3 _ _ (upd_same (H := H2) (a := c) (o := .tup [.int ((k0 + A.length : Nat) : Int), y]))
    have t23 := (TK.of sc).trans t3
    have hyd3 := hyd.mono t23
    have hD3 : Dvs (upd (upd H2 c (.tup [.int ((k0 + A.length : Nat) : Int), y])) F (.lst (ys ++ [.ref c]))) (ys ++ [.ref c]) (DL.of (((A ++ [st]).zipIdx k0).map dNum)) := by
      rw [List.zipIdx_append, List.map_append]
      exact Dvs.append (hD2.mono t23) ⟨.ref c, [], rfl, ⟨c, _, rfl, hc3, _, _, rfl, rfl, _, _, rfl, hyd3, rfl⟩, rfl⟩
    generalize upd (upd H2 c (.tup [.int ((k0 + A.length : Nat) : Int), y])) F (.lst (ys ++ [.ref c])) = H3 at s3 hF3 hD3 hyd3
    generalize hys : ys ++ [V.ref c] = ys3 at hF3 hD3
    have hl3 : ys3.length = A.length + 1 := by
      rw [← hys, List.length_append, hyl]
      rfl
    clear t3 hc3 t23 hFc sc
    dsimp only
    refine st_seq ⟨_, rfl, _, _, rfl, rfl, ?_⟩
    dsimp only [gName]
    obtain ⟨hFb, hFl⟩ := TS.f_blks hsF
    refine st_seq ⟨_, rfl, y, st, rfl, hyd3, hsF, fun H4 L ls s4 nL hL hls => ?_⟩
    have hll := hls.len
    rw [List.length_map] at hll
    refine ⟨L, rfl, ⟨_, SqL.of hL⟩, for_list (K := K) (a := L) (xs := ls) (fun j σ H' => ∃ (v6 : Option V) (F : Addr) (zs : List V), σ = [some (.ref r), some (.int k0), some (.ref F), some (.int ((k0 + A.length : Nat) : Int)), some y, some (.int ((k0 + (A ++ [st] ++ (st.blks.take j).flatMap listB).length : Nat) : Int)), v6] ∧ Same H H' ∧ H' L = some (.lst ls) ∧ F ≠ L ∧ H F = none ∧ H' F = some (.lst zs) ∧ Dvs H' zs (DL.of (((A ++ [st] ++ (st.blks.take j).flatMap listB).zipIdx k0).map dNum)) ∧ Dvs H' ls (DL.of (st.blks.map dBk)))
      ⟨v6, F, ys3, by rw [List.take_zero, List.flatMap_nil, List.append_nil, List.length_append, List.length_singleton]; rfl, s3.trans s4, hL, ne_of_none hF3 nL, nF, s4 _ _ hF3, by rw [List.take_zero, List.flatMap_nil, List.append_nil]; exact hD3.mono (TK.of s4), hls⟩ (fun j σ H' _ ⟨_, _, _, _, _, h, _⟩ => SqL.of h) ?_ ?_⟩
    · rintro j u σ H5 hj ⟨v6', F, zs, rfl, s5, hL5, hFL, nF, hF5, hD5, hls5⟩
      obtain ⟨d5, hd5, hu⟩ := hls5.get hj
      obtain ⟨bx, hbx, rfl⟩ := get_map hd5
      have hbm := List.mem_of_getElem? hbx
      have ej := flat_take (g := listB) hbx
      have hzl := hD5.len
      rw [List.length_map, List.length_zipIdx, List.length_append, List.length_append, List.length_singleton] at hzl
      have b1 : ((st.blks.take (j + 1)).flatMap listB).length ≤ (st.blks.flatMap listB).length := flat_take_le
      rw [ej, List.length_append, list_szB] at b1
      have bh := blks_htS (Nat.le_trans hsH hht) bx hbm
      obtain ⟨m, rfl⟩ : ∃ m, n = m + 1 := ⟨n - 1, by omega⟩
      have elen : (A ++ [st] ++ (st.blks.take j).flatMap listB).length = A.length + 1 + ((st.blks.take j).flatMap listB).length := by rw [List.length_append, List.length_append, List.length_singleton]
      generalize hB : A ++ [st] ++ (st.blks.take j).flatMap listB = B at hD5 elen
      dsimp only [gName]
      refine st_seq ⟨_, rfl, _, rfl, _, rfl, u, bx, k0 + B.length, rfl, hu, hFb bx hbm, by omega, by omega, fun H6 M ms s6 nM hM hms => ?_⟩
      have hF6 := s6 _ _ hF5
      have hml := hms.len
      rw [List.length_map, List.length_zipIdx, list_szB] at hml
      refine ⟨F, M, _, _, rfl, rfl, hF6, hM, bigLe (by omega), fun R nR => ?_⟩
      have sR := same_upd (o := .lst (zs ++ ms)) nR
      have s56 := s6.trans sR
      dsimp only [gName]
      refine ⟨_, rfl, _, rfl, u, bx, rfl, hu.mono (TK.of s56), hFb bx hbm, by omega, by omega, fun H7 s7 => ⟨_, _, rfl, rfl, ?_⟩⟩
      have s57 := s56.trans s7
      have hR7 := s7 _ _ (upd_same (H := H6) (a := R) (o := .lst (zs ++ ms)))
      have eB : A ++ [st] ++ (st.blks.take (j + 1)).flatMap listB = B ++ listB bx := by rw [ej, ← List.append_assoc, hB]
      have hRL : R ≠ L := fun e => by
        have h6 := s6 _ _ hL5
        rw [← e, nR] at h6
        cases h6
      refine ⟨some u, R, zs ++ ms, ?_, s5.trans s57, s57 _ _ hL5, hRL, (s5.trans s6).free nR, hR7, ?_, hls5.mono (TK.of s57)⟩
      · rw [eB, List.length_append, list_szB, ← Nat.add_assoc, Int.natCast_add (k0 + B.length)]
        rfl
      · rw [eB, List.zipIdx_append, List.map_append]
        exact Dvs.append (hD5.mono (TK.of s57)) (hms.mono (TK.of (sR.trans s7)))
    · rintro σ H5 ⟨v6', F, zs, rfl, s5, hL5, hFL, nF, hF5, hD5, hls5⟩
      rw [hll, List.take_length] at hD5 ⊢
      have e : A ++ listS st = A ++ [st] ++ st.blks.flatMap listB := by rw [listS_is, List.append_assoc]; rfl
      refine ⟨_, rfl, some y, some (.int ((k0 + (A ++ [st] ++ st.blks.flatMap listB).length : Nat) : Int)), v6', F, zs, ?_, s5, nF, hF5, ?_⟩
      · rw [et, e]
        rfl
      · rw [et, e]
        exact hD5
  · rintro σ H2 ⟨v4, v5, v6, F, ys, rfl, s2, nF, hF2, hD2⟩
    rw [hxl, List.take_length, ← hli] at hD2
    exact ⟨_, rfl, q H2 F ys s2 nF hF2 hD2⟩
theorem ok__law_numbered (T : Txt K mg a) : ∀ n : Nat, FnOk P w K mg base CX0 (3 + n) a.f__law_numbered a.f__law_numbered_d ["_law_block", "_law_first"] (spNumL n)
  | 0 => ⟨fun _ _ _ _ h => h.elim, fun _ _ _ _ _ _ _ _ _ _ _ _ _ h => h.elim⟩
  | n + 1 => ok__law_numbered1 T n (3 + n) (by omega) (ok__law_numbered T n)
end
end K10
namespace K10
open PySem PySem.Spec PyProof.Rows L2 TL
def dEr : Er → D
  | .dup z => tp [.str "twice", .str z]
  | .unk z => tp [.str "unknown", .str z]
  | .arg i => tp [.str "arguments", .int i]
  | .fin i => tp [.str "finally", .int i]
/-- a list of at most some errors comes out, the first is e -/
def spTwice : Sp := fun vs H Q _ => ∃ (p : Addr) (ns : List Str), vs = [.ref p] ∧ H p = some (.lst (ns.map V.str)) ∧ ns.length ≤ 4000 ∧ ∀ (H' : Hp) (L : Addr) (xs : List V), Same H H' → H L = none → H' L = some (.lst xs) → Dvs H' xs (DL.of ((dupE ns).toList.map dEr)) → Q (.ref L) H'
/-- the names that stand ahead of themselves -/
def dupL (ns : List Str) (i : Nat) : List Str := ((ns.zipIdx).take i).filterMap fun p => if p.1 ∈ ns.take p.2 then some p.1 else none
theorem dupF_L (ns : List Str) : ∀ i, dupF [] ns = (dupL ns i).head?.or (dupF (ns.take i) (ns.drop i)) ∨ False := fun i => by
  left
  induction i with
  | zero => rfl
  | succ i ih =>
    rw [ih]
    cases h : ns[i]? with
    | none =>
      have hl : ns.length ≤ i := List.getElem?_eq_none_iff.mp h
      have e1 : dupL ns (i + 1) = dupL ns i := by
        unfold dupL
        rw [List.take_of_length_le (by rw [List.length_zipIdx]; omega), List.take_of_length_le (by rw [List.length_zipIdx]; omega)]
      rw [e1, List.take_of_length_le hl, List.take_of_length_le (show ns.length ≤ i + 1 by omega), List.drop_of_length_le hl, List.drop_of_length_le (show ns.length ≤ i + 1 by omega)]
    | some z =>
      have hz : ns.zipIdx[i]? = some (z, i) := by rw [List.getElem?_zipIdx, h]; exact congrArg (fun n => some (z, n)) (Nat.zero_add i)
      have e1 : dupL ns (i + 1) = dupL ns i ++ (if z ∈ ns.take i then [z] else []) := by
        unfold dupL
        rw [List.take_add_one, hz, List.filterMap_append]
        congr 1
        by_cases hm : z ∈ ns.take i
        · rw [if_pos hm]
          show List.filterMap _ [(z, i)] = _
          rw [List.filterMap_cons, if_pos hm]
          rfl
        · rw [if_neg hm]
          show List.filterMap _ [(z, i)] = _
          rw [List.filterMap_cons, if_neg hm]
          rfl
      rw [e1, drop_at h, dupF, List.head?_append]
      have et : ns.take (i + 1) = ns.take i ++ [z] := by rw [List.take_add_one, h]; rfl
      by_cases hm : z ∈ ns.take i
      · rw [if_pos hm, if_pos hm]
        cases (dupL ns i).head? <;> rfl
      · rw [if_neg hm, if_neg hm, et]
        cases (dupL ns i).head? <;> rfl
theorem dupF_head (ns : List Str) : dupF [] ns = (dupL ns ns.length).head? := by
  rcases dupF_L ns ns.length with h | h
  · rw [h, List.drop_length]
    show _ = _
    cases (dupL ns ns.length).head? <;> rfl
  · exact h.elim
section
variable {P : Program} {w : World} {K : PySem.W.Frag} {mg : Str → Option Value} {base : Heap} {a : Ads}
theorem sc__law_own_names : FnScope ["_law_tree", "_law_function", "_law_found", "_law_place", "_law_statement", "_law_param"] ["_law_tree", "_law_function"] (defScope s__law_own_names) := ⟨rfl, rfl, rfl, by decide +kernel, rfl, by decide +kernel, by decide +kernel⟩
theorem ok__law_own_names (T : Txt K mg a) : FnOk P w K mg base CX0 12 a.f__law_own_names a.f__law_own_names_d ["_law_tree", "_law_function"] spOwnL := by
  refine T.F__law_own_names.ok sc__law_own_names (fun vs H Q E h => ?_) (fun cdv A outer s H vs Q E hr h => ?_)
  · obtain ⟨v1, v2, t, f, rfl, _⟩ := h
    rfl
  obtain ⟨v1, v2, t, f, rfl, hv1, hv2, hgl, hpl, hF, hht, hsz, q⟩ := h
  refine ⟨_, (pss_cons (ps_set (i := 2) sc__law_own_names.nd rfl (Or.inl rfl) (pe_op op_cat (pe_callTy call_list_of (by rfl) T.list (by decide +kernel) (pa_cons (pe_ix ix_tup (pv 0) pe_int (fun _ _ => rfl)) pa_nil)) (pe_lc (own := [("_law_param", 5)]) (g := gName 5) (tt := tYes) (by rfl) sc__law_own_names.nd (pi_tup (pe_ix ix_tup (pv 1) pe_int (fun _ _ => rfl))) (blkOk_by (own := [("_law_param", 5)]) (N := ["_law_tree", "_law_function", "_law_found", "_law_place", "_law_statement", "_law_param"]) (sc := defScope s__law_own_names) (by decide +kernel)) (fun _ _ _ _ _ => pg_name (i := 5) sc__law_own_names.nd rfl (Or.inl rfl)) (fun _ _ _ _ _ => pts_nil) (fun _ _ _ _ _ => (pe_ix (show IxR _ (rIxT K) from ix_tup) (pv 5) pe_int (fun _ _ => rfl))))))
    (pss_cons (ps_for PassesOwn.never rfl (pi_list (pe_call (ok__law_numbered T 8) (hr.mono (by decide)) (by rfl) T.g__law_numbered T.F__law_numbered.kp T.b__law_numbered .nil pass0 (pa_cons (pe_ix ix_tup (pv 1) pe_int (fun _ _ => rfl)) (pa_cons pe_int pa_nil)))) (pg_tup (by rfl) (pgs_cons (pg_name (i := 3) sc__law_own_names.nd rfl (Or.inl rfl)) (pgs_cons (pg_name (i := 4) sc__law_own_names.nd rfl (Or.inl rfl)) pgs_nil)))
      (pss_one (ps_if (PW.pt (pw_and (pt_cmpR op_in_seq (pe_ix ix_tup (pv 4) pe_int (fun _ _ => rfl)) (pe_lst (pa_cons pe_str (pa_cons pe_str (pa_cons pe_str pa_nil)))) (by rfl)) (pw_and (pt_cmpR op_notN (pe_ix ix_tup (pv 4) pe_int (fun _ _ => rfl)) pe_non (nomark _)) (pw_and1 (pt_cmpR op_notIn_seq (pe_ix ix_tup (pv 4) pe_int (fun _ _ => rfl)) (pv 2) (by rfl))))))
        (pss_one (ps_expr (pe_bm PySem.F.plainAttrs_list PySem.F.slot_list_append PySem.F.type_list_append mt_append (pv 2) (pa_cons (pe_ix ix_tup (pv 4) pe_int (fun _ _ => rfl)) pa_nil))))
        pss_nil)))
    (pss_one (ps_ret (pv 2))))), ?_⟩
  obtain ⟨rt, _, rfl, hrt, y1, _, rfl, hy1, _⟩ := hv1
  obtain ⟨pg, rfl, hpg⟩ := hy1.strs
  obtain ⟨r2, _, rfl, hr2, x1, _, rfl, hx1, x2, _, rfl, hx2, x3, _, rfl, hx3, rfl⟩ := hv2
  obtain ⟨rp, xs, rfl, hrp, hxs⟩ := hx2
  refine ⟨_, rfl, rt, _, _, _, rfl, rfl, .inl (.inl hrt), atI_nat (j := 0) rfl, pg, _, rfl, .inr (.inl (.inl hpg)), fun A nA => ?_⟩
  have sA := same_upd (o := .lst (t.gs.map V.str)) nA
  have hA : (upd H A (.lst (t.gs.map V.str))) A = some (.lst (t.gs.map V.str)) := upd_same
  generalize upd H A (.lst (t.gs.map V.str)) = H1 at sA hA
  refine ⟨_, rfl, r2, _, _, _, rfl, rfl, .inl (.inl (sA _ _ hr2)), atI_nat (j := 1) rfl, rp, rfl, ⟨_, .inl (.inl (sA _ _ hrp))⟩, fun M nM => lc_tupD (fun _ => true) fstD nM (sA _ _ hrp) (hxs.mono (TK.of sA)) (by rw [List.length_map]; omega) (fun x d H' Q M' hd hxd s1 hy _ => ?_) (fun H2 zs s2 hM hz => ?_)⟩
  · obtain ⟨e, he, rfl⟩ := List.mem_map.mp hd
    obtain ⟨r3, _, rfl, hr3, a1, _, rfl, ha1, a2, _, rfl, _, rfl⟩ := hxd
    exact ⟨rfl, _, rfl, r3, _, _, _, rfl, rfl, .inl (.inl hr3), atI_nat (j := 0) rfl, hy rfl _ H' (Same.refl _) ha1⟩
  rw [filter_yes, List.map_map] at hz
  have hz2 : zs = (f.ps.map (·.1)).map V.str := by
    have : Dvs H2 zs (DL.of ((f.ps.map (·.1)).map D.str)) := by
      rw [List.map_map]
      exact hz
    exact this.strs
  subst hz2
  refine ⟨A, M, _, _, rfl, rfl, s2 _ _ hA, hM, bigLe (by rw [List.length_map, List.length_map, List.length_map]; omega), fun N nN => ?_⟩
  have sN := same_upd (o := .lst (t.gs.map V.str ++ (f.ps.map (·.1)).map V.str)) nN
  have hN : (upd H2 N (.lst (t.gs.map V.str ++ (f.ps.map (·.1)).map V.str))) N = some (.lst ((t.gs ++ f.ps.map (·.1)).map V.str)) := by rw [upd_same, List.map_append]
  generalize upd H2 N (.lst (t.gs.map V.str ++ (f.ps.map (·.1)).map V.str)) = H3 at sN hN
  have s03 := (sA.trans s2).trans sN
  have nN0 : H N = none := (sA.trans s2).free nN
  dsimp only [gName]
  refine st_seq ⟨_, rfl, r2, _, _, _, rfl, rfl, .inl (.inl (s03 _ _ hr2)), atI_nat (j := 2) rfl, x3, f.bk, 0, rfl, hx3.mono (TK.of s03), hF, hht, hsz, fun H5 L ls s5 nL hL hls => ?_⟩
  have hNL : N ≠ L := ne_of_none hN nL
  have hll := hls.len
  rw [List.length_map, List.length_zipIdx] at hll
  have hlb := list_szB f.bk
  have fl : sicV.all flatV = true := by decide +kernel
  refine ⟨L, rfl, ⟨_, SqL.of hL⟩, for_list (K := K) (a := L) (xs := ls) (fun i σ H' => ∃ (v3 v4 : Option V), σ = [some (.ref rt), some (.ref r2), some (.ref N), v3, v4, none] ∧ Same H H' ∧ H' L = some (.lst ls) ∧ H' N = some (.lst ((((listB f.bk).take i).foldl locStep (t.gs ++ f.ps.map (·.1), [])).1.map V.str)) ∧ Dvs H' ls (DL.of (((listB f.bk).zipIdx 0).map dNum)))
    ⟨none, none, rfl, s03.trans s5, hL, s5 _ _ hN, hls⟩ (fun i σ H' _ ⟨_, _, _, _, h, _⟩ => SqL.of h) ?_ ?_⟩
  · rintro i x σ H6 hi ⟨v3, v4, rfl, s6, hL6, hN6, hls6⟩
    obtain ⟨d, hd, hxd⟩ := hls6.get hi
    obtain ⟨p, hp, rfl⟩ := get_map hd
    have hst : ∃ st, (listB f.bk)[i]? = some st ∧ p = (st, i) := by
      rw [List.getElem?_zipIdx] at hp
      cases e : (listB f.bk)[i]? with
      | none => rw [e] at hp; cases hp
      | some st =>
        rw [e] at hp
        refine ⟨st, rfl, ?_⟩
        have := Option.some.inj hp
        rw [← this, Nat.zero_add]
    obtain ⟨st, hst, rfl⟩ := hst
    have et : ((listB f.bk).take (i + 1)).foldl locStep (t.gs ++ f.ps.map (·.1), []) = locStep (((listB f.bk).take i).foldl locStep (t.gs ++ f.ps.map (·.1), [])) st := by
      rw [List.take_add_one, hst, List.foldl_append]
      rfl
    have hb := loc_len ((listB f.bk).take i) (t.gs ++ f.ps.map (·.1), [])
    rw [List.length_take, List.length_append, List.length_map] at hb
    generalize ((listB f.bk).take i).foldl locStep (t.gs ++ f.ps.map (·.1), []) = ab at hN6 et hb
    obtain ⟨as, bs⟩ := ab
    dsimp only at hN6 hb
    obtain ⟨rq, _, rfl, hrq, _, _, rfl, rfl, u, _, rfl, hu, rfl⟩ := hxd
    have hu0 := hu
    rw [dS_is] at hu
    obtain ⟨r, _, rfl, hr0, x0, xs0, rfl, hx0, hxs0⟩ := hu
    have hx0 : x0 = .str st.word := hx0
    subst hx0
    refine ⟨rq, _, rfl, .inl (.inl hrq), rfl, _, _, rfl, .ref r, [], rfl, rfl, ?_⟩
    dsimp only [gName]
    rcases word_asg st with ⟨hw, tp0, ps, ep, hu1⟩ | ⟨hw, ha⟩
    · rw [ep] at hxs0
      obtain ⟨u0, us, rfl, hu2, _⟩ := hxs0
      have := hu1 _ _ hu2
      subst this
      cases ea : st.asg with
      | none =>
        have ev : asgV st = .non := by unfold asgV; rw [ea]
        rw [ev] at hr0
        have e2 : locStep (as, bs) st = (as, bs) := by unfold locStep; rw [ea]
        refine st_noH (P := fun H' => Same H6 H') (ansH_andH (P1 := fun H' => Same H6 H') (fun Q q => ⟨_, rfl, r, _, _, _, rfl, rfl, .inl (.inl hr0), atI_nat (j := 0) rfl, (by show 3 ≤ sizeLine; decide), fun c nc => ⟨c, sicV, rfl, .inl (SqL.of upd_same), rfl, fl, _, rfl, by rw [if_neg Bool.false_ne_true, hw]; exact q _ (same_upd nc)⟩⟩) (fun H7 s1 => ansH_and0 (fun Q q => ⟨_, rfl, r, _, _, _, rfl, rfl, .inl (.inl (s1 _ _ hr0)), atI_nat (j := 1) rfl, rfl, _, rfl, (by rw [decide_eq_true rfl]; exact q _ s1)⟩))) (fun H7 s7 => ?_)
        exact ⟨_, _, rfl, s6.trans s7, s7 _ _ hL6, by rw [et, e2]; exact s7 _ _ hN6, hls6.mono (TK.of s7)⟩
      | some z =>
        have ev : asgV st = .str z := by unfold asgV; rw [ea]
        rw [ev] at hr0
        have e2 : locStep (as, bs) st = if z ∈ as then (as, bs) else (as ++ [z], bs ++ [z]) := by unfold locStep; rw [ea]
        by_cases hz : z ∈ as
        · rw [if_pos hz] at e2
          refine st_noH (P := fun H' => Same H6 H') (ansH_andH (P1 := fun H' => Same H6 H') (fun Q q => ⟨_, rfl, r, _, _, _, rfl, rfl, .inl (.inl hr0), atI_nat (j := 0) rfl, (by show 3 ≤ sizeLine; decide), fun c nc => ⟨c, sicV, rfl, .inl (SqL.of upd_same), rfl, fl, _, rfl, by rw [if_neg Bool.false_ne_true, hw]; exact q _ (same_upd nc)⟩⟩) (fun H7 s1 => ansH_andH (P1 := fun H' => Same H6 H') (fun Q q => ⟨_, rfl, r, _, _, _, rfl, rfl, .inl (.inl (s1 _ _ hr0)), atI_nat (j := 1) rfl, rfl, _, rfl, (by rw [decide_eq_false (fun z => by cases z)]; exact q _ s1)⟩) (fun H7 s1 => (fun Q q => ⟨_, rfl, r, _, _, _, rfl, rfl, .inl (.inl (s1 _ _ hr0)), atI_nat (j := 1) rfl, _, rfl, N, _, rfl, .inl (SqL.of (s1 _ _ hN6)), rfl, flat_strs as, _, rfl, (by rw [if_pos rfl, inV_strs, decide_eq_true hz]; exact q _ s1)⟩)))) (fun H7 s7 => ?_)
          exact ⟨_, _, rfl, s6.trans s7, s7 _ _ hL6, by rw [et, e2]; exact s7 _ _ hN6, hls6.mono (TK.of s7)⟩
        · rw [if_neg hz] at e2
          refine st_yesH (P := fun H' => Same H6 H') (ansH_andH (P1 := fun H' => Same H6 H') (fun Q q => ⟨_, rfl, r, _, _, _, rfl, rfl, .inl (.inl hr0), atI_nat (j := 0) rfl, (by show 3 ≤ sizeLine; decide), fun c nc => ⟨c, sicV, rfl, .inl (SqL.of upd_same), rfl, fl, _, rfl, by rw [if_neg Bool.false_ne_true, hw]; exact q _ (same_upd nc)⟩⟩) (fun H7 s1 => ansH_andH (P1 := fun H' => Same H6 H') (fun Q q => ⟨_, rfl, r, _, _, _, rfl, rfl, .inl (.inl (s1 _ _ hr0)), atI_nat (j := 1) rfl, rfl, _, rfl, (by rw [decide_eq_false (fun z => by cases z)]; exact q _ s1)⟩) (fun H7 s1 => (fun Q q => ⟨_, rfl, r, _, _, _, rfl, rfl, .inl (.inl (s1 _ _ hr0)), atI_nat (j := 1) rfl, _, rfl, N, _, rfl, .inl (SqL.of (s1 _ _ hN6)), rfl, flat_strs as, _, rfl, (by rw [if_pos rfl, inV_strs, decide_eq_false hz]; exact q _ s1)⟩)))) (fun H7 s7 => ?_)
          have hN7 := s7 _ _ hN6
          refine ⟨_, rfl, .inl ⟨rfl, _, SqL.of hN7⟩, _, rfl, r, _, _, _, rfl, rfl, .inl (.inl (s7 _ _ hr0)), atI_nat (j := 1) rfl, N, _, _, rfl, rfl, hN7, bigLine (by rw [List.length_map]; omega), ?_⟩
          have t1 : TK H7 (upd H7 N (.lst (as.map V.str ++ [.str z]))) := TK.upd hN7 (fun _ z => by cases z)
          exact ⟨_, _, rfl, same_mut (s6.trans s7) nN0, by rw [upd_ne hNL.symm]; exact s7 _ _ hL6, by rw [upd_same, et, e2, List.map_append]; rfl, hls6.mono ((TK.of s7).trans t1)⟩
    · have e2 : locStep (as, bs) st = (as, bs) := by
        have : st.asg = none := by
          unfold asgV at ha
          cases e : st.asg with
          | none => rfl
          | some z => rw [e] at ha; cases ha
        unfold locStep
        rw [this]
      refine st_noH (P := fun H' => Same H6 H') (ansH_and0 (fun Q q => ⟨_, rfl, r, _, _, _, rfl, rfl, .inl (.inl hr0), atI_nat (j := 0) rfl, (by show 3 ≤ sizeLine; decide), fun c nc => ⟨c, sicV, rfl, .inl (SqL.of upd_same), rfl, fl, _, rfl, by rw [if_neg Bool.false_ne_true, hw]; exact q _ (same_upd nc)⟩⟩)) (fun H7 s7 => ?_)
      exact ⟨_, _, rfl, s6.trans s7, s7 _ _ hL6, by rw [et, e2]; exact s7 _ _ hN6, hls6.mono (TK.of s7)⟩
  · rintro σ H6 ⟨v3, v4, rfl, s6, hL6, hN6, hls6⟩
    rw [hll, List.take_length, loc_own] at hN6
    exact ⟨_, rfl, q H6 N s6 nN0 hN6⟩
end
end K10
namespace K10
open PySem PySem.Spec PyProof.Rows L2 TL
theorem cut_take {xs : List V} {k : Nat} : cutV xs none (some ((k : Nat) : Int)) = xs.take k := by
  unfold cutV
  rw [show HT.sIx xs.length xs.length (some (k : Int)) = min k xs.length from HT.sIx_nat _ _ k, HT.sIx_none]
  show (xs.drop 0).take (min k xs.length - 0) = xs.take k
  rw [List.drop_zero, Nat.sub_zero]
  by_cases h : k ≤ xs.length
  · rw [Nat.min_eq_left h]
  · rw [Nat.min_eq_right (by omega), List.take_of_length_le (Nat.le_refl _), List.take_of_length_le (by omega)]
theorem dupL_len (ns : List Str) (i : Nat) : (dupL ns i).length ≤ ns.length := by
  unfold dupL
  refine Nat.le_trans (List.length_filterMap_le _ _) ?_
  rw [List.length_take, List.length_zipIdx]
  exact Nat.min_le_right _ _
theorem dupL_succ {ns : List Str} {i : Nat} {z : Str} (h : ns[i]? = some z) : dupL ns (i + 1) = dupL ns i ++ (if z ∈ ns.take i then [z] else []) := by
  have hz : ns.zipIdx[i]? = some (z, i) := by rw [List.getElem?_zipIdx, h]; exact congrArg (fun n => some (z, n)) (Nat.zero_add i)
  unfold dupL
  rw [List.take_add_one, hz, List.filterMap_append]
  congr 1
  by_cases hm : z ∈ ns.take i
  · rw [if_pos hm]
    show List.filterMap _ [(z, i)] = _
    rw [List.filterMap_cons, if_pos hm]
    rfl
  · rw [if_neg hm]
    show List.filterMap _ [(z, i)] = _
    rw [List.filterMap_cons, if_neg hm]
    rfl
def arWords : Ar → List Str
  | .pla v => [v]
  | .val e => e.2.map (·.1)
theorem ar_words_le {as : List Ar} (h : ArsF as) : (as.flatMap arWords).length ≤ 1000000 := by
  refine Nat.le_trans (flat_le (m := 1000) fun x hx => ?_) (by have := h.len; omega)
  have := h.ok x hx
  cases x with
  | pla v => show 1 ≤ 1000; decide
  | val e => show (e.2.map _).length ≤ 1000; rw [List.length_map]; exact Nat.le_trans (SumF.len this) (by decide)
def spWordsOf : Sp := fun vs H Q _ => ∃ (v : V) (as : List Ar), vs = [v] ∧ Dv H v (.tup (DL.of (as.map dA))) ∧ ArsF as ∧ ∀ (H' : Hp) (L : Addr), Same H H' → H L = none → H' L = some (.lst ((as.flatMap arWords).map V.str)) → Q (.ref L) H'
section
variable {P : Program} {w : World} {K : PySem.W.Frag} {mg : Str → Option Value} {base : Heap} {a : Ads}
theorem sc__law_twice : FnScope ["_law_words", "_law_found", "_law_k"] ["_law_words"] (defScope s__law_twice) := ⟨rfl, rfl, rfl, by decide +kernel, rfl, by decide +kernel, by decide +kernel⟩
theorem ok__law_twice (T : Txt K mg a) : FnOk P w K mg base CX0 1 a.f__law_twice a.f__law_twice_d ["_law_words"] spTwice := by
  refine T.F__law_twice.ok sc__law_twice (fun vs H Q E h => ?_) (fun cdv A outer s H vs Q E hr h => ?_)
  · obtain ⟨p, ns, rfl, _⟩ := h
    rfl
  obtain ⟨p, ns, rfl, hp, hl, q⟩ := h
  refine ⟨_, (pss_cons (ps_setLc (i := 1) (own := [("_law_k", 2)]) (g := gName 2) (tt := _) (by rfl) sc__law_twice.nd rfl rfl (sw_true rfl rfl rfl (by decide +kernel)) (pi_range1 (by rfl) T.range (pa_cons (pe_callB (show CallR _ (.builtin "len") (rLenS K) from call_len_seq) (by rfl) T.len PySem.boot_len (pa_cons (pv 0) pa_nil)) pa_nil)) (blkOk_by (own := [("_law_k", 2)]) (N := ["_law_words", "_law_found", "_law_k"]) (sc := defScope s__law_twice) (by decide +kernel)) (fun _ _ _ _ _ => pg_name (i := 2) sc__law_twice.nd rfl (Or.inl rfl)) (fun _ _ _ _ _ => (pts_one (pt_cmpR (show OpR _ _ (rIn K false) from op_in_seq) (pe_ix (show IxR _ (rIxL K) from ix_list) (pv 0) (pv 2) (fun _ _ => rfl)) (pe_slice (show SlR _ (rSlL K) from sl_list) (pv 0) po_none (po_some (pv 2))) (by rfl)))) (fun _ _ _ _ _ => (pe_ix (show IxR _ (rIxL K) from ix_list) (pv 0) (pv 2) (fun _ _ => rfl))))
    (pss_one (ps_ret (pe_ifExp (pt_cmpR (OwT.op_neNil hr.units0) (pv 1) (pe_lst pa_nil) (nomark _)) (pe_lst (pa_cons (pe_tup (pa_cons pe_str (pa_cons (pe_ix ix_list (pv 1) pe_int (fun _ _ => rfl)) pa_nil))) pa_nil)) (pe_lst pa_nil))))), ?_⟩
  refine ⟨_, rfl, p, _, rfl, .inl (SqL.of hp), _, rfl, by rw [List.length_map]; omega, by rw [List.length_map]; omega, fun N nN => ?_⟩
  have hpN : p ≠ N := ne_of_none hp nN
  refine lc_range (lo := 0) (n := (((ns.map V.str).length : Nat) : Int).toNat) (fun i H' => Same H H' ∧ H' N = some (.lst ((dupL ns i).map V.str))) ⟨same_upd nN, upd_same⟩ ?_ ?_
  · rintro i H' hi ⟨s2, hN2⟩
    have hi1 : i < ns.length := by
      rw [List.length_map] at hi
      omega
    have hz : ns[i]? = some ns[i] := List.getElem?_eq_getElem hi1
    generalize ns[i] = z at hz
    have hzv : (ns.map V.str)[i]? = some (.str z) := by rw [List.getElem?_map, hz]; rfl
    have e1 := dupL_succ hz
    have dl := dupL_len ns i
    refine ⟨rfl, _, rfl, _, rfl, p, _, _, _, rfl, rfl, SqL.of (s2 _ _ hp), at_of (j := i) (by omega) hzv, _, rfl, _, rfl, (0 : Int) + (i : Nat), rfl, p, _, rfl, SqL.of (s2 _ _ hp), fun c nc => ?_⟩
    have sc := same_upd (o := .lst (cutV (ns.map V.str) none (some ((0 : Int) + (i : Nat))))) nc
    have hcv : cutV (ns.map V.str) none (some ((0 : Int) + (i : Nat))) = (ns.take i).map V.str := by
      rw [show (0 : Int) + (i : Nat) = ((i : Nat) : Int) by omega, cut_take, List.map_take]
    refine ⟨c, _, rfl, .inl (SqL.of upd_same), rfl, by rw [hcv]; exact flat_strs _, _, rfl, ?_⟩
    rw [hcv] at sc ⊢
    rw [if_neg Bool.false_ne_true, inV_strs]
    have s3 := s2.trans sc
    have hN3 := sc _ _ hN2
    generalize upd H' c (.lst ((ns.take i).map V.str)) = H3 at sc s3 hN3
    by_cases hm : z ∈ ns.take i
    · rw [decide_eq_true hm, if_pos rfl]
      rw [if_pos hm] at e1
      refine ⟨_, rfl, _, rfl, p, _, _, _, rfl, rfl, SqL.of (s3 _ _ hp), at_of (j := i) (by omega) hzv, _, hN3, bigLine (by rw [List.length_map]; omega), same_mut s3 nN, ?_⟩
      rw [upd_same, e1, List.map_append]
      rfl
    · rw [decide_eq_false hm, if_neg Bool.false_ne_true]
      rw [if_neg hm, List.append_nil] at e1
      exact ⟨s3, by rw [e1]; exact hN3⟩
  · rintro H2 ⟨s2, hN2⟩
    have en : (((ns.map V.str).length : Nat) : Int).toNat = ns.length := by rw [List.length_map]; omega
    rw [en] at hN2
    have hd : dupE ns = ((dupL ns ns.length).head?).map Er.dup := by unfold dupE; rw [dupF_head]
    dsimp only [gName]
    generalize dupL ns ns.length = ds at hN2 hd
    refine ⟨_, rfl, Nat.zero_le _, fun Z nZ => ?_⟩
    have sZ := same_upd (o := .lst []) nZ
    have hN3 := sZ _ _ hN2
    refine ⟨N, Z, _, rfl, rfl, .inl ⟨SqL.of hN3, SqL.of upd_same⟩, _, rfl, ?_⟩
    have s3 := s2.trans sZ
    generalize upd H2 Z (.lst []) = H3 at s3 hN3
    cases ds with
    | nil =>
      dsimp only
      rw [if_neg (by decide)]
      refine ⟨Nat.zero_le _, fun L nL => q _ L [] (s3.trans (same_upd nL)) (s3.free nL) upd_same ?_⟩
      rw [hd]
      rfl
    | cons z ds =>
      dsimp only
      rw [if_pos (by rfl)]
      refine ⟨_, rfl, N, _, _, _, rfl, rfl, SqL.of hN3, atI_nat (j := 0) rfl, two_le, fun c nc => ⟨one_le, fun L nL => ?_⟩⟩
      have sc := same_upd (o := .tup [.str "twice", .str z]) nc
      have sL := same_upd (o := .lst [.ref c]) nL
      refine q _ L [.ref c] ((s3.trans sc).trans sL) ((s3.trans sc).free nL) upd_same ?_
      rw [hd]
      exact ⟨.ref c, [], rfl, Dv.of_u (sL _ _ upd_same), rfl⟩
theorem sc__law_words_of : FnScope ["_law_args", "_law_found", "_law_word", "_law_one", "_law_term"] ["_law_args"] (defScope s__law_words_of) := ⟨rfl, rfl, rfl, by decide +kernel, rfl, by decide +kernel, by decide +kernel⟩
theorem ok__law_words_of (T : Txt K mg a) : FnOk P w K mg base CX0 1 a.f__law_words_of a.f__law_words_of_d ["_law_args"] spWordsOf := by
  refine T.F__law_words_of.ok sc__law_words_of (fun vs H Q E h => ?_) (fun cdv A outer s H vs Q E hr h => ?_)
  · obtain ⟨v, as, rfl, _⟩ := h
    rfl
  obtain ⟨v, as, rfl, hv, hF, q⟩ := h
  refine ⟨_, (pss_cons (ps_set (i := 1) sc__law_words_of.nd rfl (Or.inl rfl) (pe_lst pa_nil))
    (pss_cons (ps_for PassesOwn.never rfl (pi_tup (pv 0)) (pg_tup (by rfl) (pgs_cons (pg_name (i := 2) sc__law_words_of.nd rfl (Or.inl rfl)) (pgs_cons (pg_name (i := 3) sc__law_words_of.nd rfl (Or.inl rfl)) pgs_nil)))
      (pss_one (ps_set (i := 1) sc__law_words_of.nd rfl (Or.inl rfl) (pe_op op_cat (pv 1) (pe_ifExp (pt_cmpR op_eq (pv 2) pe_str (nomark _)) (pe_lst (pa_cons (pv 3) pa_nil)) (pe_lc (own := [("_law_term", 4)]) (g := gName 4) (tt := tYes) (by rfl) sc__law_words_of.nd (pi_tup (pe_ix ix_tup (pv 3) pe_int (fun _ _ => rfl))) (blkOk_by (own := [("_law_term", 4)]) (N := ["_law_args", "_law_found", "_law_word", "_law_one", "_law_term"]) (sc := defScope s__law_words_of) (by decide +kernel)) (fun _ _ _ _ _ => pg_name (i := 4) sc__law_words_of.nd rfl (Or.inl rfl)) (fun _ _ _ _ _ => pts_nil) (fun _ _ _ _ _ => (pe_ix (show IxR _ (rIxT K) from ix_tup) (pv 4) pe_int (fun _ _ => rfl)))))))))
    (pss_one (ps_ret (pv 1))))), ?_⟩
  obtain ⟨pt, xs, rfl, hpt, hxs⟩ := hv
  have hl := hxs.len
  rw [List.length_map] at hl
  have hal := ar_words_le hF
  refine ⟨Nat.zero_le _, fun N nN => ?_⟩
  have sN := same_upd (o := .lst []) nN
  have hN : (upd H N (.lst [])) N = some (.lst []) := upd_same
  dsimp only [gName]
  generalize upd H N (.lst []) = H1 at sN hN
  refine st_seq ⟨_, rfl, pt, rfl, ⟨_, .inl (.inl (sN _ _ hpt))⟩, for_tup (K := K) (a := pt) (xs := xs) (fun i σ H' => ∃ (v2 v3 : Option V) (F : Addr), σ = [some (.ref pt), some (.ref F), v2, v3, none] ∧ Same H H' ∧ H F = none ∧ H' F = some (.lst (((as.take i).flatMap arWords).map V.str)))
    ⟨none, none, N, rfl, sN, nN, hN⟩ (fun i σ H' _ ⟨_, _, _, _, s', _⟩ => .inl (.inl (s' _ _ hpt))) ?_ ?_⟩
  · rintro i x σ H2 hi ⟨v2, v3, F, rfl, s2, nF, hF2⟩
    obtain ⟨d, hd, hxd⟩ := (hxs.mono (TK.of s2)).get hi
    obtain ⟨ar, har, rfl⟩ := get_map hd
    have hm := List.mem_of_getElem? har
    have et := flat_take (g := arWords) har
    have b1 : ((as.take (i + 1)).flatMap arWords).length ≤ (as.flatMap arWords).length := flat_take_le
    rw [et, List.length_append] at b1
    have fin : ∀ (H3 : Hp) (L : Addr) (Q : VK), Same H2 H3 → H3 L = some (.lst ((arWords ar).map V.str)) → (∀ (H4 : Hp) (R : Addr), Same H H4 → H R = none → H4 R = some (.lst (((as.take (i + 1)).flatMap arWords).map V.str)) → Q (.ref R) H4) → rCat (.ref F) (.ref L) H3 Q := by
      intro H3 L Q s3 hL k
      refine ⟨F, L, _, _, rfl, rfl, s3 _ _ hF2, hL, bigLe2 (by rw [List.length_map, List.length_map]; omega), fun R nR => k _ R ((s2.trans s3).trans (same_upd nR)) ((s2.trans s3).free nR) ?_⟩
      rw [upd_same, et, List.map_append]
    cases ar with
    | pla v =>
      obtain ⟨r2, _, rfl, hr2, a1, _, rfl, ha1, a2, _, rfl, ha2, rfl⟩ := hxd
      have ha1 : a1 = .str "place" := ha1
      subst ha1
      have ha2 : a2 = .str v := ha2
      subst ha2
      refine ⟨r2, _, rfl, .inl (.inl hr2), rfl, _, _, rfl, _, [], rfl, rfl, ?_⟩
      dsimp only [gName]
      refine ⟨_, rfl, _, rfl, rfl, _, rfl, ite2 (fun _ => ⟨_, rfl, one_le, fun L nL => ?_⟩) (fun e => absurd (decide_eq_true rfl) e)⟩
      exact fin _ L _ (same_upd nL) upd_same fun H4 R s4 nR hR => ⟨_, _, R, rfl, s4, nR, hR⟩
    | val e =>
      obtain ⟨r2, _, rfl, hr2, a1, _, rfl, ha1, a2, _, rfl, ha2, rfl⟩ := hxd
      have ha1 : a1 = .str "value" := ha1
      subst ha1
      refine ⟨r2, _, rfl, .inl (.inl hr2), rfl, _, _, rfl, _, [], rfl, rfl, ?_⟩
      dsimp only [gName]
      obtain ⟨re, _, rfl, hre, b1', _, rfl, _, b2, _, rfl, hb2, rfl⟩ := ha2
      obtain ⟨pt2, tx, rfl, hpt2, htx⟩ := hb2
      have hE : SumF e := hF.ok _ hm
      refine ⟨_, rfl, _, rfl, rfl, _, rfl, ite2 (fun e => absurd e (by rw [show decide (V.str "value" = V.str "place") = false from no_place]; exact Bool.false_ne_true)) (fun _ => ?_)⟩
      refine ⟨_, rfl, re, _, _, _, rfl, rfl, .inl (.inl hre), atI_nat (j := 1) rfl, pt2, rfl, ⟨_, .inl (.inl hpt2)⟩, fun M nM => lc_tupD (fun _ => true) fstD nM hpt2 htx (by rw [List.length_map]; exact Nat.le_trans hE.len (by decide)) (fun x d H' Q M' hd hxd s1 hy _ => ?_) (fun H3 zs s3 hM hz => ?_)⟩
      · obtain ⟨t, ht, rfl⟩ := List.mem_map.mp hd
        obtain ⟨r3, _, rfl, hr3, c1, _, rfl, hc1, c2, _, rfl, _, rfl⟩ := hxd
        exact ⟨rfl, _, rfl, r3, _, _, _, rfl, rfl, .inl (.inl hr3), atI_nat (j := 0) rfl, hy rfl _ H' (Same.refl _) hc1⟩
      rw [filter_yes, List.map_map] at hz
      have hz2 : zs = (e.2.map (·.1)).map V.str := by
        have : Dvs H3 zs (DL.of ((e.2.map (·.1)).map D.str)) := by
          rw [List.map_map]
          exact hz
        exact this.strs
      subst hz2
      exact fin H3 M _ s3 hM fun H4 R s4 nR hR => ⟨_, _, R, rfl, s4, nR, hR⟩
  · rintro σ H2 ⟨v2, v3, F, rfl, s2, nF, hF2⟩
    rw [hl, List.take_length] at hF2
    exact ⟨_, rfl, q H2 F s2 nF hF2⟩
end
end K10
namespace K10
open PySem PySem.Spec PyProof.Rows L2 TL
def unkL (kn ns : List Str) : List Er := (ns.filter fun z => !decide (z ∈ kn)).map Er.unk
def pUnk (kn : List Str) : D → Bool
  | .str z => !decide (z ∈ kn)
  | _ => false
def fUnk (d : D) : D := tp [.str "unknown", d]
theorem unk_data (kn : List Str) : ∀ ns : List Str, ((ns.map D.str).filter (pUnk kn)).map fUnk = (unkL kn ns).map dEr
  | [] => rfl
  | z :: r => by
    have ih := unk_data kn r
    unfold unkL at ih ⊢
    rw [List.map_cons]
    by_cases h : z ∈ kn
    · rw [List.filter_cons_of_neg (by show ¬ (!decide (z ∈ kn)) = true; rw [decide_eq_true h]; decide), List.filter_cons_of_neg (by rw [decide_eq_true h]; decide), ih]
    · rw [List.filter_cons_of_pos (by show (!decide (z ∈ kn)) = true; rw [decide_eq_false h]; rfl), List.filter_cons_of_pos (by rw [decide_eq_false h]; rfl), List.map_cons, List.map_cons, List.map_cons, ih]
      rfl
theorem unk_terms (kn : List Str) : ∀ ts : List (Str × Int), ((ts.map dTm).filter (fun d => pUnk kn (fstD d))).map (fun d => fUnk (fstD d)) = (unkL kn (ts.map (·.1))).map dEr
  | [] => rfl
  | z :: r => by
    have ih := unk_terms kn r
    unfold unkL at ih ⊢
    rw [List.map_cons, List.map_cons]
    by_cases h : z.1 ∈ kn
    · rw [List.filter_cons_of_neg (by show ¬ (!decide (z.1 ∈ kn)) = true; rw [decide_eq_true h]; decide), List.filter_cons_of_neg (by rw [decide_eq_true h]; decide), ih]
    · rw [List.filter_cons_of_pos (by show (!decide (z.1 ∈ kn)) = true; rw [decide_eq_false h]; rfl), List.filter_cons_of_pos (by rw [decide_eq_false h]; rfl), List.map_cons, List.map_cons, List.map_cons, ih]
      rfl
theorem unkL_len (kn ns : List Str) : (unkL kn ns).length ≤ ns.length := by
  unfold unkL
  rw [List.length_map]
  exact List.length_filter_le _ _
theorem Dvs.bls {H : Hp} : ∀ {ns : List Bool} {xs : List V}, Dvs H xs (DL.of (ns.map D.bl)) → xs = ns.map V.bl
  | [], _, h => h
  | _ :: _, _, ⟨x, r, e, hx, h⟩ => by rw [e, show x = _ from hx, Dvs.bls h]; rfl
theorem dp_bls {K : PySem.W.Frag} {H : Hp} : ∀ ns : List Bool, DpAll K H (ns.map V.bl) (ns.map PyData.bool)
  | [] => .nil
  | x :: xs => .cons (.bl x) (dp_bls xs)
theorem eqv_bls : ∀ r s : List Bool, PyData.eqvAll (r.map PyData.bool) (s.map PyData.bool) = decide (r = s)
  | [], [] => rfl
  | [], _ :: _ => rfl
  | _ :: _, [] => rfl
  | x :: r, y :: s => by
    simp only [List.map_cons, PyData.eqvAll, PyData.eqv]
    rw [eqv_bls r s]
    cases x <;> cases y <;> simp
theorem lay_bls : ∀ ns : List Bool, PyData.canLayAll0 (ns.map PyData.bool) = true ∧ PyData.depthAll (ns.map PyData.bool) = 0
  | [] => ⟨rfl, rfl⟩
  | x :: r => by
    obtain ⟨h1, h2⟩ := lay_bls r
    exact ⟨by simp only [List.map_cons, PyData.canLayAll0, PyData.canLay0, h1, Bool.and_self], by simp only [List.map_cons, PyData.depthAll, PyData.depth, h2, Nat.max_self]⟩
theorem shaped_bls (ns : List Bool) : SeqAt.shaped (.list (ns.map PyData.bool)) = true := by
  obtain ⟨h1, h2⟩ := lay_bls ns
  unfold SeqAt.shaped
  have h3 : PyData.depth (.list (ns.map PyData.bool)) ≤ 64 := by simp only [PyData.depth]; omega
  rw [decide_eq_true h3, Bool.and_true]
  simp only [PyData.canLay0]
  exact h1
theorem fit_eq : ∀ (as : List Ar) (ps : List (Str × Bool)), fitB as ps = decide (ps.map (·.2) = as.map isPla)
  | [], [] => rfl
  | [], _ :: _ => by simp [fitB]
  | _ :: _, [] => by simp [fitB]
  | a :: as, p :: ps => by
    have ih := fit_eq as ps
    unfold fitB at ih ⊢
    rw [List.zip_cons_cons, List.map_cons, List.all_cons, List.length_cons, List.length_cons, List.map_cons, List.map_cons]
    have e1 : decide (as.length + 1 = ps.length + 1) = decide (as.length = ps.length) := by
      by_cases h : as.length = ps.length
      · rw [decide_eq_true h, decide_eq_true (by omega)]
      · rw [decide_eq_false h, decide_eq_false (by omega)]
    rw [e1]
    by_cases h : isPla a = p.2
    · rw [h]
      have e2 : decide (V.bl p.2 = V.bl p.2) = true := decide_eq_true rfl
      show (decide (as.length = ps.length) && (decide (V.bl p.2 = V.bl p.2) && _)) = _
      rw [e2, Bool.true_and, ih]
      by_cases h2 : ps.map (·.2) = as.map isPla
      · rw [decide_eq_true h2, decide_eq_true (by rw [h2])]
      · rw [decide_eq_false h2, decide_eq_false (fun e => h2 (List.cons.inj e).2)]
    · have e2 : decide (V.bl (isPla a) = V.bl p.2) = false := decide_eq_false fun e => h (V.bl.inj e)
      show (decide (as.length = ps.length) && (decide (V.bl (isPla a) = V.bl p.2) && _)) = _
      rw [e2, Bool.false_and, Bool.and_false, decide_eq_false (fun e => h (List.cons.inj e).1.symm)]
/-! ### the errors of calls -/
def ocF (heads vars : List Str) (c : Str × List Ar) : List Er := unkL heads [c.1] ++ unkL vars (c.2.flatMap arWords)
def ocE (t : Tree) (vars : List Str) (i : Nat) (cs : List (Str × List Ar)) : List Er :=
  if cs.flatMap (ocF (t.fs.map (·.nm)) vars) = [] then (if cs.any (fun c => !fitB c.2 (parOf (t.fs.map hdOf) c.1)) then [.arg i] else []) else cs.flatMap (ocF (t.fs.map (·.nm)) vars)
theorem ocF_len {heads vars : List Str} {c : Str × List Ar} (h : ArsF c.2) : (ocF heads vars c).length ≤ 1000001 := by
  unfold ocF
  rw [List.length_append]
  have h1 := unkL_len heads [c.1]
  have h2 := unkL_len vars (c.2.flatMap arWords)
  have h3 := ar_words_le h
  rw [List.length_singleton] at h1
  omega
def spOC : Sp := fun vs H Q _ => ∃ (v1 : V) (pvr pc : Addr) (i : Nat) (t : Tree) (vars : List Str) (cs : List V) (calls : List (Str × List Ar)), vs = [v1, .ref pvr, .int i, .ref pc] ∧ Dv H v1 (dT t) ∧ t.fs.length ≤ 1000 ∧ (∀ f ∈ t.fs, f.ps.length ≤ 1000) ∧ H pvr = some (.lst (vars.map V.str)) ∧
  H pc = some (.lst cs) ∧ Dvs H cs (DL.of (calls.map dCl)) ∧ calls.length ≤ 2 ∧ (∀ c ∈ calls, ArsF c.2) ∧ ∀ (H' : Hp) (L : Addr) (xs : List V), Same H H' → H L = none → H' L = some (.lst xs) → Dvs H' xs (DL.of ((ocE t vars i calls).map dEr)) → Q (.ref L) H'
/-- the first function of a name -/
def pNm (n : Str) : D → Bool
  | .tup (.cons (.str z) _) => decide (V.str z = V.str n)
  | _ => false
theorem fns_nm (n : Str) : ∀ fs : List FnT, ((fs.map dFn).filter (pNm n)).map sndD = (fs.filter fun f => decide (f.nm = n)).map fun f => D.tup (DL.of (f.ps.map dPa))
  | [] => rfl
  | f :: r => by
    have ih := fns_nm n r
    rw [List.map_cons]
    by_cases h : f.nm = n
    · rw [List.filter_cons_of_pos (show pNm n (dFn f) = true from decide_eq_true (by rw [h])), List.filter_cons_of_pos (by rw [decide_eq_true h]), List.map_cons, List.map_cons, ih]
      rfl
    · rw [List.filter_cons_of_neg (show ¬ pNm n (dFn f) = true from fun e => h (V.str.inj (of_decide_eq_true e))), List.filter_cons_of_neg (by rw [decide_eq_false h]; exact Bool.false_ne_true), ih]
theorem par_first {n : Str} : ∀ {fs : List FnT}, n ∈ fs.map (·.nm) → ∃ f r, (fs.filter fun f => decide (f.nm = n)) = f :: r ∧ f ∈ fs ∧ parOf (fs.map hdOf) n = f.ps
  | [], h => by cases h
  | g :: fs, h => by
    by_cases e : g.nm = n
    · refine ⟨g, _, List.filter_cons_of_pos (by rw [decide_eq_true e]), List.mem_cons_self, ?_⟩
      unfold parOf
      rw [List.map_cons, List.find?_cons, decide_eq_true (show (hdOf g).1 = n from e)]
      rfl
    · rcases List.mem_cons.mp h with h | h
      · exact absurd h.symm e
      · obtain ⟨f, r, h1, h2, h3⟩ := par_first (fs := fs) h
        refine ⟨f, r, by rw [List.filter_cons_of_neg (by rw [decide_eq_false e]; exact Bool.false_ne_true)]; exact h1, List.mem_cons_of_mem _ h2, ?_⟩
        unfold parOf at h3 ⊢
        rw [List.map_cons, List.find?_cons, decide_eq_false (show ¬ (hdOf g).1 = n from e)]
        exact h3
section
variable {P : Program} {w : World} {K : PySem.W.Frag} {mg : Str → Option Value} {base : Heap} {a : Ads}
theorem sc__law_of_calls : FnScope ["_law_tree", "_law_variables", "_law_place", "_law_calls", "_law_heads", "_law_found", "_law_name", "_law_args", "_law_params", "_law_function", "_law_word", "_law_param", "_law_arg"] ["_law_tree", "_law_variables", "_law_place", "_law_calls"] (defScope s__law_of_calls) := ⟨rfl, rfl, rfl, by decide +kernel, rfl, by decide +kernel, by decide +kernel⟩
theorem ok__law_of_calls (T : Txt K mg a) : FnOk P w K mg base CX0 3 a.f__law_of_calls a.f__law_of_calls_d ["_law_tree", "_law_variables", "_law_place", "_law_calls"] spOC := by
  refine T.F__law_of_calls.ok sc__law_of_calls (fun vs H Q E h => ?_) (fun cdv A outer s H vs Q E hr h => ?_)
  · obtain ⟨v1, pvr, pc, i, t, vars, cs, calls, rfl, _⟩ := h
    rfl
  obtain ⟨v1, pvr, pc, i0, t, vars, cs, calls, rfl, hv1, hfl, hpl, hpv, hpc, hcs, hcl, hcF, q⟩ := h
  refine ⟨_, (pss_cons (ps_set (i := 4) sc__law_of_calls.nd rfl (Or.inr rfl) (pe_lc (own := [("_law_function", 9)]) (g := gName 9) (tt := tYes) (by rfl) sc__law_of_calls.nd (pi_tup (pe_ix ix_tup (pv 0) pe_int (fun _ _ => rfl))) (blkOk_by (own := [("_law_function", 9)]) (N := ["_law_tree", "_law_variables", "_law_place", "_law_calls", "_law_heads", "_law_found", "_law_name", "_law_args", "_law_params", "_law_function", "_law_word", "_law_param", "_law_arg"]) (sc := defScope s__law_of_calls) (by decide +kernel)) (fun _ _ _ _ _ => pg_name (i := 9) sc__law_of_calls.nd rfl (Or.inl rfl)) (fun _ _ _ _ _ => pts_nil) (fun _ _ _ _ _ => (pe_ix (show IxR _ (rIxT K) from ix_tup) (pv 9) pe_int (fun _ _ => rfl)))))
    (pss_cons (ps_set (i := 5) sc__law_of_calls.nd rfl (Or.inl rfl) (pe_lst pa_nil))
    (pss_cons (ps_for PassesOwn.never rfl (pi_list (pv 3)) (pg_tup (by rfl) (pgs_cons (pg_name (i := 6) sc__law_of_calls.nd rfl (Or.inr rfl)) (pgs_cons (pg_name (i := 7) sc__law_of_calls.nd rfl (Or.inl rfl)) pgs_nil)))
      (pss_cons (ps_set (i := 5) sc__law_of_calls.nd rfl (Or.inl rfl) (pe_op op_cat (pv 5) (pe_lc (own := [("_law_word", 10)]) (g := gName 10) (tt := _) (by rfl) sc__law_of_calls.nd (pi_list (pe_lst (pa_cons (pv 6) pa_nil))) (blkOk_by (own := [("_law_word", 10)]) (N := ["_law_tree", "_law_variables", "_law_place", "_law_calls", "_law_heads", "_law_found", "_law_name", "_law_args", "_law_params", "_law_function", "_law_word", "_law_param", "_law_arg"]) (sc := defScope s__law_of_calls) (by decide +kernel)) (fun _ _ _ _ _ => pg_name (i := 10) sc__law_of_calls.nd rfl (Or.inl rfl)) (fun _ _ _ _ _ => (pts_one (pt_cmpR (show OpR _ _ (rIn K true) from op_notIn_seq) (pv 10) (pv 4) (by rfl)))) (fun _ _ _ _ _ => (pe_tup (pa_cons pe_str (pa_cons (pv 10) pa_nil)))))))
      (pss_one (ps_set (i := 5) sc__law_of_calls.nd rfl (Or.inl rfl) (pe_op op_cat (pv 5) (pe_lc (own := [("_law_word", 10)]) (g := gName 10) (tt := _) (by rfl) sc__law_of_calls.nd (pi_list (pe_call (ok__law_words_of T) (hr.mono (by decide)) (by rfl) T.g__law_words_of T.F__law_words_of.kp T.b__law_words_of .nil pass0 (pa_cons (pv 7) pa_nil))) (blkOk_by (own := [("_law_word", 10)]) (N := ["_law_tree", "_law_variables", "_law_place", "_law_calls", "_law_heads", "_law_found", "_law_name", "_law_args", "_law_params", "_law_function", "_law_word", "_law_param", "_law_arg"]) (sc := defScope s__law_of_calls) (by decide +kernel)) (fun _ _ _ _ _ => pg_name (i := 10) sc__law_of_calls.nd rfl (Or.inl rfl)) (fun _ _ _ _ _ => (pts_one (pt_cmpR (show OpR _ _ (rIn K true) from op_notIn_seq) (pv 10) (pv 1) (by rfl)))) (fun _ _ _ _ _ => (pe_tup (pa_cons pe_str (pa_cons (pv 10) pa_nil))))))))))
    (pss_cons (ps_if (pt_cmpR (OwT.op_neNil hr.units0) (pv 5) (pe_lst pa_nil) (nomark _))
      (pss_one (ps_ret (pv 5)))
      pss_nil)
    (pss_cons (ps_for PassesOwn.never rfl (pi_list (pv 3)) (pg_tup (by rfl) (pgs_cons (pg_name (i := 6) sc__law_of_calls.nd rfl (Or.inr rfl)) (pgs_cons (pg_name (i := 7) sc__law_of_calls.nd rfl (Or.inl rfl)) pgs_nil)))
      (pss_cons (ps_set (i := 8) sc__law_of_calls.nd rfl (Or.inl rfl) (pe_ix ix_list (pe_lc (own := [("_law_function", 9)]) (g := gName 9) (tt := _) (by rfl) sc__law_of_calls.nd (pi_tup (pe_ix ix_tup (pv 0) pe_int (fun _ _ => rfl))) (blkOk_by (own := [("_law_function", 9)]) (N := ["_law_tree", "_law_variables", "_law_place", "_law_calls", "_law_heads", "_law_found", "_law_name", "_law_args", "_law_params", "_law_function", "_law_word", "_law_param", "_law_arg"]) (sc := defScope s__law_of_calls) (by decide +kernel)) (fun _ _ _ _ _ => pg_name (i := 9) sc__law_of_calls.nd rfl (Or.inl rfl)) (fun _ _ _ _ _ => (pts_one (pt_cmpR op_eq (pe_ix (show IxR _ (rIxT K) from ix_tup) (pv 9) pe_int (fun _ _ => rfl)) (pv 6) (nomark _)))) (fun _ _ _ _ _ => (pe_ix (show IxR _ (rIxT K) from ix_tup) (pv 9) pe_int (fun _ _ => rfl)))) pe_int (fun _ _ => rfl)))
      (pss_one (ps_if (pt_cmpR (op_neD hr.units) (pe_lc (own := [("_law_param", 11)]) (g := gName 11) (tt := tYes) (by rfl) sc__law_of_calls.nd (pi_tup (pv 8)) (blkOk_by (own := [("_law_param", 11)]) (N := ["_law_tree", "_law_variables", "_law_place", "_law_calls", "_law_heads", "_law_found", "_law_name", "_law_args", "_law_params", "_law_function", "_law_word", "_law_param", "_law_arg"]) (sc := defScope s__law_of_calls) (by decide +kernel)) (fun _ _ _ _ _ => pg_name (i := 11) sc__law_of_calls.nd rfl (Or.inl rfl)) (fun _ _ _ _ _ => pts_nil) (fun _ _ _ _ _ => (pe_ix (show IxR _ (rIxT K) from ix_tup) (pv 11) pe_int (fun _ _ => rfl)))) (pe_lc (own := [("_law_arg", 12)]) (g := gName 12) (tt := tYes) (by rfl) sc__law_of_calls.nd (pi_tup (pv 7)) (blkOk_by (own := [("_law_arg", 12)]) (N := ["_law_tree", "_law_variables", "_law_place", "_law_calls", "_law_heads", "_law_found", "_law_name", "_law_args", "_law_params", "_law_function", "_law_word", "_law_param", "_law_arg"]) (sc := defScope s__law_of_calls) (by decide +kernel)) (fun _ _ _ _ _ => pg_name (i := 12) sc__law_of_calls.nd rfl (Or.inl rfl)) (fun _ _ _ _ _ => pts_nil) (fun _ _ _ _ _ => (pe_cmpR op_eq (pe_ix (show IxR _ (rIxT K) from ix_tup) (pv 12) pe_int (fun _ _ => rfl)) pe_str (nomark _)))) (nomark _))
        (pss_one (ps_ret (pe_lst (pa_cons (pe_tup (pa_cons pe_str (pa_cons (pv 2) pa_nil))) pa_nil))))
        pss_nil))))
    (pss_one (ps_ret (pe_lst pa_nil)))))))), ?_⟩
  have hcsl := hcs.len
  rw [List.length_map] at hcsl
  obtain ⟨rt, _, rfl, hrt, _, _, rfl, _, _, _, rfl, _, _, _, rfl, _, y4, _, rfl, hy4, rfl⟩ := hv1
  obtain ⟨pf, fx, rfl, hpf, hfx⟩ := hy4
  have hfxl := hfx.len
  rw [List.length_map] at hfxl
  -- the heads
  refine ⟨_, rfl, rt, _, _, _, rfl, rfl, .inl (.inl hrt), atI_nat (j := 3) rfl, pf, rfl, ⟨_, .inl (.inl hpf)⟩, fun M nM => lc_tupD (fun _ => true) fstD nM hpf hfx (by rw [List.length_map]; omega) (fun x d H' Q M' hd hxd s1 hy _ => ?_) (fun H1 zs s1 hM hz => ?_)⟩
  · obtain ⟨f, hf, rfl⟩ := List.mem_map.mp hd
    obtain ⟨r3, _, rfl, hr3, a1, _, rfl, ha1, _⟩ := hxd
    exact ⟨rfl, _, rfl, r3, _, _, _, rfl, rfl, .inl (.inl hr3), atI_nat (j := 0) rfl, hy rfl _ H' (Same.refl _) ha1⟩
  rw [filter_yes, List.map_map] at hz
  have hz2 : zs = (t.fs.map (·.nm)).map V.str := by
    have : Dvs H1 zs (DL.of ((t.fs.map (·.nm)).map D.str)) := by
      rw [List.map_map]
      exact hz
    exact this.strs
  subst hz2
  dsimp only [gName]
  refine st_seq ⟨Nat.zero_le _, fun F0 nF0 => ?_⟩
  have sF := same_upd (o := .lst []) nF0
  have hF0 : (upd H1 F0 (.lst [])) F0 = some (.lst []) := upd_same
  have hM2 := sF _ _ hM
  have s2 := s1.trans sF
  have nF := s1.free nF0
  clear hM sF nF0 hz
  dsimp only [gName]
  generalize upd H1 F0 (.lst []) = H2 at s2 hF0 hM2
  -- the unknown names
  refine st_seq ⟨_, rfl, pc, rfl, ⟨_, SqL.of (s2 _ _ hpc)⟩, for_list (K := K) (a := pc) (xs := cs) (fun i σ H' => ∃ (v6 v7 : Option V) (F : Addr) (ys : List V), σ = [some (.ref rt), some (.ref pvr), some (.int i0), some (.ref pc), some (.ref M), some (.ref F), v6, v7, none, none, none, none, none] ∧ Same H H' ∧ H' M = some (.lst ((t.fs.map (·.nm)).map V.str)) ∧ H F = none ∧ H' F = some (.lst ys) ∧ Dvs H' ys (DL.of (((calls.take i).flatMap (ocF (t.fs.map (·.nm)) vars)).map dEr)))
    ⟨none, none, F0, [], rfl, s2, hM2, nF, hF0, rfl⟩ (fun i σ H' _ ⟨_, _, _, _, _, s', _⟩ => SqL.of (s' _ _ hpc)) ?_ ?_⟩
  · rintro i x σ H3 hi ⟨v6, v7, F, ys, rfl, s3, hM3, nF, hF3, hD3⟩
    obtain ⟨d, hd, hxd⟩ := (hcs.mono (TK.of s3)).get hi
    obtain ⟨c, hc, rfl⟩ := get_map hd
    have hcm := List.mem_of_getElem? hc
    have et := flat_take (g := ocF (t.fs.map (·.nm)) vars) hc
    have ol := ocF_len (heads := t.fs.map (·.nm)) (vars := vars) (hcF c hcm)
    have hyl := hD3.len
    rw [List.length_map] at hyl
    have yl2 : ((calls.take i).flatMap (ocF (t.fs.map (·.nm)) vars)).length ≤ 2 * 1000001 := by
      refine Nat.le_trans (flat_le (m := 1000001) fun x hx => ocF_len (hcF x (List.mem_of_mem_take hx))) (Nat.mul_le_mul_right _ ?_)
      rw [List.length_take]
      omega
    have fw := ar_words_le (hcF c hcm)
    have u1 := unkL_len (t.fs.map (·.nm)) [c.1]
    have u2 := unkL_len vars (c.2.flatMap arWords)
    rw [List.length_singleton] at u1
    obtain ⟨r, _, rfl, hr3, _, _, rfl, rfl, u, _, rfl, hu, rfl⟩ := hxd
    refine ⟨r, _, rfl, .inl (.inl hr3), rfl, _, _, rfl, u, [], rfl, rfl, ?_⟩
    dsimp only [gName]
    refine st_seq ⟨_, rfl, _, rfl, one_le, fun C nC => ?_⟩
    have sC := same_upd (o := .lst [.str c.1]) nC
    have hC : (upd H3 C (.lst [.str c.1])) C = some (.lst [.str c.1]) := upd_same
    generalize upd H3 C (.lst [.str c.1]) = H4 at sC hC
    refine ⟨C, rfl, ⟨_, SqL.of hC⟩, fun N nN => lc_lstD (pUnk (t.fs.map (·.nm))) fUnk nN hC (ds := [D.str c.1]) ⟨_, [], rfl, rfl, rfl⟩ (by show 1 ≤ 1000000; decide) (fun x d H' Q M' hd hxd s1 hy hn => ?_) (fun H5 zs s5 hN hz => ?_)⟩
    · rw [List.mem_singleton.mp hd] at hxd hy hn
      have hxd : x = .str c.1 := hxd
      subst hxd
      refine ⟨rfl, _, rfl, _, rfl, M, _, rfl, .inl (SqL.of ((sC.trans s1) _ _ hM3)), rfl, flat_strs _, _, rfl, ite2 (fun e => ?_) (fun e => ?_)⟩
      · rw [if_pos rfl, inV_strs] at e
        exact ⟨_, rfl, two_le, fun t nt => hy e _ _ (same_upd nt) (Dv.of_u upd_same)⟩
      · rw [if_pos rfl, inV_strs] at e
        exact hn (Bool.eq_false_iff.mpr e) H' (Same.refl _)
    have hzd : Dvs H5 zs (DL.of ((unkL (t.fs.map (·.nm)) [c.1]).map dEr)) := by rw [← unk_data]; exact hz
    have hzl := hzd.len
    rw [List.length_map] at hzl
    have s35 := sC.trans s5
    refine ⟨F, N, _, _, rfl, rfl, s35 _ _ hF3, hN, bigLe2 (by omega), fun R nR => ?_⟩
    have sR := same_upd (o := .lst (ys ++ zs)) nR
    have hR : (upd H5 R (.lst (ys ++ zs))) R = some (.lst (ys ++ zs)) := upd_same
    have s36 := s35.trans sR
    have nR3 := s35.free nR
    have hDR : Dvs (upd H5 R (.lst (ys ++ zs))) (ys ++ zs) (DL.of (((calls.take i).flatMap (ocF (t.fs.map (·.nm)) vars) ++ unkL (t.fs.map (·.nm)) [c.1]).map dEr)) := by
      rw [List.map_append]
      exact Dvs.append (hD3.mono (TK.of s36)) (hzd.mono (TK.of sR))
    have hu6 := hu.mono (TK.of s36)
    dsimp only [gName]
    generalize upd H5 R (.lst (ys ++ zs)) = H6 at sR hR s36 hDR hu6
    refine ⟨_, rfl, _, rfl, u, c.2, rfl, hu6, hcF c hcm, fun H7 W s7 nW hW => ⟨W, rfl, ⟨_, SqL.of hW⟩, fun N2 nN2 => lc_lstD (pUnk vars) fUnk nN2 hW (ds := (c.2.flatMap arWords).map D.str) (Dvs.of_strs _ _) (by rw [List.length_map]; exact fw) (fun x d H' Q M' hd hxd s1 hy hn => ?_) (fun H8 ws s8 hN2 hw => ?_)⟩⟩
    · obtain ⟨z, _, rfl⟩ := List.mem_map.mp hd
      have hxd : x = .str z := hxd
      subst hxd
      refine ⟨rfl, _, rfl, _, rfl, pvr, _, rfl, .inl (SqL.of ((((s3.trans s36).trans s7).trans s1) _ _ hpv)), rfl, flat_strs _, _, rfl, ite2 (fun e => ?_) (fun e => ?_)⟩
      · rw [if_pos rfl, inV_strs] at e
        exact ⟨_, rfl, two_le, fun t nt => hy e _ _ (same_upd nt) (Dv.of_u upd_same)⟩
      · rw [if_pos rfl, inV_strs] at e
        exact hn (Bool.eq_false_iff.mpr e) H' (Same.refl _)
    rw [unk_data] at hw
    have hwl := hw.len
    rw [List.length_map] at hwl
    have s68 := s7.trans s8
    have hzyl : (ys ++ zs).length = ys.length + zs.length := List.length_append
    refine ⟨R, N2, _, _, rfl, rfl, s68 _ _ hR, hN2, bigLe2 (by omega), fun R2 nR2 => ?_⟩
    have sR2 := same_upd (o := .lst (ys ++ zs ++ ws)) nR2
    have s38 := s36.trans s68
    refine ⟨_, _, R2, _, rfl, (s3.trans s38).trans sR2, (s38.trans sR2) _ _ hM3, (s3.trans s38).free nR2, upd_same, ?_⟩
    rw [et, ocF, ← List.append_assoc, List.map_append]
    exact Dvs.append (hDR.mono (TK.of (s68.trans sR2))) (hw.mono (TK.of sR2))
  rintro σ H3 ⟨v6, v7, F, ys, rfl, s3, hM3, nF, hF3, hD3⟩
  rw [hcsl, List.take_length] at hD3
  have hyl := hD3.len
  rw [List.length_map] at hyl
  dsimp only
  -- some are unknown
  cases hfo : calls.flatMap (ocF (t.fs.map (·.nm)) vars) with
  | cons e0 es0 =>
    refine st_seq (st_yesH (P := fun H' => Same H3 H') (fun Q q => ⟨_, rfl, Nat.zero_le _, fun Z nZ => ⟨F, Z, _, rfl, rfl, .inl ⟨SqL.of (same_upd nZ _ _ hF3), SqL.of upd_same⟩, _, rfl, ?_⟩⟩) (fun H4 s4 => ?_))
    · rw [hfo] at hyl
      rw [show ys.isEmpty = false by cases ys with
        | nil => cases hyl
        | cons _ _ => rfl]
      exact q _ (same_upd nZ)
    · refine ⟨_, rfl, q H4 F ys (s3.trans s4) nF (s4 _ _ hF3) ?_⟩
      have : ocE t vars i0 calls = calls.flatMap (ocF (t.fs.map (·.nm)) vars) := by
        unfold ocE
        rw [if_neg (by rw [hfo]; exact fun e => by cases e)]
      rw [this]
      exact hD3.mono (TK.of s4)
  | nil =>
  have hknown : ∀ c ∈ calls, c.1 ∈ t.fs.map (·.nm) := by
    intro c hc
    have : ocF (t.fs.map (·.nm)) vars c = [] := by
      rw [List.flatMap_eq_nil_iff] at hfo
      exact hfo c hc
    unfold ocF at this
    have h1 := (List.append_eq_nil_iff.mp this).1
    by_cases hm : c.1 ∈ t.fs.map (·.nm)
    · exact hm
    · unfold unkL at h1
      rw [List.filter_cons_of_pos (by rw [decide_eq_false hm]; rfl)] at h1
      cases h1
  refine st_seq (st_noH (P := fun H' => Same H3 H') (fun Q q => ⟨_, rfl, Nat.zero_le _, fun Z nZ => ⟨F, Z, _, rfl, rfl, .inl ⟨SqL.of (same_upd nZ _ _ hF3), SqL.of upd_same⟩, _, rfl, ?_⟩⟩) (fun H4 s4 => ?_))
  · rw [hfo] at hyl
    rw [show ys.isEmpty = true by cases ys with
      | nil => rfl
      | cons _ _ => cases hyl]
    exact q _ (same_upd nZ)
  have s04 := s3.trans s4
  dsimp only [tNext]
  -- the arguments
  refine st_seq ⟨_, rfl, pc, rfl, ⟨_, SqL.of (s04 _ _ hpc)⟩, for_list (K := K) (a := pc) (xs := cs) (fun i σ H' => ∃ (v6 v7 v8 : Option V), σ = [some (.ref rt), some (.ref pvr), some (.int i0), some (.ref pc), some (.ref M), some (.ref F), v6, v7, v8, none, none, none, none] ∧ Same H H' ∧ ∀ c ∈ calls.take i, (!fitB c.2 (parOf (t.fs.map hdOf) c.1)) = false)
    ⟨v6, v7, none, rfl, s04, fun c hc => by cases hc⟩ (fun i σ H' _ ⟨_, _, _, _, s', _⟩ => SqL.of (s' _ _ hpc)) ?_ ?_⟩
  · rintro i x σ H5 hi ⟨v6, v7, v8, rfl, s5, hfits⟩
    obtain ⟨d, hd, hxd⟩ := (hcs.mono (TK.of s5)).get hi
    obtain ⟨c, hc, rfl⟩ := get_map hd
    have hcm := List.mem_of_getElem? hc
    obtain ⟨r, _, rfl, hr3, _, _, rfl, rfl, u, _, rfl, hu, rfl⟩ := hxd
    refine ⟨r, _, rfl, .inl (.inl hr3), rfl, _, _, rfl, u, [], rfl, rfl, ?_⟩
    dsimp only [gName]
    obtain ⟨f, rf, h1, h2, h3⟩ := par_first (hknown c hcm)
    refine st_seq ⟨_, rfl, rt, _, _, _, rfl, rfl, .inl (.inl (s5 _ _ hrt)), atI_nat (j := 3) rfl, pf, rfl, ⟨_, .inl (.inl (s5 _ _ hpf))⟩, fun N nN => lc_tupD (pNm c.1) sndD nN (s5 _ _ hpf) (hfx.mono (TK.of s5)) (by rw [List.length_map]; omega) (fun x d H' Q M' hd hxd s1 hy hn => ?_) (fun H6 zs s6 hN hz => ?_)⟩
    · obtain ⟨g, hg, rfl⟩ := List.mem_map.mp hd
      obtain ⟨r3, _, rfl, hr3, a1, _, rfl, ha1, a2, _, rfl, ha2, _⟩ := hxd
      have ha1 : a1 = .str g.nm := ha1
      subst ha1
      refine ⟨rfl, _, rfl, r3, _, _, _, rfl, rfl, .inl (.inl hr3), atI_nat (j := 0) rfl, _, rfl, rfl, _, rfl, ite2 (fun e => ?_) (fun e => ?_)⟩
      · exact ⟨_, rfl, r3, _, _, _, rfl, rfl, .inl (.inl hr3), atI_nat (j := 1) rfl, hy e _ H' (Same.refl _) ha2⟩
      · exact hn (Bool.eq_false_iff.mpr e) H' (Same.refl _)
    rw [fns_nm, h1, List.map_cons] at hz
    obtain ⟨x8, _, rfl, hx8, _⟩ := hz
    refine ⟨N, _, _, _, rfl, rfl, SqL.of hN, atI_nat (j := 0) rfl, ?_⟩
    dsimp only [gName]
    obtain ⟨pp, px, rfl, hpp, hpx⟩ := hx8
    have hpxl := hpx.len
    rw [List.length_map] at hpxl
    have hfp := hpl f h2
    obtain ⟨pa, ax, rfl, hpa, hax⟩ := hu
    have haxl := hax.len
    rw [List.length_map] at haxl
    have hal := (hcF c hcm).len
    have hpa6 := s6 _ _ hpa
    have hax6 := hax.mono (TK.of s6)
    cases hfit : fitB c.2 f.ps with
    | true =>
      refine st_noH (P := fun H' => Same H6 H') (fun Q q => ⟨_, rfl, pp, rfl, ⟨_, .inl (.inl hpp)⟩, fun N1 nN1 => lc_tupD (fun _ => true) sndD nN1 hpp hpx (by rw [List.length_map]; omega) (fun x d H' Q M' hd hxd s1 hy _ => by
      obtain ⟨g, hg, rfl⟩ := List.mem_map.mp hd
      obtain ⟨r3, _, rfl, hr3, a1, _, rfl, _, a2, _, rfl, ha2, _⟩ := hxd
      exact ⟨rfl, _, rfl, r3, _, _, _, rfl, rfl, .inl (.inl hr3), atI_nat (j := 1) rfl, hy rfl _ H' (Same.refl _) ha2⟩) (fun H7 bs s7 hN1 hbs => by
      rw [filter_yes, List.map_map] at hbs
      have hb2 : bs = (f.ps.map (·.2)).map V.bl := by
        have : Dvs H7 bs (DL.of ((f.ps.map (·.2)).map D.bl)) := by
          rw [List.map_map]
          exact hbs
        exact this.bls
      subst hb2
      refine ⟨_, rfl, pa, rfl, ⟨_, .inl (.inl (s7 _ _ hpa6))⟩, fun N2 nN2 => lc_tup (K := K) (a := pa) (xs := ax) (fun j H' => Same H7 H' ∧ H' N2 = some (.lst (((c.2.take j).map isPla).map V.bl))) ⟨same_upd nN2, upd_same⟩ (fun j H' _ hh => .inl (.inl (hh.1 _ _ (s7 _ _ hpa6)))) ?_ ?_⟩
      · rintro j y H8 hj ⟨s8, hN2⟩
        obtain ⟨d8, hd8, hy8⟩ := (hax6.mono (TK.of (s7.trans s8))).get hj
        obtain ⟨ar, har, rfl⟩ := get_map hd8
        obtain ⟨z, ud, e1, e2⟩ := pla_eq ar
        rw [e1] at hy8
        obtain ⟨ra, _, rfl, hra, b1, _, rfl, hb1, _⟩ := hy8
        have hb1 : b1 = .str z := hb1
        subst hb1
        refine ⟨rfl, _, rfl, ra, _, _, _, rfl, rfl, .inl (.inl hra), atI_nat (j := 0) rfl, rfl, _, hN2, ?_, same_mut s8 nN2, ?_⟩
        · rw [List.length_map]
          exact len_take (n := 1000) (by omega) (by decide)
        · rw [upd_same, List.take_add_one, har, List.map_append, List.map_append, e2]
          rfl
      · rintro H8 ⟨s8, hN2⟩
        rw [haxl, List.take_length] at hN2
        refine ⟨.list ((f.ps.map (·.2)).map PyData.bool), .list ((c.2.map isPla).map PyData.bool), .lst (SqL.of (s8 _ _ hN1)) (dp_bls _), .lst (SqL.of hN2) (dp_bls _), shaped_bls _, shaped_bls _, _, rfl, ?_⟩
        have e9 : PyData.eqv (.list ((f.ps.map (·.2)).map PyData.bool)) (.list ((c.2.map isPla).map PyData.bool)) = fitB c.2 f.ps := by
          rw [fit_eq]
          simp only [PyData.eqv]
          exact eqv_bls _ _
        rw [e9, hfit]
        exact q _ (s7.trans s8))⟩) (fun H7 s7 => ⟨_, _, _, rfl, (s5.trans s6).trans s7, take_more hfits hc (by rw [h3, hfit]; rfl)⟩)
    | false =>
      refine st_yesH (P := fun H' => Same H6 H') (fun Q q => ⟨_, rfl, pp, rfl, ⟨_, .inl (.inl hpp)⟩, fun N1 nN1 => lc_tupD (fun _ => true) sndD nN1 hpp hpx (by rw [List.length_map]; omega) (fun x d H' Q M' hd hxd s1 hy _ => by
      obtain ⟨g, hg, rfl⟩ := List.mem_map.mp hd
      obtain ⟨r3, _, rfl, hr3, a1, _, rfl, _, a2, _, rfl, ha2, _⟩ := hxd
      exact ⟨rfl, _, rfl, r3, _, _, _, rfl, rfl, .inl (.inl hr3), atI_nat (j := 1) rfl, hy rfl _ H' (Same.refl _) ha2⟩) (fun H7 bs s7 hN1 hbs => by
      rw [filter_yes, List.map_map] at hbs
      have hb2 : bs = (f.ps.map (·.2)).map V.bl := by
        have : Dvs H7 bs (DL.of ((f.ps.map (·.2)).map D.bl)) := by
          rw [List.map_map]
          exact hbs
        exact this.bls
      subst hb2
      refine ⟨_, rfl, pa, rfl, ⟨_, .inl (.inl (s7 _ _ hpa6))⟩, fun N2 nN2 => lc_tup (K := K) (a := pa) (xs := ax) (fun j H' => Same H7 H' ∧ H' N2 = some (.lst (((c.2.take j).map isPla).map V.bl))) ⟨same_upd nN2, upd_same⟩ (fun j H' _ hh => .inl (.inl (hh.1 _ _ (s7 _ _ hpa6)))) ?_ ?_⟩
      · rintro j y H8 hj ⟨s8, hN2⟩
        obtain ⟨d8, hd8, hy8⟩ := (hax6.mono (TK.of (s7.trans s8))).get hj
        obtain ⟨ar, har, rfl⟩ := get_map hd8
        obtain ⟨z, ud, e1, e2⟩ := pla_eq ar
        rw [e1] at hy8
        obtain ⟨ra, _, rfl, hra, b1, _, rfl, hb1, _⟩ := hy8
        have hb1 : b1 = .str z := hb1
        subst hb1
        refine ⟨rfl, _, rfl, ra, _, _, _, rfl, rfl, .inl (.inl hra), atI_nat (j := 0) rfl, rfl, _, hN2, ?_, same_mut s8 nN2, ?_⟩
        · rw [List.length_map]
          exact len_take (n := 1000) (by omega) (by decide)
        · rw [upd_same, List.take_add_one, har, List.map_append, List.map_append, e2]
          rfl
      · rintro H8 ⟨s8, hN2⟩
        rw [haxl, List.take_length] at hN2
        refine ⟨.list ((f.ps.map (·.2)).map PyData.bool), .list ((c.2.map isPla).map PyData.bool), .lst (SqL.of (s8 _ _ hN1)) (dp_bls _), .lst (SqL.of hN2) (dp_bls _), shaped_bls _, shaped_bls _, _, rfl, ?_⟩
        have e9 : PyData.eqv (.list ((f.ps.map (·.2)).map PyData.bool)) (.list ((c.2.map isPla).map PyData.bool)) = fitB c.2 f.ps := by
          rw [fit_eq]
          simp only [PyData.eqv]
          exact eqv_bls _ _
        rw [e9, hfit]
        exact q _ (s7.trans s8))⟩) (fun H7 s7 => ?_)
      refine ⟨_, rfl, two_le, fun z nz => ⟨one_le, fun L nL => ?_⟩⟩
      have sz := same_upd (o := .tup [.str "arguments", .int (i0 : Nat)]) nz
      have sL := same_upd (o := .lst [.ref z]) nL
      have s07 := ((s5.trans s6).trans s7).trans sz
      refine q _ L [.ref z] (s07.trans sL) (s07.free nL) upd_same ?_
      have : ocE t vars i0 calls = [.arg i0] := by
        unfold ocE
        rw [if_pos hfo, if_pos (List.any_eq_true.mpr ⟨c, hcm, by rw [h3, hfit]; rfl⟩)]
      rw [this]
      exact ⟨.ref z, [], rfl, ⟨z, _, rfl, sL _ _ upd_same, _, _, rfl, rfl, _, _, rfl, rfl, rfl⟩, rfl⟩
  · rintro σ H5 ⟨v6, v7, v8, rfl, s5, hfits⟩
    rw [hcsl] at hfits
    have hfits := take_all hfits
    refine ⟨Nat.zero_le _, fun L nL => q _ L [] (s5.trans (same_upd nL)) (s5.free nL) upd_same ?_⟩
    have : ocE t vars i0 calls = [] := by
      unfold ocE
      rw [if_pos hfo, if_neg]
      rw [List.any_eq_false.mpr fun c hc => by rw [hfits c hc]; exact Bool.false_ne_true]
      exact Bool.false_ne_true
    rw [this]
    rfl
end
end K10
namespace K10
open PySem PySem.Spec PyProof.Rows L2 TL
section
variable {tt t u : TT} {ta tb : TE} {σ : L2.St} {H : Hp} {Q : VK} {b : Bool} {P1 PV : Hp → Prop}
theorem if_yesH (h : AnsH tt σ H true PV) (q : ∀ H', PV H' → ta σ H' Q) : tIf tt ta tb σ H Q := by
  refine h _ fun H' p => ?_
  show (if true = true then ta σ H' Q else tb σ H' Q)
  rw [if_pos rfl]
  exact q H' p
theorem if_noH (h : AnsH tt σ H false PV) (q : ∀ H', PV H' → tb σ H' Q) : tIf tt ta tb σ H Q := by
  refine h _ fun H' p => ?_
  show (if false = true then ta σ H' Q else tb σ H' Q)
  rw [if_neg Bool.false_ne_true]
  exact q H' p
theorem ansH_orH (h1 : AnsH t σ H false P1) (h2 : ∀ H1, P1 H1 → AnsH u σ H1 b PV) : AnsH (tOr t u) σ H b PV := fun Q q => h1 _ fun H1 p1 => by
  show (if false = true then Q true H1 else u σ H1 Q)
  rw [if_neg Bool.false_ne_true]
  exact h2 H1 p1 Q q
theorem ansH_or1 (h1 : AnsH t σ H true PV) : AnsH (tOr t u) σ H true PV := fun Q q => h1 _ fun H1 p1 => by
  show (if true = true then Q true H1 else u σ H1 Q)
  rw [if_pos rfl]
  exact q H1 p1
end
/-! ### the errors of a statement, by the law -/
def isArgE : List Er → Bool
  | .arg _ :: _ => true
  | _ => false
def fstKs : TH → List Str
  | .cons ks _ _ => ks
  | .nil => []
def leE (t : Tree) (vars : List Str) (i : Nat) : TS → List Er
  | .pl (.set _ e) => unkL vars (e.2.map (·.1))
  | .pl (.ret e) => unkL vars (e.2.map (·.1))
  | .pl (.call _ f as) => ocE t vars i [(f, as)]
  | .pl (.risk ks) => unkL t.ks ks
  | .pl (.rse k) => unkL t.ks [k]
  | .pl (.inp _) => []
  | .undo vs _ => unkL vars vs
  | .wth f as g bs ks _ => if isArgE (ocE t vars i [(f, as), (g, bs)]) = true ∧ unkL t.ks ks ≠ [] then unkL t.ks ks else ocE t vars i [(f, as), (g, bs)] ++ unkL t.ks ks
  | .tr _ hs y => if unkL t.ks (fstKs hs) = [] ∧ (listB y).any barB = true then [.fin i] else unkL t.ks (fstKs hs)
  | .iff _ _ => []
  | .whl _ => []
/-- a try has one handler -/
def OneH : TS → Prop
  | .tr _ hs _ => ∃ ks b, hs = .cons ks b .nil
  | _ => True
def spLE : Sp := fun vs H Q _ => ∃ (v1 v4 : V) (pvr : Addr) (i : Nat) (t : Tree) (vars : List Str) (st : TS), vs = [v1, .ref pvr, .int i, v4] ∧ Dv H v1 (dT t) ∧ t.fs.length ≤ 1000 ∧ (∀ f ∈ t.fs, f.ps.length ≤ 1000) ∧ H pvr = some (.lst (vars.map V.str)) ∧ Dv H v4 (dS st) ∧ st.F ∧ st.ht ≤ 7 ∧ st.sz ≤ 1000 ∧ OneH st ∧
  ∀ (H' : Hp) (L : Addr) (xs : List V), Same H H' → H L = none → H' L = some (.lst xs) → Dvs H' xs (DL.of ((leE t vars i st).map dEr)) → Q (.ref L) H'
def srV : List V := [.str "set", .str "return"]
def rrV : List V := [.str "risk", .str "raise", .str "undo"]
theorem sr_flat : srV.all flatV = true := by decide +kernel
theorem rr_flat : rrV.all flatV = true := by decide +kernel
theorem ocE_len {t : Tree} {vars : List Str} {i : Nat} {cs : List (Str × List Ar)} (h : cs.length ≤ 2) (hF : ∀ c ∈ cs, ArsF c.2) : (ocE t vars i cs).length ≤ 2000002 := by
  unfold ocE
  split
  · split
    · show 1 ≤ _; decide
    · exact Nat.zero_le _
  · refine Nat.le_trans (flat_le (m := 1000001) fun x hx => ocF_len (hF x hx)) ?_
    have := Nat.mul_le_mul_right 1000001 h
    omega
theorem Dvs.emp {H : Hp} {ds : List D} {xs : List V} (h : Dvs H xs (DL.of ds)) : xs.isEmpty = ds.isEmpty := by
  have := h.len
  cases xs <;> cases ds <;> first | rfl | cases this
def pBar : D → Bool
  | .str z => inV (.str z) bars
  | _ => false
theorem bar_words : ∀ l : List TS, ((((l.map TS.word).map D.str).filter pBar).map fun d => d).isEmpty = !l.any barB
  | [] => rfl
  | s :: r => by
    have ih := bar_words r
    rw [List.map_cons, List.map_cons, List.any_cons]
    by_cases h : barB s = true
    · rw [List.filter_cons_of_pos (show pBar (D.str s.word) = true from h), h]
      rfl
    · rw [List.filter_cons_of_neg (show ¬ pBar (D.str s.word) = true from h), ih, Bool.eq_false_iff.mpr h, Bool.false_or]
theorem bar_emp (y : TB) : ((((((listB y).map TS.word).map D.str).filter pBar).map fun d => d)).isEmpty = !(listB y).any barB := bar_words _
theorem bar_nil (ws : List Str) : (ws.filter fun z => inV (.str z) bars) = [] ↔ ws.any (fun z => inV (.str z) bars) = false := by
  rw [List.filter_eq_nil_iff, List.any_eq_false]
section
variable {P : Program} {w : World} {K : PySem.W.Frag} {mg : Str → Option Value} {base : Heap} {a : Ads}
theorem sc__law_errors : FnScope ["_law_tree", "_law_variables", "_law_place", "_law_statement", "_law_word", "_law_found", "_law_wrong", "_law_names_here", "_law_inside", "_law_banned", "_law_term", "_law_kind", "_law_one"] ["_law_tree", "_law_variables", "_law_place", "_law_statement"] (defScope s__law_errors) := ⟨rfl, rfl, rfl, by decide +kernel, rfl, by decide +kernel, by decide +kernel⟩
theorem ok__law_errors (T : Txt K mg a) : FnOk P w K mg base CX0 12 a.f__law_errors a.f__law_errors_d ["_law_tree", "_law_variables", "_law_place", "_law_statement"] spLE := by
  refine T.F__law_errors.ok sc__law_errors (fun vs H Q E h => ?_) (fun cdv A outer s H vs Q E hr h => ?_)
  · obtain ⟨v1, v4, pvr, i, t, vars, st, rfl, _⟩ := h
    rfl
  obtain ⟨v1, v4, pvr, i0, t, vars, st, rfl, hv1, hfl, hpl, hpvr, hv4, hF, hht, hsz, hone, q⟩ := h
  refine ⟨_, (pss_cons (ps_set (i := 4) sc__law_errors.nd rfl (Or.inr rfl) (pe_ix ix_tup (pv 3) pe_int (fun _ _ => rfl)))
    (pss_cons (ps_if (pt_cmpR (show OpR _ _ (rIn K false) from op_in_seq) (pv 4) (pe_lst (pa_cons pe_str (pa_cons pe_str pa_nil))) (by rfl))
      (pss_one (ps_ret (pe_lc (own := [("_law_term", 10)]) (g := gName 10) (tt := _) (by rfl) sc__law_errors.nd (pi_tup (pe_ix ix_tup (pe_ix ix_tup (pv 3) (pe_un un_neg pe_int) (fun _ _ => rfl)) pe_int (fun _ _ => rfl))) (blkOk_by (own := [("_law_term", 10)]) (N := ["_law_tree", "_law_variables", "_law_place", "_law_statement", "_law_word", "_law_found", "_law_wrong", "_law_names_here", "_law_inside", "_law_banned", "_law_term", "_law_kind", "_law_one"]) (sc := defScope s__law_errors) (by decide +kernel)) (fun _ _ _ _ _ => pg_name (i := 10) sc__law_errors.nd rfl (Or.inl rfl)) (fun _ _ _ _ _ => (pts_one (pt_cmpR (show OpR _ _ (rIn K true) from op_notIn_seq) (pe_ix (show IxR _ (rIxT K) from ix_tup) (pv 10) pe_int (fun _ _ => rfl)) (pv 1) (by rfl)))) (fun _ _ _ _ _ => (pe_tup (pa_cons pe_str (pa_cons (pe_ix (show IxR _ (rIxT K) from ix_tup) (pv 10) pe_int (fun _ _ => rfl)) pa_nil)))))))
      pss_nil)
    (pss_cons (ps_if (pt_cmpR op_eq (pv 4) pe_str (nomark _))
      (pss_one (ps_ret (pe_call (ok__law_of_calls T) (hr.mono (by decide)) (by rfl) T.g__law_of_calls T.F__law_of_calls.kp T.b__law_of_calls .nil pass0 (pa_cons (pv 0) (pa_cons (pv 1) (pa_cons (pv 2) (pa_cons (pe_lst (pa_cons (pe_slice sl_tup (pv 3) (po_some pe_int) po_none) pa_nil)) pa_nil)))))))
      pss_nil)
    (pss_cons (ps_if (pt_cmpR op_eq (pv 4) pe_str (nomark _))
      (pss_cons (ps_set (i := 5) sc__law_errors.nd rfl (Or.inl rfl) (pe_call (ok__law_of_calls T) (hr.mono (by decide)) (by rfl) T.g__law_of_calls T.F__law_of_calls.kp T.b__law_of_calls .nil pass0 (pa_cons (pv 0) (pa_cons (pv 1) (pa_cons (pv 2) (pa_cons (pe_lst (pa_cons (pe_ix ix_tup (pv 3) pe_int (fun _ _ => rfl)) (pa_cons (pe_ix ix_tup (pv 3) pe_int (fun _ _ => rfl)) pa_nil))) pa_nil))))))
      (pss_cons (ps_setLc (i := 6) (own := [("_law_kind", 11)]) (g := gName 11) (tt := _) (by rfl) sc__law_errors.nd rfl rfl (sw_true rfl rfl rfl (by decide +kernel)) (pi_tup (pe_ix ix_tup (pv 3) pe_int (fun _ _ => rfl))) (blkOk_by (own := [("_law_kind", 11)]) (N := ["_law_tree", "_law_variables", "_law_place", "_law_statement", "_law_word", "_law_found", "_law_wrong", "_law_names_here", "_law_inside", "_law_banned", "_law_term", "_law_kind", "_law_one"]) (sc := defScope s__law_errors) (by decide +kernel)) (fun _ _ _ _ _ => pg_name (i := 11) sc__law_errors.nd rfl (Or.inl rfl)) (fun _ _ _ _ _ => (pts_one (pt_cmpR (show OpR _ _ (rIn K true) from op_notIn_seq) (pv 11) (pe_ix (show IxR _ (rIxT K) from ix_tup) (pv 0) pe_int (fun _ _ => rfl)) (by rfl)))) (fun _ _ _ _ _ => (pe_tup (pa_cons pe_str (pa_cons (pv 11) pa_nil)))))
      (pss_one (ps_ret (pe_ifExp (PW.pt (pw_and (pt_cmpR (OwT.op_neNil hr.units0) (pv 5) (pe_lst pa_nil) (nomark _)) (pw_and (pt_cmpR op_eq (pe_ix ix_tup (pe_ix ix_list (pv 5) pe_int (fun _ _ => rfl)) pe_int (fun _ _ => rfl)) pe_str (nomark _)) (pw_and1 (pt_cmpR (OwT.op_neNil hr.units0) (pv 6) (pe_lst pa_nil) (nomark _)))))) (pv 6) (pe_op op_cat (pv 5) (pv 6)))))))
      pss_nil)
    (pss_cons (ps_if (pt_cmpR (show OpR _ _ (rIn K false) from op_in_seq) (pv 4) (pe_lst (pa_cons pe_str (pa_cons pe_str (pa_cons pe_str pa_nil)))) (by rfl))
      (pss_cons (ps_set (i := 7) sc__law_errors.nd rfl (Or.inl rfl) (pe_ifExp (pt_cmpR op_eq (pv 4) pe_str (nomark _)) (pe_lst (pa_cons (pe_ix ix_tup (pv 3) pe_int (fun _ _ => rfl)) pa_nil)) (pe_callTy call_list_of (by rfl) T.list (by decide +kernel) (pa_cons (pe_ix ix_tup (pv 3) pe_int (fun _ _ => rfl)) pa_nil))))
      (pss_one (ps_ret (pe_lc (own := [("_law_one", 12)]) (g := gName 12) (tt := _) (by rfl) sc__law_errors.nd (pi_list (pv 7)) (blkOk_by (own := [("_law_one", 12)]) (N := ["_law_tree", "_law_variables", "_law_place", "_law_statement", "_law_word", "_law_found", "_law_wrong", "_law_names_here", "_law_inside", "_law_banned", "_law_term", "_law_kind", "_law_one"]) (sc := defScope s__law_errors) (by decide +kernel)) (fun _ _ _ _ _ => pg_name (i := 12) sc__law_errors.nd rfl (Or.inl rfl)) (fun _ _ _ _ _ => (pts_one (pt_cmpR (show OpR _ _ (rIn K true) from op_notIn_seq) (pv 12) (pe_ifExp (pt_cmpR op_eq (pv 4) pe_str (nomark _)) (pv 1) (pe_ix (show IxR _ (rIxT K) from ix_tup) (pv 0) pe_int (fun _ _ => rfl))) (by rfl)))) (fun _ _ _ _ _ => (pe_tup (pa_cons pe_str (pa_cons (pv 12) pa_nil))))))))
      pss_nil)
    (pss_cons (ps_if (pt_cmpR op_eq (pv 4) pe_str (nomark _))
      (pss_cons (ps_setLc (i := 6) (own := [("_law_one", 12)]) (g := gName 12) (tt := _) (by rfl) sc__law_errors.nd rfl rfl (sw_true rfl rfl rfl (by decide +kernel)) (pi_tup (pe_ix ix_tup (pe_ix ix_tup (pe_ix ix_tup (pv 3) pe_int (fun _ _ => rfl)) pe_int (fun _ _ => rfl)) pe_int (fun _ _ => rfl))) (blkOk_by (own := [("_law_one", 12)]) (N := ["_law_tree", "_law_variables", "_law_place", "_law_statement", "_law_word", "_law_found", "_law_wrong", "_law_names_here", "_law_inside", "_law_banned", "_law_term", "_law_kind", "_law_one"]) (sc := defScope s__law_errors) (by decide +kernel)) (fun _ _ _ _ _ => pg_name (i := 12) sc__law_errors.nd rfl (Or.inl rfl)) (fun _ _ _ _ _ => (pts_one (pt_cmpR (show OpR _ _ (rIn K true) from op_notIn_seq) (pv 12) (pe_ix (show IxR _ (rIxT K) from ix_tup) (pv 0) pe_int (fun _ _ => rfl)) (by rfl)))) (fun _ _ _ _ _ => (pe_tup (pa_cons pe_str (pa_cons (pv 12) pa_nil)))))
      (pss_cons (ps_setLc (i := 8) (own := [("_law_one", 12)]) (g := gName 12) (tt := tYes) (by rfl) sc__law_errors.nd rfl rfl (sw_true rfl rfl rfl (by decide +kernel)) (pi_list (pe_call (ok__law_numbered T 8) (hr.mono (by decide)) (by rfl) T.g__law_numbered T.F__law_numbered.kp T.b__law_numbered .nil pass0 (pa_cons (pe_ix ix_tup (pv 3) pe_int (fun _ _ => rfl)) (pa_cons pe_int pa_nil)))) (blkOk_by (own := [("_law_one", 12)]) (N := ["_law_tree", "_law_variables", "_law_place", "_law_statement", "_law_word", "_law_found", "_law_wrong", "_law_names_here", "_law_inside", "_law_banned", "_law_term", "_law_kind", "_law_one"]) (sc := defScope s__law_errors) (by decide +kernel)) (fun _ _ _ _ _ => pg_name (i := 12) sc__law_errors.nd rfl (Or.inl rfl)) (fun _ _ _ _ _ => pts_nil) (fun _ _ _ _ _ => (pe_ix (show IxR _ (rIxT K) from ix_tup) (pe_ix (show IxR _ (rIxT K) from ix_tup) (pv 12) pe_int (fun _ _ => rfl)) pe_int (fun _ _ => rfl))))
      (pss_cons (ps_setLc (i := 9) (own := [("_law_one", 12)]) (g := gName 12) (tt := _) (by rfl) sc__law_errors.nd rfl rfl (sw_true rfl rfl rfl (by decide +kernel)) (pi_list (pv 8)) (blkOk_by (own := [("_law_one", 12)]) (N := ["_law_tree", "_law_variables", "_law_place", "_law_statement", "_law_word", "_law_found", "_law_wrong", "_law_names_here", "_law_inside", "_law_banned", "_law_term", "_law_kind", "_law_one"]) (sc := defScope s__law_errors) (by decide +kernel)) (fun _ _ _ _ _ => pg_name (i := 12) sc__law_errors.nd rfl (Or.inl rfl)) (fun _ _ _ _ _ => (pts_one (pt_cmpR (show OpR _ _ (rIn K false) from op_in_seq) (pv 12) (pe_lst (pa_cons pe_str (pa_cons pe_str (pa_cons pe_str (pa_cons pe_str (pa_cons pe_str pa_nil)))))) (by rfl)))) (fun _ _ _ _ _ => (pv 12)))
      (pss_one (ps_ret (pe_ifExp (PW.pt (pw_or (pt_cmpR (OwT.op_neNil hr.units0) (pv 6) (pe_lst pa_nil) (nomark _)) (pw_or1 (pt_cmpR (OwT.op_eqNil hr.units0) (pv 9) (pe_lst pa_nil) (nomark _))))) (pv 6) (pe_lst (pa_cons (pe_tup (pa_cons pe_str (pa_cons (pv 2) pa_nil))) pa_nil))))))))
      pss_nil)
    (pss_one (ps_ret (pe_lst pa_nil))))))))), ?_⟩
  have hv1' := hv1
  obtain ⟨rt, _, rfl, hrt, y1, _, rfl, _, y2, _, rfl, hy2, y3, _, rfl, _, y4, _, rfl, hy4, rfl⟩ := hv1
  obtain ⟨pk, rfl, hpk⟩ := hy2.strs
  rw [dS_is] at hv4
  obtain ⟨r, _, rfl, hr0, x0, xs, rfl, hx0, hxs⟩ := hv4
  have hx0 : x0 = .str st.word := hx0
  subst hx0
  refine ⟨_, rfl, r, _, _, _, rfl, rfl, .inl (.inl hr0), atI_nat (j := 0) rfl, ?_⟩
  dsimp only [gName]
  cases st with
  | pl p =>
    cases p with
    | set v e =>
      obtain ⟨st0, e0⟩ : ∃ z : Str, z = "set" := ⟨_, rfl⟩
      have hr0 : H r = some (.tup (.str st0 :: xs)) := by rw [e0]; exact hr0
      rw [show (V.str (TS.word (TS.pl (P0.set v e)))) = V.str st0 by rw [e0]; rfl]
      refine st_seq (st_yesH (P := fun H' => Same H H') (fun Q q => ⟨_, rfl, two_le, fun c nc => ⟨c, srV, rfl, .inl (SqL.of upd_same), rfl, sr_flat, _, rfl, by rw [if_neg Bool.false_ne_true, show inV (.str st0) srV = true by rw [e0]; decide +kernel]; exact q _ (same_upd nc)⟩⟩) (fun H1 s1 => ?_))
      obtain ⟨x1, _, rfl, _, x2, _, rfl, hx2, rfl⟩ := hxs
      obtain ⟨re, _, rfl, hre, b1, _, rfl, _, b2, _, rfl, hb2, rfl⟩ := hx2
      obtain ⟨pt, tx, rfl, hpt, htx⟩ := hb2
      have hE : SumF e := hF.2
      refine ⟨_, rfl, _, rfl, r, _, _, _, rfl, rfl, .inl (.inl (s1 _ _ hr0)), atI_last [V.str st0, x1] _, re, _, _, _, rfl, rfl, .inl (.inl (s1 _ _ hre)), atI_nat (j := 1) rfl, pt, rfl, ⟨_, .inl (.inl (s1 _ _ hpt))⟩, fun N nN => lc_tupD (fun d => pUnk vars (fstD d)) (fun d => fUnk (fstD d)) nN (s1 _ _ hpt) (htx.mono (TK.of s1)) (by rw [List.length_map]; exact Nat.le_trans hE.len (by decide)) (fun x d H' Q M' hd hxd s1' hy hn => ?_) (fun H9 zs s9 hN hz => ?_)⟩
      · obtain ⟨tm, ht, rfl⟩ := List.mem_map.mp hd
        obtain ⟨r3, _, rfl, hr3, c1, _, rfl, hc1, c2, _, rfl, _, rfl⟩ := hxd
        have hc1 : c1 = .str tm.1 := hc1
        subst hc1
        refine ⟨rfl, _, rfl, r3, _, _, _, rfl, rfl, .inl (.inl hr3), atI_nat (j := 0) rfl, _, rfl, pvr, _, rfl, .inl (SqL.of ((s1.trans s1') _ _ hpvr)), rfl, flat_strs _, _, rfl, ite2 (fun e => ?_) (fun e => ?_)⟩
        · rw [if_pos rfl, inV_strs] at e
          exact ⟨_, rfl, r3, _, _, _, rfl, rfl, .inl (.inl hr3), atI_nat (j := 0) rfl, two_le, fun t nt => hy e _ _ (same_upd nt) (Dv.of_u upd_same)⟩
        · rw [if_pos rfl, inV_strs] at e
          exact hn (Bool.eq_false_iff.mpr e) H' (Same.refl _)
      · rw [unk_terms] at hz
        exact q H9 N zs (s1.trans s9) (s1.free nN) hN hz
    | ret e =>
      obtain ⟨st0, e0⟩ : ∃ z : Str, z = "return" := ⟨_, rfl⟩
      have hr0 : H r = some (.tup (.str st0 :: xs)) := by rw [e0]; exact hr0
      rw [show (V.str (TS.word (TS.pl (P0.ret e)))) = V.str st0 by rw [e0]; rfl]
      refine st_seq (st_yesH (P := fun H' => Same H H') (fun Q q => ⟨_, rfl, two_le, fun c nc => ⟨c, srV, rfl, .inl (SqL.of upd_same), rfl, sr_flat, _, rfl, by rw [if_neg Bool.false_ne_true, show inV (.str st0) srV = true by rw [e0]; decide +kernel]; exact q _ (same_upd nc)⟩⟩) (fun H1 s1 => ?_))
      obtain ⟨x2, _, rfl, hx2, rfl⟩ := hxs
      obtain ⟨re, _, rfl, hre, b1, _, rfl, _, b2, _, rfl, hb2, rfl⟩ := hx2
      obtain ⟨pt, tx, rfl, hpt, htx⟩ := hb2
      have hE : SumF e := hF
      refine ⟨_, rfl, _, rfl, r, _, _, _, rfl, rfl, .inl (.inl (s1 _ _ hr0)), atI_last [V.str st0] _, re, _, _, _, rfl, rfl, .inl (.inl (s1 _ _ hre)), atI_nat (j := 1) rfl, pt, rfl, ⟨_, .inl (.inl (s1 _ _ hpt))⟩, fun N nN => lc_tupD (fun d => pUnk vars (fstD d)) (fun d => fUnk (fstD d)) nN (s1 _ _ hpt) (htx.mono (TK.of s1)) (by rw [List.length_map]; exact Nat.le_trans hE.len (by decide)) (fun x d H' Q M' hd hxd s1' hy hn => ?_) (fun H9 zs s9 hN hz => ?_)⟩
      · obtain ⟨tm, ht, rfl⟩ := List.mem_map.mp hd
        obtain ⟨r3, _, rfl, hr3, c1, _, rfl, hc1, c2, _, rfl, _, rfl⟩ := hxd
        have hc1 : c1 = .str tm.1 := hc1
        subst hc1
        refine ⟨rfl, _, rfl, r3, _, _, _, rfl, rfl, .inl (.inl hr3), atI_nat (j := 0) rfl, _, rfl, pvr, _, rfl, .inl (SqL.of ((s1.trans s1') _ _ hpvr)), rfl, flat_strs _, _, rfl, ite2 (fun e => ?_) (fun e => ?_)⟩
        · rw [if_pos rfl, inV_strs] at e
          exact ⟨_, rfl, r3, _, _, _, rfl, rfl, .inl (.inl hr3), atI_nat (j := 0) rfl, two_le, fun t nt => hy e _ _ (same_upd nt) (Dv.of_u upd_same)⟩
        · rw [if_pos rfl, inV_strs] at e
          exact hn (Bool.eq_false_iff.mpr e) H' (Same.refl _)
      · rw [unk_terms] at hz
        exact q H9 N zs (s1.trans s9) (s1.free nN) hN hz
    | call tg f as =>
      obtain ⟨st0, e0⟩ : ∃ z : Str, z = "call" := ⟨_, rfl⟩
      have hr0 : H r = some (.tup (.str st0 :: xs)) := by rw [e0]; exact hr0
      rw [show (V.str (TS.word (TS.pl (P0.call tg f as)))) = V.str st0 by rw [e0]; rfl]
      refine st_seq (st_noH (P := fun H' => Same H H') (fun Q q => ⟨_, rfl, two_le, fun c nc => ⟨c, srV, rfl, .inl (SqL.of upd_same), rfl, sr_flat, _, rfl, by rw [if_neg Bool.false_ne_true, show inV (.str st0) srV = false by rw [e0]; decide +kernel]; exact q _ (same_upd nc)⟩⟩) (fun H1 s1 => ?_))
      dsimp only [tNext]
      refine st_seq (st_yes (fun Q q => ⟨_, rfl, rfl, _, rfl, (by rw [show decide (V.str st0 = V.str "call") = true by rw [e0]; exact decide_eq_true rfl]; exact q)⟩) ?_)
      obtain ⟨x1, _, rfl, _, x2, _, rfl, h2, x3, _, rfl, h3, rfl⟩ := hxs
      refine ⟨_, rfl, _, rfl, _, rfl, _, rfl, 2, rfl, r, _, rfl, .inl (.inl (s1 _ _ hr0)), ?_, fun c nc => ⟨one_le, fun C nC => ?_⟩⟩
      · rintro ⟨h1, _⟩
        cases h1
      have sc := same_upd (o := .tup (cutV [.str st0, x1, x2, x3] (some 2) none)) nc
      have sC := same_upd (o := .lst [.ref c]) nC
      have s3 := s1.trans (sc.trans sC)
      have t3 := TK.of s3
      refine ⟨_, pvr, C, i0, t, vars, [.ref c], [(f, as)], rfl, hv1'.mono t3, hfl, hpl, s3 _ _ hpvr, upd_same, ⟨_, [], rfl, ⟨c, [x2, x3], rfl, sC _ _ upd_same, x2, [x3], rfl, h2.mono t3, x3, [], rfl, h3.mono t3, rfl⟩, rfl⟩, (by show 1 ≤ 2; decide), (fun c hc => by rw [List.mem_singleton.mp hc]; exact hF.2.2), fun H4 L xs s4 nL hL hx => q H4 L xs (s3.trans s4) (s3.free nL) hL hx⟩
    | risk ks =>
      obtain ⟨st0, e0⟩ : ∃ z : Str, z = "risk" := ⟨_, rfl⟩
      have hr0 : H r = some (.tup (.str st0 :: xs)) := by rw [e0]; exact hr0
      rw [show (V.str (TS.word (TS.pl (P0.risk ks)))) = V.str st0 by rw [e0]; rfl]
      refine st_seq (st_noH (P := fun H' => Same H H') (fun Q q => ⟨_, rfl, two_le, fun c nc => ⟨c, srV, rfl, .inl (SqL.of upd_same), rfl, sr_flat, _, rfl, by rw [if_neg Bool.false_ne_true, show inV (.str st0) srV = false by rw [e0]; decide +kernel]; exact q _ (same_upd nc)⟩⟩) (fun H1 s1 => ?_))
      dsimp only [tNext]
      refine st_seq (st_no (fun Q q => ⟨_, rfl, rfl, _, rfl, (by rw [show decide (V.str st0 = V.str "call") = false by rw [e0]; exact ne_of_words (by decide +kernel)]; exact q)⟩) ?_)
      dsimp only [tNext]
      refine st_seq (st_no (fun Q q => ⟨_, rfl, rfl, _, rfl, (by rw [show decide (V.str st0 = V.str "with") = false by rw [e0]; exact ne_of_words (by decide +kernel)]; exact q)⟩) ?_)
      dsimp only [tNext]
      refine st_seq (st_yesH (P := fun H' => Same H1 H') (fun Q q => ⟨_, rfl, (by show 3 ≤ sizeLine; decide), fun c nc => ⟨c, rrV, rfl, .inl (SqL.of upd_same), rfl, rr_flat, _, rfl, by rw [if_neg Bool.false_ne_true, show inV (.str st0) rrV = true by rw [e0]; decide +kernel]; exact q _ (same_upd nc)⟩⟩) (fun H2 s2 => ?_))
      have s02 := s1.trans s2
      obtain ⟨x1, _, rfl, hx1, rfl⟩ := hxs
      obtain ⟨p1, rfl, hp1⟩ := hx1.strs
      refine st_seq ?_
      refine if_noH (PV := fun H8 => Same H2 H8) (fun Q q => ⟨_, rfl, rfl, _, rfl, (by rw [show decide (V.str st0 = V.str "raise") = false by rw [e0]; exact ne_of_words (by decide +kernel)]; exact q _ (Same.refl _))⟩) (fun H3 s3 => ?_)
      have sA := s02.trans s3
      refine ⟨_, rfl, r, _, _, _, rfl, rfl, .inl (.inl (sA _ _ hr0)), atI_nat (j := 1) rfl, p1, _, rfl, .inr (.inl (.inl (sA _ _ hp1))), fun N7 nN7 => ?_⟩
      have s7 := same_upd (o := .lst ((ks).map V.str)) nN7
      have hN7 : (upd H3 N7 (.lst ((ks).map V.str))) N7 = some (.lst ((ks).map V.str)) := upd_same
      generalize upd H3 N7 (.lst ((ks).map V.str)) = H7 at s7 hN7
      have s03 := sA.trans s7
      dsimp only [gName]
      refine ⟨_, rfl, N7, rfl, ⟨_, SqL.of hN7⟩, fun N nN => lc_lstD (pUnk t.ks) fUnk nN hN7 (ds := (ks).map D.str) (Dvs.of_strs _ _) (by rw [List.length_map]; exact Nat.le_trans hF.2.len (by decide)) (fun x d H' Q M' hd hxd s1' hy hn => ?_) (fun H9 zs s9 hN hz => ?_)⟩
      · obtain ⟨z, _, rfl⟩ := List.mem_map.mp hd
        have hxd : x = .str z := hxd
        subst hxd
        refine ⟨rfl, _, rfl, ?_⟩
        refine if_noH (PV := fun H8 => Same H' H8) (fun Q q => ⟨_, rfl, rfl, _, rfl, (by rw [show decide (V.str st0 = V.str "undo") = false by rw [e0]; exact ne_of_words (by decide +kernel)]; exact q _ (Same.refl _))⟩) (fun H8 s8 => ?_)
        refine ⟨_, rfl, rt, _, _, _, rfl, rfl, .inl (.inl (((s03.trans s1').trans s8) _ _ hrt)), atI_nat (j := 1) rfl, pk, _, rfl, .inr (.inl (.inl (((s03.trans s1').trans s8) _ _ hpk))), rfl, flat_strs _, _, rfl, ite2 (fun e => ?_) (fun e => ?_)⟩
        · rw [if_pos rfl, inV_strs] at e
          exact ⟨_, rfl, two_le, fun t nt => hy e _ _ (s8.trans (same_upd nt)) (Dv.of_u upd_same)⟩
        · rw [if_pos rfl, inV_strs] at e
          exact hn (Bool.eq_false_iff.mpr e) _ s8
      · rw [unk_data] at hz
        exact q H9 N zs (s03.trans s9) (s03.free nN) hN hz
    | rse k =>
      obtain ⟨st0, e0⟩ : ∃ z : Str, z = "raise" := ⟨_, rfl⟩
      have hr0 : H r = some (.tup (.str st0 :: xs)) := by rw [e0]; exact hr0
      rw [show (V.str (TS.word (TS.pl (P0.rse k)))) = V.str st0 by rw [e0]; rfl]
      refine st_seq (st_noH (P := fun H' => Same H H') (fun Q q => ⟨_, rfl, two_le, fun c nc => ⟨c, srV, rfl, .inl (SqL.of upd_same), rfl, sr_flat, _, rfl, by rw [if_neg Bool.false_ne_true, show inV (.str st0) srV = false by rw [e0]; decide +kernel]; exact q _ (same_upd nc)⟩⟩) (fun H1 s1 => ?_))
      dsimp only [tNext]
      refine st_seq (st_no (fun Q q => ⟨_, rfl, rfl, _, rfl, (by rw [show decide (V.str st0 = V.str "call") = false by rw [e0]; exact ne_of_words (by decide +kernel)]; exact q)⟩) ?_)
      dsimp only [tNext]
      refine st_seq (st_no (fun Q q => ⟨_, rfl, rfl, _, rfl, (by rw [show decide (V.str st0 = V.str "with") = false by rw [e0]; exact ne_of_words (by decide +kernel)]; exact q)⟩) ?_)
      dsimp only [tNext]
      refine st_seq (st_yesH (P := fun H' => Same H1 H') (fun Q q => ⟨_, rfl, (by show 3 ≤ sizeLine; decide), fun c nc => ⟨c, rrV, rfl, .inl (SqL.of upd_same), rfl, rr_flat, _, rfl, by rw [if_neg Bool.false_ne_true, show inV (.str st0) rrV = true by rw [e0]; decide +kernel]; exact q _ (same_upd nc)⟩⟩) (fun H2 s2 => ?_))
      have s02 := s1.trans s2
      obtain ⟨x1, _, rfl, hx1, rfl⟩ := hxs
      have hx1 : x1 = .str k := hx1
      subst hx1
      refine st_seq ?_
      refine if_yesH (PV := fun H8 => Same H2 H8) (fun Q q => ⟨_, rfl, rfl, _, rfl, (by rw [show decide (V.str st0 = V.str "raise") = true by rw [e0]; exact decide_eq_true rfl]; exact q _ (Same.refl _))⟩) (fun H3 s3 => ?_)
      have sA := s02.trans s3
      refine ⟨_, rfl, r, _, _, _, rfl, rfl, .inl (.inl (sA _ _ hr0)), atI_nat (j := 1) rfl, one_le, fun N7 nN7 => ?_⟩
      have s7 := same_upd (o := .lst [.str k]) nN7
      have hN7 : (upd H3 N7 (.lst [.str k])) N7 = some (.lst (([k]).map V.str)) := upd_same
      generalize upd H3 N7 (.lst [.str k]) = H7 at s7 hN7
      have s03 := sA.trans s7
      dsimp only [gName]
      refine ⟨_, rfl, N7, rfl, ⟨_, SqL.of hN7⟩, fun N nN => lc_lstD (pUnk t.ks) fUnk nN hN7 (ds := ([k]).map D.str) (Dvs.of_strs _ _) (by rw [List.length_map]; show 1 ≤ 1000000; decide) (fun x d H' Q M' hd hxd s1' hy hn => ?_) (fun H9 zs s9 hN hz => ?_)⟩
      · obtain ⟨z, _, rfl⟩ := List.mem_map.mp hd
        have hxd : x = .str z := hxd
        subst hxd
        refine ⟨rfl, _, rfl, ?_⟩
        refine if_noH (PV := fun H8 => Same H' H8) (fun Q q => ⟨_, rfl, rfl, _, rfl, (by rw [show decide (V.str st0 = V.str "undo") = false by rw [e0]; exact ne_of_words (by decide +kernel)]; exact q _ (Same.refl _))⟩) (fun H8 s8 => ?_)
        refine ⟨_, rfl, rt, _, _, _, rfl, rfl, .inl (.inl (((s03.trans s1').trans s8) _ _ hrt)), atI_nat (j := 1) rfl, pk, _, rfl, .inr (.inl (.inl (((s03.trans s1').trans s8) _ _ hpk))), rfl, flat_strs _, _, rfl, ite2 (fun e => ?_) (fun e => ?_)⟩
        · rw [if_pos rfl, inV_strs] at e
          exact ⟨_, rfl, two_le, fun t nt => hy e _ _ (s8.trans (same_upd nt)) (Dv.of_u upd_same)⟩
        · rw [if_pos rfl, inV_strs] at e
          exact hn (Bool.eq_false_iff.mpr e) _ s8
      · rw [unk_data] at hz
        exact q H9 N zs (s03.trans s9) (s03.free nN) hN hz
    | inp v =>
      obtain ⟨st0, e0⟩ : ∃ z : Str, z = "input" := ⟨_, rfl⟩
      have hr0 : H r = some (.tup (.str st0 :: xs)) := by rw [e0]; exact hr0
      rw [show (V.str (TS.word (TS.pl (P0.inp v)))) = V.str st0 by rw [e0]; rfl]
      refine st_seq (st_noH (P := fun H' => Same H H') (fun Q q => ⟨_, rfl, two_le, fun c nc => ⟨c, srV, rfl, .inl (SqL.of upd_same), rfl, sr_flat, _, rfl, by rw [if_neg Bool.false_ne_true, show inV (.str st0) srV = false by rw [e0]; decide +kernel]; exact q _ (same_upd nc)⟩⟩) (fun H1 s1 => ?_))
      dsimp only [tNext]
      refine st_seq (st_no (fun Q q => ⟨_, rfl, rfl, _, rfl, (by rw [show decide (V.str st0 = V.str "call") = false by rw [e0]; exact ne_of_words (by decide +kernel)]; exact q)⟩) ?_)
      dsimp only [tNext]
      refine st_seq (st_no (fun Q q => ⟨_, rfl, rfl, _, rfl, (by rw [show decide (V.str st0 = V.str "with") = false by rw [e0]; exact ne_of_words (by decide +kernel)]; exact q)⟩) ?_)
      dsimp only [tNext]
      refine st_seq (st_noH (P := fun H' => Same H1 H') (fun Q q => ⟨_, rfl, (by show 3 ≤ sizeLine; decide), fun c nc => ⟨c, rrV, rfl, .inl (SqL.of upd_same), rfl, rr_flat, _, rfl, by rw [if_neg Bool.false_ne_true, show inV (.str st0) rrV = false by rw [e0]; decide +kernel]; exact q _ (same_upd nc)⟩⟩) (fun H2 s2 => ?_))
      dsimp only [tNext]
      refine st_seq (st_no (fun Q q => ⟨_, rfl, rfl, _, rfl, (by rw [show decide (V.str st0 = V.str "try") = false by rw [e0]; exact ne_of_words (by decide +kernel)]; exact q)⟩) ?_)
      dsimp only [tNext]
      refine ⟨Nat.zero_le _, fun L nL => q _ L [] ((s1.trans s2).trans (same_upd nL)) ((s1.trans s2).free nL) upd_same rfl⟩
  | iff x y =>
    obtain ⟨st0, e0⟩ : ∃ z : Str, z = "if" := ⟨_, rfl⟩
    have hr0 : H r = some (.tup (.str st0 :: xs)) := by rw [e0]; exact hr0
    rw [show (V.str (TS.word (TS.iff x y))) = V.str st0 by rw [e0]; rfl]
    refine st_seq (st_noH (P := fun H' => Same H H') (fun Q q => ⟨_, rfl, two_le, fun c nc => ⟨c, srV, rfl, .inl (SqL.of upd_same), rfl, sr_flat, _, rfl, by rw [if_neg Bool.false_ne_true, show inV (.str st0) srV = false by rw [e0]; decide +kernel]; exact q _ (same_upd nc)⟩⟩) (fun H1 s1 => ?_))
    dsimp only [tNext]
    refine st_seq (st_no (fun Q q => ⟨_, rfl, rfl, _, rfl, (by rw [show decide (V.str st0 = V.str "call") = false by rw [e0]; exact ne_of_words (by decide +kernel)]; exact q)⟩) ?_)
    dsimp only [tNext]
    refine st_seq (st_no (fun Q q => ⟨_, rfl, rfl, _, rfl, (by rw [show decide (V.str st0 = V.str "with") = false by rw [e0]; exact ne_of_words (by decide +kernel)]; exact q)⟩) ?_)
    dsimp only [tNext]
    refine st_seq (st_noH (P := fun H' => Same H1 H') (fun Q q => ⟨_, rfl, (by show 3 ≤ sizeLine; decide), fun c nc => ⟨c, rrV, rfl, .inl (SqL.of upd_same), rfl, rr_flat, _, rfl, by rw [if_neg Bool.false_ne_true, show inV (.str st0) rrV = false by rw [e0]; decide +kernel]; exact q _ (same_upd nc)⟩⟩) (fun H2 s2 => ?_))
    dsimp only [tNext]
    refine st_seq (st_no (fun Q q => ⟨_, rfl, rfl, _, rfl, (by rw [show decide (V.str st0 = V.str "try") = false by rw [e0]; exact ne_of_words (by decide +kernel)]; exact q)⟩) ?_)
    dsimp only [tNext]
    refine ⟨Nat.zero_le _, fun L nL => q _ L [] ((s1.trans s2).trans (same_upd nL)) ((s1.trans s2).free nL) upd_same rfl⟩
  | whl x =>
    obtain ⟨st0, e0⟩ : ∃ z : Str, z = "while" := ⟨_, rfl⟩
    have hr0 : H r = some (.tup (.str st0 :: xs)) := by rw [e0]; exact hr0
    rw [show (V.str (TS.word (TS.whl x))) = V.str st0 by rw [e0]; rfl]
    refine st_seq (st_noH (P := fun H' => Same H H') (fun Q q => ⟨_, rfl, two_le, fun c nc => ⟨c, srV, rfl, .inl (SqL.of upd_same), rfl, sr_flat, _, rfl, by rw [if_neg Bool.false_ne_true, show inV (.str st0) srV = false by rw [e0]; decide +kernel]; exact q _ (same_upd nc)⟩⟩) (fun H1 s1 => ?_))
    dsimp only [tNext]
    refine st_seq (st_no (fun Q q => ⟨_, rfl, rfl, _, rfl, (by rw [show decide (V.str st0 = V.str "call") = false by rw [e0]; exact ne_of_words (by decide +kernel)]; exact q)⟩) ?_)
    dsimp only [tNext]
    refine st_seq (st_no (fun Q q => ⟨_, rfl, rfl, _, rfl, (by rw [show decide (V.str st0 = V.str "with") = false by rw [e0]; exact ne_of_words (by decide +kernel)]; exact q)⟩) ?_)
    dsimp only [tNext]
    refine st_seq (st_noH (P := fun H' => Same H1 H') (fun Q q => ⟨_, rfl, (by show 3 ≤ sizeLine; decide), fun c nc => ⟨c, rrV, rfl, .inl (SqL.of upd_same), rfl, rr_flat, _, rfl, by rw [if_neg Bool.false_ne_true, show inV (.str st0) rrV = false by rw [e0]; decide +kernel]; exact q _ (same_upd nc)⟩⟩) (fun H2 s2 => ?_))
    dsimp only [tNext]
    refine st_seq (st_no (fun Q q => ⟨_, rfl, rfl, _, rfl, (by rw [show decide (V.str st0 = V.str "try") = false by rw [e0]; exact ne_of_words (by decide +kernel)]; exact q)⟩) ?_)
    dsimp only [tNext]
    refine ⟨Nat.zero_le _, fun L nL => q _ L [] ((s1.trans s2).trans (same_upd nL)) ((s1.trans s2).free nL) upd_same rfl⟩
  | undo vs x =>
    obtain ⟨st0, e0⟩ : ∃ z : Str, z = "undo" := ⟨_, rfl⟩
    have hr0 : H r = some (.tup (.str st0 :: xs)) := by rw [e0]; exact hr0
    rw [show (V.str (TS.word (TS.undo vs x))) = V.str st0 by rw [e0]; rfl]
    refine st_seq (st_noH (P := fun H' => Same H H') (fun Q q => ⟨_, rfl, two_le, fun c nc => ⟨c, srV, rfl, .inl (SqL.of upd_same), rfl, sr_flat, _, rfl, by rw [if_neg Bool.false_ne_true, show inV (.str st0) srV = false by rw [e0]; decide +kernel]; exact q _ (same_upd nc)⟩⟩) (fun H1 s1 => ?_))
    dsimp only [tNext]
    refine st_seq (st_no (fun Q q => ⟨_, rfl, rfl, _, rfl, (by rw [show decide (V.str st0 = V.str "call") = false by rw [e0]; exact ne_of_words (by decide +kernel)]; exact q)⟩) ?_)
    dsimp only [tNext]
    refine st_seq (st_no (fun Q q => ⟨_, rfl, rfl, _, rfl, (by rw [show decide (V.str st0 = V.str "with") = false by rw [e0]; exact ne_of_words (by decide +kernel)]; exact q)⟩) ?_)
    dsimp only [tNext]
    refine st_seq (st_yesH (P := fun H' => Same H1 H') (fun Q q => ⟨_, rfl, (by show 3 ≤ sizeLine; decide), fun c nc => ⟨c, rrV, rfl, .inl (SqL.of upd_same), rfl, rr_flat, _, rfl, by rw [if_neg Bool.false_ne_true, show inV (.str st0) rrV = true by rw [e0]; decide +kernel]; exact q _ (same_upd nc)⟩⟩) (fun H2 s2 => ?_))
    have s02 := s1.trans s2
    obtain ⟨x1, _, rfl, hx1, _⟩ := hxs
    obtain ⟨p1, rfl, hp1⟩ := hx1.strs
    refine st_seq ?_
    refine if_noH (PV := fun H8 => Same H2 H8) (fun Q q => ⟨_, rfl, rfl, _, rfl, (by rw [show decide (V.str st0 = V.str "raise") = false by rw [e0]; exact ne_of_words (by decide +kernel)]; exact q _ (Same.refl _))⟩) (fun H3 s3 => ?_)
    have sA := s02.trans s3
    refine ⟨_, rfl, r, _, _, _, rfl, rfl, .inl (.inl (sA _ _ hr0)), atI_nat (j := 1) rfl, p1, _, rfl, .inr (.inl (.inl (sA _ _ hp1))), fun N7 nN7 => ?_⟩
    have s7 := same_upd (o := .lst ((vs).map V.str)) nN7
    have hN7 : (upd H3 N7 (.lst ((vs).map V.str))) N7 = some (.lst ((vs).map V.str)) := upd_same
    generalize upd H3 N7 (.lst ((vs).map V.str)) = H7 at s7 hN7
    have s03 := sA.trans s7
    dsimp only [gName]
    refine ⟨_, rfl, N7, rfl, ⟨_, SqL.of hN7⟩, fun N nN => lc_lstD (pUnk vars) fUnk nN hN7 (ds := (vs).map D.str) (Dvs.of_strs _ _) (by rw [List.length_map]; exact Nat.le_trans hF.2.1.len (by decide)) (fun x d H' Q M' hd hxd s1' hy hn => ?_) (fun H9 zs s9 hN hz => ?_)⟩
    · obtain ⟨z, _, rfl⟩ := List.mem_map.mp hd
      have hxd : x = .str z := hxd
      subst hxd
      refine ⟨rfl, _, rfl, ?_⟩
      refine if_yesH (PV := fun H8 => Same H' H8) (fun Q q => ⟨_, rfl, rfl, _, rfl, (by rw [show decide (V.str st0 = V.str "undo") = true by rw [e0]; exact decide_eq_true rfl]; exact q _ (Same.refl _))⟩) (fun H8 s8 => ?_)
      refine ⟨_, rfl, pvr, _, rfl, .inl (SqL.of (((s03.trans s1').trans s8) _ _ hpvr)), rfl, flat_strs _, _, rfl, ite2 (fun e => ?_) (fun e => ?_)⟩
      · rw [if_pos rfl, inV_strs] at e
        exact ⟨_, rfl, two_le, fun t nt => hy e _ _ (s8.trans (same_upd nt)) (Dv.of_u upd_same)⟩
      · rw [if_pos rfl, inV_strs] at e
        exact hn (Bool.eq_false_iff.mpr e) _ s8
    · rw [unk_data] at hz
      exact q H9 N zs (s03.trans s9) (s03.free nN) hN hz
  | wth f as g bs ks x =>
    obtain ⟨st0, e0⟩ : ∃ z : Str, z = "with" := ⟨_, rfl⟩
    have hr0 : H r = some (.tup (.str st0 :: xs)) := by rw [e0]; exact hr0
    rw [show (V.str (TS.word (TS.wth f as g bs ks x))) = V.str st0 by rw [e0]; rfl]
    refine st_seq (st_noH (P := fun H' => Same H H') (fun Q q => ⟨_, rfl, two_le, fun c nc => ⟨c, srV, rfl, .inl (SqL.of upd_same), rfl, sr_flat, _, rfl, by rw [if_neg Bool.false_ne_true, show inV (.str st0) srV = false by rw [e0]; decide +kernel]; exact q _ (same_upd nc)⟩⟩) (fun H1 s1 => ?_))
    dsimp only [tNext]
    refine st_seq (st_no (fun Q q => ⟨_, rfl, rfl, _, rfl, (by rw [show decide (V.str st0 = V.str "call") = false by rw [e0]; exact ne_of_words (by decide +kernel)]; exact q)⟩) ?_)
    dsimp only [tNext]
    refine st_seq (st_yes (fun Q q => ⟨_, rfl, rfl, _, rfl, (by rw [show decide (V.str st0 = V.str "with") = true by rw [e0]; exact decide_eq_true rfl]; exact q)⟩) ?_)
    obtain ⟨x1, _, rfl, h1, x2, _, rfl, h2, x3, _, rfl, h3, x4, _, rfl, h4, rfl⟩ := hxs
    obtain ⟨p3, rfl, hp3⟩ := h3.strs
    have hcF : ∀ c ∈ [(f, as), (g, bs)], ArsF c.2 := fun c hc => by
      simp only [List.mem_cons, List.not_mem_nil, or_false] at hc
      rcases hc with rfl | rfl
      · exact hF.2.1
      · exact hF.2.2.2.1
    have hksF : NsF ks := hF.2.2.2.2.1
    refine st_seq ⟨_, rfl, _, rfl, _, rfl, _, rfl, r, _, _, _, rfl, rfl, .inl (.inl (s1 _ _ hr0)), atI_nat (j := 1) rfl, _, rfl, r, _, _, _, rfl, rfl, .inl (.inl (s1 _ _ hr0)), atI_nat (j := 2) rfl, two_le, fun C nC => ?_⟩
    have sC := same_upd (o := .lst [x1, x2]) nC
    have s3 := s1.trans sC
    have t3 := TK.of s3
    refine ⟨_, pvr, C, i0, t, vars, [x1, x2], [(f, as), (g, bs)], rfl, hv1'.mono t3, hfl, hpl, s3 _ _ hpvr, upd_same, ⟨x1, _, rfl, h1.mono t3, x2, _, rfl, h2.mono t3, rfl⟩, Nat.le_refl 2, hcF, fun H4 F ys s4 nF hF4 hD4 => ?_⟩
    have s04 := s3.trans s4
    have nF0 := s3.free nF
    dsimp only [gName]
    have hol := ocE_len (t := t) (vars := vars) (i := i0) (cs := [(f, as), (g, bs)]) (Nat.le_refl 2) hcF
    have hyl := hD4.len
    rw [List.length_map] at hyl
    have hye := hD4.emp
    refine st_seq ⟨_, rfl, r, _, _, _, rfl, rfl, .inl (.inl (s04 _ _ hr0)), atI_nat (j := 3) rfl, p3, rfl, ⟨_, .inl (.inl (s04 _ _ hp3))⟩, fun N nN => lc_tupD (pUnk t.ks) fUnk nN (s04 _ _ hp3) (ds := ks.map D.str) (Dvs.of_strs _ _) (by rw [List.length_map]; exact Nat.le_trans hksF.len (by decide)) (fun x d H' Q M' hd hxd s1' hy hn => ?_) (fun H5 zs s5 hN hz => ?_)⟩
    · obtain ⟨z, _, rfl⟩ := List.mem_map.mp hd
      have hxd : x = .str z := hxd
      subst hxd
      refine ⟨rfl, _, rfl, _, rfl, rt, _, _, _, rfl, rfl, .inl (.inl ((s04.trans s1') _ _ hrt)), atI_nat (j := 1) rfl, pk, _, rfl, .inr (.inl (.inl ((s04.trans s1') _ _ hpk))), rfl, flat_strs _, _, rfl, ite2 (fun e => ?_) (fun e => ?_)⟩
      · rw [if_pos rfl, inV_strs] at e
        exact ⟨_, rfl, two_le, fun t nt => hy e _ _ (same_upd nt) (Dv.of_u upd_same)⟩
      · rw [if_pos rfl, inV_strs] at e
        exact hn (Bool.eq_false_iff.mpr e) H' (Same.refl _)
    rw [unk_data] at hz
    have hzl := hz.len
    rw [List.length_map] at hzl
    have hze := hz.emp
    have hul := unkL_len t.ks ks
    have hkl := hksF.len
    have s05 := s04.trans s5
    have nN0 := s04.free nN
    have hF5 := s5 _ _ hF4
    have hD5 := hD4.mono (TK.of s5)
    dsimp only [gName]
    generalize hfd : ocE t vars i0 [(f, as), (g, bs)] = fd at hD4 hD5 hyl hye hol
    generalize hwr : unkL t.ks ks = wr at hz hzl hze hul
    have hleE : leE t vars i0 (.wth f as g bs ks x) = if isArgE fd = true ∧ wr ≠ [] then wr else fd ++ wr := by
      show (if isArgE (ocE t vars i0 [(f, as), (g, bs)]) = true ∧ unkL t.ks ks ≠ [] then unkL t.ks ks else ocE t vars i0 [(f, as), (g, bs)] ++ unkL t.ks ks) = _
      rw [hfd, hwr]
    rw [hleE] at q
    have NE1 : ∀ {H6 : Hp} {b : Bool} {W : Addr} {ws : List V} {σ : L2.St} {j : Nat}, σ[j]? = some (some (V.ref W)) → H6 W = some (.lst ws) → (!ws.isEmpty) = b → AnsH (tTest (tOp (OwT.rNeNil K) (tVar j) (tLst tNil))) σ H6 b (fun H' => Same H6 H') := fun hσ hW hb Q q => ⟨_, hσ, Nat.zero_le _, fun Z nZ => ⟨_, Z, _, rfl, rfl, .inl ⟨SqL.of (same_upd nZ _ _ hW), SqL.of upd_same⟩, _, rfl, by rw [hb]; exact q _ (same_upd nZ)⟩⟩
    cases fd with
    | nil =>
      refine if_noH (PV := fun H8 => Same H5 H8) (ansH_and0 (NE1 rfl hF5 (by rw [hye]; rfl))) (fun H6 s6 => ?_)
      refine ⟨_, rfl, _, rfl, F, N, _, _, rfl, rfl, s6 _ _ hF5, s6 _ _ hN, bigLe2 (by omega), fun R nR => ?_⟩
      have sR := same_upd (o := .lst (ys ++ zs)) nR
      refine q _ R _ ((s05.trans s6).trans sR) ((s05.trans s6).free nR) upd_same ?_
      rw [if_neg (fun h => by cases h.1), List.map_append]
      exact Dvs.append (hD5.mono (TK.of (s6.trans sR))) (hz.mono (TK.of (s6.trans sR)))
    | cons er fd =>
      obtain ⟨u0, us, rfl, hu0, _⟩ := hD4
      have fin2 : ∀ (H6 : Hp) (Q : VK), Same H5 H6 → (isArgE (er :: fd) = false ∨ wr = []) → (∀ (H' : Hp) (R : Addr) (xs : List V), Same H5 H' → H5 R = none → H' R = some (.lst xs) → Dvs H' xs (DL.of (((er :: fd) ++ wr).map dEr)) → Q (.ref R) H') → rCat (.ref F) (.ref N) H6 Q := by
        intro H6 Q s6 _ k
        refine ⟨F, N, _, _, rfl, rfl, s6 _ _ hF5, s6 _ _ hN, bigLe2 (by omega), fun R nR => ?_⟩
        have sR := same_upd (o := .lst (u0 :: us ++ zs)) nR
        refine k _ R _ (s6.trans sR) (s6.free nR) upd_same ?_
        rw [List.map_append]
        exact Dvs.append (hD5.mono (TK.of (s6.trans sR))) (hz.mono (TK.of (s6.trans sR)))
      have tag : ∃ (ru : Addr) (tg : Str) (v : V), u0 = .ref ru ∧ H4 ru = some (.tup [.str tg, v]) ∧ decide (V.str tg = V.str "arguments") = isArgE (er :: fd) := by
        cases er with
        | dup z => obtain ⟨ru, _, rfl, hru, _, _, rfl, rfl, _, _, rfl, _, rfl⟩ := hu0; exact ⟨ru, _, _, rfl, hru, ne_of_words (by decide +kernel)⟩
        | unk z => obtain ⟨ru, _, rfl, hru, _, _, rfl, rfl, _, _, rfl, _, rfl⟩ := hu0; exact ⟨ru, _, _, rfl, hru, ne_of_words (by decide +kernel)⟩
        | arg z => obtain ⟨ru, _, rfl, hru, _, _, rfl, rfl, _, _, rfl, _, rfl⟩ := hu0; exact ⟨ru, _, _, rfl, hru, decide_eq_true rfl⟩
        | fin z => obtain ⟨ru, _, rfl, hru, _, _, rfl, rfl, _, _, rfl, _, rfl⟩ := hu0; exact ⟨ru, _, _, rfl, hru, ne_of_words (by decide +kernel)⟩
      obtain ⟨ru, tg, uv, rfl, hru, htg⟩ := tag
      by_cases ha : isArgE (er :: fd) = true
      · cases wr with
        | nil =>
          refine if_noH (PV := fun H8 => Same H5 H8) (ansH_andH (P1 := fun H8 => Same H5 H8) (NE1 rfl hF5 rfl) (fun H6 s6 => ansH_andH (P1 := fun H8 => Same H5 H8) (fun Q q => ⟨_, rfl, F, _, _, _, rfl, rfl, SqL.of (s6 _ _ hF5), atI_nat (j := 0) rfl, ru, _, _, _, rfl, rfl, .inl (.inl ((s5.trans s6) _ _ hru)), atI_nat (j := 0) rfl, rfl, _, rfl, by rw [htg, ha]; exact q _ s6⟩) (fun H7 s7 => fun Q q => NE1 (b := false) rfl (s7 _ _ hN) (by rw [hze]; rfl) Q (fun H' s' => q H' (s7.trans s'))))) (fun H6 s6 => ?_)
          refine ⟨_, rfl, _, rfl, fin2 H6 _ s6 (.inr rfl) fun H' R xs s' nR hR hx => q H' R xs (s05.trans s') (s05.free nR) hR (by rw [if_neg (fun h => h.2 rfl)]; exact hx)⟩
        | cons w0 wr =>
          refine if_yesH (PV := fun H8 => Same H5 H8) (ansH_andH (P1 := fun H8 => Same H5 H8) (NE1 rfl hF5 rfl) (fun H6 s6 => ansH_andH (P1 := fun H8 => Same H5 H8) (fun Q q => ⟨_, rfl, F, _, _, _, rfl, rfl, SqL.of (s6 _ _ hF5), atI_nat (j := 0) rfl, ru, _, _, _, rfl, rfl, .inl (.inl ((s5.trans s6) _ _ hru)), atI_nat (j := 0) rfl, rfl, _, rfl, by rw [htg, ha]; exact q _ s6⟩) (fun H7 s7 => fun Q q => NE1 (b := true) rfl (s7 _ _ hN) (by rw [hze]; rfl) Q (fun H' s' => q H' (s7.trans s'))))) (fun H6 s6 => ?_)
          exact ⟨_, rfl, q H6 N zs (s05.trans s6) nN0 (s6 _ _ hN) (by rw [if_pos ⟨ha, fun e => by cases e⟩]; exact hz.mono (TK.of s6))⟩
      · have ha : isArgE (er :: fd) = false := Bool.eq_false_iff.mpr ha
        refine if_noH (PV := fun H8 => Same H5 H8) (ansH_andH (P1 := fun H8 => Same H5 H8) (NE1 rfl hF5 rfl) (fun H6 s6 => ansH_and0 (fun Q q => ⟨_, rfl, F, _, _, _, rfl, rfl, SqL.of (s6 _ _ hF5), atI_nat (j := 0) rfl, ru, _, _, _, rfl, rfl, .inl (.inl ((s5.trans s6) _ _ hru)), atI_nat (j := 0) rfl, rfl, _, rfl, by rw [htg, ha]; exact q _ s6⟩))) (fun H6 s6 => ?_)
        refine ⟨_, rfl, _, rfl, fin2 H6 _ s6 (.inl ha) fun H' R xs s' nR hR hx => q H' R xs (s05.trans s') (s05.free nR) hR (by rw [if_neg (fun h => by rw [ha] at h; cases h.1)]; exact hx)⟩
  | tr x hs y =>
    obtain ⟨st0, e0⟩ : ∃ z : Str, z = "try" := ⟨_, rfl⟩
    have hr0 : H r = some (.tup (.str st0 :: xs)) := by rw [e0]; exact hr0
    rw [show (V.str (TS.word (TS.tr x hs y))) = V.str st0 by rw [e0]; rfl]
    refine st_seq (st_noH (P := fun H' => Same H H') (fun Q q => ⟨_, rfl, two_le, fun c nc => ⟨c, srV, rfl, .inl (SqL.of upd_same), rfl, sr_flat, _, rfl, by rw [if_neg Bool.false_ne_true, show inV (.str st0) srV = false by rw [e0]; decide +kernel]; exact q _ (same_upd nc)⟩⟩) (fun H1 s1 => ?_))
    dsimp only [tNext]
    refine st_seq (st_no (fun Q q => ⟨_, rfl, rfl, _, rfl, (by rw [show decide (V.str st0 = V.str "call") = false by rw [e0]; exact ne_of_words (by decide +kernel)]; exact q)⟩) ?_)
    dsimp only [tNext]
    refine st_seq (st_no (fun Q q => ⟨_, rfl, rfl, _, rfl, (by rw [show decide (V.str st0 = V.str "with") = false by rw [e0]; exact ne_of_words (by decide +kernel)]; exact q)⟩) ?_)
    dsimp only [tNext]
    refine st_seq (st_noH (P := fun H' => Same H1 H') (fun Q q => ⟨_, rfl, (by show 3 ≤ sizeLine; decide), fun c nc => ⟨c, rrV, rfl, .inl (SqL.of upd_same), rfl, rr_flat, _, rfl, by rw [if_neg Bool.false_ne_true, show inV (.str st0) rrV = false by rw [e0]; decide +kernel]; exact q _ (same_upd nc)⟩⟩) (fun H2 s2 => ?_))
    dsimp only [tNext]
    refine st_seq (st_yes (fun Q q => ⟨_, rfl, rfl, _, rfl, (by rw [show decide (V.str st0 = V.str "try") = true by rw [e0]; exact decide_eq_true rfl]; exact q)⟩) ?_)
    obtain ⟨x1, _, rfl, h1, x2, _, rfl, h2, x3, _, rfl, h3, rfl⟩ := hxs
    obtain ⟨ks, b, rfl⟩ := hone
    obtain ⟨rh, zs, rfl, hrh, z0, _, rfl, ⟨rh0, _, rfl, hrh0, k0, _, rfl, hk0, _⟩, _⟩ := h2
    obtain ⟨p3, rfl, hp3⟩ := hk0.strs
    have s02 := s1.trans s2
    have hksF : NsF ks := hF.2.2.1.2.1
    have hyF : y.F := hF.2.2.2
    have hyht : max x.ht (max (TH.ht (.cons ks b .nil)) y.ht) + 1 ≤ 7 := hht
    have hysz : x.sz + TH.sz (.cons ks b .nil) + y.sz + 1 ≤ 1000 := hsz
    refine st_seq ⟨_, rfl, r, _, _, _, rfl, rfl, .inl (.inl (s02 _ _ hr0)), atI_nat (j := 2) rfl, rh, _, _, _, rfl, rfl, .inl (.inl (s02 _ _ hrh)), atI_nat (j := 0) rfl, rh0, _, _, _, rfl, rfl, .inl (.inl (s02 _ _ hrh0)), atI_nat (j := 0) rfl, p3, rfl, ⟨_, .inl (.inl (s02 _ _ hp3))⟩, fun N nN => lc_tupD (pUnk t.ks) fUnk nN (s02 _ _ hp3) (ds := ks.map D.str) (Dvs.of_strs _ _) (by rw [List.length_map]; exact Nat.le_trans hksF.len (by decide)) (fun x d H' Q M' hd hxd s1' hy hn => ?_) (fun H5 zs s5 hN hz => ?_)⟩
    · obtain ⟨z, _, rfl⟩ := List.mem_map.mp hd
      have hxd : x = .str z := hxd
      subst hxd
      refine ⟨rfl, _, rfl, _, rfl, rt, _, _, _, rfl, rfl, .inl (.inl ((s02.trans s1') _ _ hrt)), atI_nat (j := 1) rfl, pk, _, rfl, .inr (.inl (.inl ((s02.trans s1') _ _ hpk))), rfl, flat_strs _, _, rfl, ite2 (fun e => ?_) (fun e => ?_)⟩
      · rw [if_pos rfl, inV_strs] at e
        exact ⟨_, rfl, two_le, fun t nt => hy e _ _ (same_upd nt) (Dv.of_u upd_same)⟩
      · rw [if_pos rfl, inV_strs] at e
        exact hn (Bool.eq_false_iff.mpr e) H' (Same.refl _)
    rw [unk_data] at hz
    have hze := hz.emp
    have s05 := s02.trans s5
    have nN0 := s02.free nN
    dsimp only [gName]
    refine st_seq ⟨_, rfl, r, _, _, _, rfl, rfl, .inl (.inl (s05 _ _ hr0)), atI_nat (j := 3) rfl, x3, y, 0, rfl, h3.mono (TK.of s05), hyF, (show y.ht ≤ 7 by omega), by omega, fun H6 L ls s6 nL hL hls => ⟨L, rfl, ⟨_, SqL.of hL⟩, fun M nM => ?_⟩⟩
    have hlsl := hls.len
    rw [List.length_map, List.length_zipIdx] at hlsl
    have hlb := list_szB y
    refine lc_list (K := K) (a := L) (xs := ls) (fun j H' => Same H6 H' ∧ H' M = some (.lst ((((listB y).take j).map TS.word).map V.str))) ⟨same_upd nM, upd_same⟩ (fun j H' _ hh => SqL.of (hh.1 _ _ hL)) ?_ ?_
    · rintro j u H7 hj ⟨s7, hM7⟩
      obtain ⟨d7, hd7, hu⟩ := (hls.mono (TK.of s7)).get hj
      obtain ⟨p, hp, rfl⟩ := get_map hd7
      have hst : ∃ st, (listB y)[j]? = some st ∧ p = (st, j) := by
        rw [List.getElem?_zipIdx] at hp
        cases e : (listB y)[j]? with
        | none => rw [e] at hp; cases hp
        | some st =>
          rw [e] at hp
          refine ⟨st, rfl, ?_⟩
          have := Option.some.inj hp
          rw [← this, Nat.zero_add]
      obtain ⟨st', hst', rfl⟩ := hst
      obtain ⟨rq, _, rfl, hrq, _, _, rfl, _, u', _, rfl, hu', rfl⟩ := hu
      rw [dS_is] at hu'
      obtain ⟨r', _, rfl, hr', x0, xs0, rfl, hx0, _⟩ := hu'
      have hx0 : x0 = .str st'.word := hx0
      subst hx0
      refine ⟨rfl, _, rfl, rq, _, _, _, rfl, rfl, .inl (.inl hrq), atI_nat (j := 1) rfl, r', _, _, _, rfl, rfl, .inl (.inl hr'), atI_nat (j := 0) rfl, _, hM7, ?_, same_mut s7 nM, ?_⟩
      · rw [List.length_map, List.length_map, List.length_take]
        exact bigLine (by omega)
      · rw [upd_same, List.take_add_one, hst', List.map_append, List.map_append]
        rfl
    rintro H7 ⟨s7, hM7⟩
    rw [hlsl, List.take_length] at hM7
    have s07 := (s05.trans s6).trans s7
    have hN7 := (s6.trans s7) _ _ hN
    dsimp only [gName]
    have hbf : bars.all flatV = true := by decide +kernel
    refine st_seq ⟨_, rfl, M, rfl, ⟨_, SqL.of hM7⟩, fun G nG => lc_lstD pBar (fun d => d) nG hM7 (ds := ((listB y).map TS.word).map D.str) (Dvs.of_strs _ _) (by rw [List.length_map, List.length_map]; omega) (fun x d H' Q M' hd hxd s1' hy hn => ?_) (fun H8 bs s8 hG hb => ?_)⟩
    · obtain ⟨z, _, rfl⟩ := List.mem_map.mp hd
      have hxd : x = .str z := hxd
      subst hxd
      refine ⟨rfl, _, rfl, (by show 5 ≤ sizeLine; decide), fun c nc => ⟨c, bars, rfl, .inl (SqL.of upd_same), rfl, hbf, _, rfl, ite2 (fun e => ?_) (fun e => ?_)⟩⟩
      · rw [if_neg Bool.false_ne_true] at e
        exact ⟨_, rfl, hy e _ _ (same_upd nc) rfl⟩
      · rw [if_neg Bool.false_ne_true] at e
        exact hn (Bool.eq_false_iff.mpr e) _ (same_upd nc)
    have hbe : bs.isEmpty = !(listB y).any barB := by
      rw [hb.emp]
      exact bar_emp y
    have s08 := s07.trans s8
    have hN8 := s8 _ _ hN7
    have hz8 := hz.mono (TK.of ((s6.trans s7).trans s8))
    dsimp only [gName]
    generalize hwr : unkL t.ks ks = wr at hz hz8 hze
    have hleE : leE t vars i0 (.tr x (.cons ks b .nil) y) = if wr = [] ∧ (listB y).any barB = true then [.fin i0] else wr := by
      show (if unkL t.ks ks = [] ∧ (listB y).any barB = true then [.fin i0] else unkL t.ks ks) = _
      rw [hwr]
    rw [hleE] at q
    have NE1 : ∀ {H6 : Hp} {b : Bool} {W : Addr} {ws : List V} {σ : L2.St} {j : Nat}, σ[j]? = some (some (V.ref W)) → H6 W = some (.lst ws) → (!ws.isEmpty) = b → AnsH (tTest (tOp (OwT.rNeNil K) (tVar j) (tLst tNil))) σ H6 b (fun H' => Same H6 H') := fun hσ hW hb Q q => ⟨_, hσ, Nat.zero_le _, fun Z nZ => ⟨_, Z, _, rfl, rfl, .inl ⟨SqL.of (same_upd nZ _ _ hW), SqL.of upd_same⟩, _, rfl, by rw [hb]; exact q _ (same_upd nZ)⟩⟩
    have EQ1 : ∀ {H6 : Hp} {b : Bool} {W : Addr} {ws : List V} {σ : L2.St} {j : Nat}, σ[j]? = some (some (V.ref W)) → H6 W = some (.lst ws) → ws.isEmpty = b → AnsH (tTest (tOp (OwT.rEqNil K) (tVar j) (tLst tNil))) σ H6 b (fun H' => Same H6 H') := fun hσ hW hb Q q => ⟨_, hσ, Nat.zero_le _, fun Z nZ => ⟨_, Z, _, rfl, rfl, SqL.of (same_upd nZ _ _ hW), SqL.of upd_same, _, rfl, by rw [hb]; exact q _ (same_upd nZ)⟩⟩
    cases wr with
    | cons w0 wr =>
      refine if_yesH (PV := fun H9 => Same H8 H9) (ansH_or1 (NE1 rfl hN8 (by rw [hze]; rfl))) (fun H9 s9 => ?_)
      exact ⟨_, rfl, q H9 N zs (s08.trans s9) nN0 (s9 _ _ hN8) (by rw [if_neg (fun h => by cases h.1)]; exact hz8.mono (TK.of s9))⟩
    | nil =>
      cases hany : (listB y).any barB with
      | false =>
        refine if_yesH (PV := fun H9 => Same H8 H9) (ansH_orH (P1 := fun H9 => Same H8 H9) (NE1 (b := false) rfl hN8 (by rw [hze]; rfl)) (fun H9 s9 => fun Q q => EQ1 (b := true) rfl (s9 _ _ hG) (by rw [hbe, hany]; rfl) Q (fun H' s' => q H' (s9.trans s')))) (fun H9 s9 => ?_)
        exact ⟨_, rfl, q H9 N zs (s08.trans s9) nN0 (s9 _ _ hN8) (by rw [if_neg (fun h => by rw [hany] at h; cases h.2)]; exact hz8.mono (TK.of s9))⟩
      | true =>
        refine if_noH (PV := fun H9 => Same H8 H9) (ansH_orH (P1 := fun H9 => Same H8 H9) (NE1 (b := false) rfl hN8 (by rw [hze]; rfl)) (fun H9 s9 => fun Q q => EQ1 (b := false) rfl (s9 _ _ hG) (by rw [hbe, hany]; rfl) Q (fun H' s' => q H' (s9.trans s')))) (fun H9 s9 => ?_)
        refine ⟨_, rfl, two_le, fun z nz => ⟨one_le, fun W nW => ?_⟩⟩
        have sz := same_upd (o := .tup [.str "finally", .int (i0 : Nat)]) nz
        have sW := same_upd (o := .lst [.ref z]) nW
        have s09 := (s08.trans s9).trans sz
        refine q _ W [.ref z] (s09.trans sW) (s09.free nW) upd_same ?_
        rw [if_pos ⟨rfl, hany⟩]
        exact ⟨.ref z, [], rfl, ⟨z, _, rfl, sW _ _ upd_same, _, _, rfl, rfl, _, _, rfl, rfl, rfl⟩, rfl⟩
end
end K10
namespace K10
open PySem PySem.Spec PyProof.Rows L2 TL
/-! ### the law's first error is the program's -/
theorem head_toList (o : Option Er) : o.toList.head? = o := by cases o <;> rfl
theorem head_flat {α : Type} (f : α → List Er) : ∀ l : List α, (l.flatMap f).head? = l.findSome? fun x => (f x).head?
  | [] => rfl
  | x :: r => by
    rw [List.flatMap_cons, List.head?_append, List.findSome?_cons, head_flat f r]
    cases (f x).head? <;> rfl
theorem head_unkL (kn ns : List Str) : (unkL kn ns).head? = unkE kn ns := by
  unfold unkL unkE
  rw [List.head?_map, List.head?_filter]
abbrev fn1 (f : Str) : Str × Str := ("function", f)
def unkU (vs ks fs : List Str) (us : List (Str × Str)) : Option Er := (us.find? fun u => !uokB vs ks fs u).map fun u => Er.unk u.2
theorem unkU_app (vs ks fs : List Str) (a b : List (Str × Str)) : unkU vs ks fs (a ++ b) = (unkU vs ks fs a).or (unkU vs ks fs b) := by
  unfold unkU
  rw [List.find?_append]
  cases a.find? fun u => !uokB vs ks fs u <;> rfl
theorem unkU_of {vs ks fs : List Str} {g : Str → Str × Str} {pool : List Str} (h : ∀ z, uokB vs ks fs (g z) = decide (z ∈ pool)) (h2 : ∀ z, (g z).2 = z) : ∀ ns : List Str, unkU vs ks fs (ns.map g) = unkE pool ns
  | [] => rfl
  | z :: r => by
    have ih := unkU_of (pool := pool) h h2 r
    unfold unkU unkE at ih ⊢
    rw [List.map_cons, List.find?_cons, List.find?_cons, h]
    cases decide (z ∈ pool) with
    | true => exact ih
    | false => show some (Er.unk (g z).2) = some (Er.unk z); rw [h2]
theorem unkU_vr (vs ks fs ns : List Str) : unkU vs ks fs (ns.map vr) = unkE vs ns := unkU_of (fun z => by show decide (z ∈ poolN vs ks fs "variable") = _; rw [pn_v]) (fun _ => rfl) ns
theorem unkU_kn (vs ks fs ns : List Str) : unkU vs ks fs (ns.map kn) = unkE ks ns := unkU_of (fun z => by show decide (z ∈ poolN vs ks fs "kind") = _; rw [pn_k]) (fun _ => rfl) ns
theorem unkU_fn (vs ks fs : List Str) (n : Str) : unkU vs ks fs [fn1 n] = unkE fs [n] := unkU_of (g := fn1) (fun z => by show decide (z ∈ poolN vs ks fs "function") = _; rw [pn_f]) (fun _ => rfl) [n]
theorem ex_vr (e : Ex) : exUses e = (e.2.map (·.1)).map vr := by
  unfold exUses
  rw [List.map_map]
  rfl
theorem ars_vr : ∀ as : List Ar, as.flatMap arUses = (as.flatMap arWords).map vr
  | [] => rfl
  | a :: r => by
    rw [List.flatMap_cons, List.flatMap_cons, List.map_append, ars_vr r]
    cases a with
    | pla v => rfl
    | val e => show exUses e ++ _ = _; rw [ex_vr]; rfl
theorem unk_in {ks : List Str} {v : Str} (h : v ∈ ks) : unkE ks [v] = none := by rw [unk1, if_pos h]
theorem stE_or (vs ks : List Str) (hs : List Hd) (i : Nat) (s : TS) : stE vs ks hs i s = (unkU vs ks (hs.map (·.1)) s.uses).or (if s.calls.any (fun c => !fitB c.2 (parOf hs c.1)) then some (.arg i) else if finB s then none else some (.fin i)) := by
  unfold stE unkU
  cases s.uses.find? fun u => !uokB vs ks (hs.map (·.1)) u <;> rfl
theorem ocF_head (heads vars : List Str) (c : Str × List Ar) : (ocF heads vars c).head? = (unkE heads [c.1]).or (unkE vars (c.2.flatMap arWords)) := by
  unfold ocF
  rw [List.head?_append, head_unkL, head_unkL]
theorem nil_of_head {l : List Er} (h : l.head? = none) : l = [] := by
  cases l with
  | nil => rfl
  | cons _ _ => cases h
theorem ocF_unk {heads vars : List Str} {c : Str × List Ar} : ∀ e ∈ ocF heads vars c, ∃ z, e = .unk z := by
  intro e he
  unfold ocF unkL at he
  rcases List.mem_append.mp he with he | he
  · obtain ⟨z, _, rfl⟩ := List.mem_map.mp he
    exact ⟨z, rfl⟩
  · obtain ⟨z, _, rfl⟩ := List.mem_map.mp he
    exact ⟨z, rfl⟩
theorem uses_call (tg : Option Str) (f : Str) (as : List Ar) : TS.uses (.pl (.call tg f as)) = Part.uses (.tgt tg) ++ ([fn1 f] ++ as.flatMap arUses) := by
  show Part.uses (.tgt tg) ++ (Part.uses (.fn f) ++ (Part.uses (.args as) ++ [])) = _
  rw [List.append_nil]
  rfl
theorem uses_wth (f : Str) (as : List Ar) (g : Str) (bs : List Ar) (ks : List Str) (x : TB) : TS.uses (.wth f as g bs ks x) = ([fn1 f] ++ as.flatMap arUses) ++ (([fn1 g] ++ bs.flatMap arUses) ++ ks.map kn) := by
  show Part.uses (.made f as) ++ (Part.uses (.made g bs) ++ (Part.uses (.swal ks) ++ (Part.uses (.blk x) ++ []))) = _
  show (fn1 f :: as.flatMap arUses) ++ ((fn1 g :: bs.flatMap arUses) ++ (ks.map kn ++ ([] ++ []))) = _
  rw [List.append_nil, List.append_nil]
  rfl
theorem made_U (vs ks fs : List Str) (f : Str) (as : List Ar) : unkU vs ks fs ([fn1 f] ++ as.flatMap arUses) = (ocF fs vs (f, as)).head? := by
  rw [unkU_app, unkU_fn, ars_vr, unkU_vr, ocF_head]
theorem le_head {t : Tree} {vars : List Str} {i : Nat} : ∀ {st : TS}, (∀ v, st.asg = some v → v ∈ vars) → OneH st → (leE t vars i st).head? = stE vars t.ks (t.fs.map hdOf) i st := by
  intro st ha ho
  rw [stE_or, hd_nms]
  cases st with
  | pl p =>
    cases p with
    | set v e =>
      have hu : TS.uses (.pl (.set v e)) = [v].map vr ++ (e.2.map (·.1)).map vr := by
        show Part.uses (.var v) ++ (Part.uses (.sum e) ++ []) = _
        rw [List.append_nil, ← ex_vr]
        rfl
      rw [hu, unkU_app, unkU_vr, unkU_vr, unk_in (ha v rfl)]
      show (unkL vars (e.2.map (·.1))).head? = _
      rw [head_unkL]
      show _ = (Option.or none (unkE vars (e.2.map (·.1)))).or none
      cases unkE vars (e.2.map (·.1)) <;> rfl
    | ret e =>
      have hu : TS.uses (.pl (.ret e)) = (e.2.map (·.1)).map vr := by
        show Part.uses (.sum e) ++ [] = _
        rw [List.append_nil, ← ex_vr]
        rfl
      rw [hu, unkU_vr]
      show (unkL vars (e.2.map (·.1))).head? = _
      rw [head_unkL]
      show _ = (unkE vars (e.2.map (·.1))).or none
      cases unkE vars (e.2.map (·.1)) <;> rfl
    | inp v =>
      have hu : TS.uses (.pl (.inp v)) = [v].map vr := rfl
      rw [hu, unkU_vr, unk_in (ha v rfl)]
      rfl
    | risk ks =>
      have hu : TS.uses (.pl (.risk ks)) = ks.map kn := by
        show Part.uses (.knds ks) ++ [] = _
        rw [List.append_nil]
        rfl
      rw [hu, unkU_kn]
      show (unkL t.ks ks).head? = (unkE t.ks ks).or none
      rw [head_unkL]
      cases unkE t.ks ks <;> rfl
    | rse k =>
      have hu : TS.uses (.pl (.rse k)) = [k].map kn := rfl
      rw [hu, unkU_kn]
      show (unkL t.ks [k]).head? = (unkE t.ks [k]).or none
      rw [head_unkL]
      cases unkE t.ks [k] <;> rfl
    | call tg f as =>
      have htg : unkU vars t.ks (t.fs.map (·.nm)) (Part.uses (.tgt tg)) = none := by
        cases tg with
        | none => rfl
        | some v =>
          have hu : Part.uses (.tgt (some v)) = [v].map vr := rfl
          rw [hu, unkU_vr, unk_in (ha v rfl)]
      rw [uses_call, unkU_app, htg, made_U]
      show (ocE t vars i [(f, as)]).head? = _
      have e1 : [(f, as)].flatMap (ocF (t.fs.map (·.nm)) vars) = ocF (t.fs.map (·.nm)) vars (f, as) := by
        show _ ++ [] = _
        rw [List.append_nil]
      unfold ocE
      rw [e1]
      show _ = (Option.or none (ocF (t.fs.map (·.nm)) vars (f, as)).head?).or (if [(f, as)].any (fun c => !fitB c.2 (parOf (t.fs.map hdOf) c.1)) then some (.arg i) else none)
      cases ocF (t.fs.map (·.nm)) vars (f, as) with
      | nil =>
        rw [if_pos rfl]
        cases [(f, as)].any (fun c => !fitB c.2 (parOf (t.fs.map hdOf) c.1)) <;> rfl
      | cons e r =>
        rw [if_neg (fun z => by cases z)]
        rfl
  | iff x y => rfl
  | whl x => rfl
  | undo vs x =>
    have hu : TS.uses (.undo vs x) = vs.map vr := by
      show Part.uses (.vars vs) ++ (Part.uses (.blk x) ++ []) = _
      show vs.map vr ++ ([] ++ []) = _
      rw [List.append_nil, List.append_nil]
    rw [hu, unkU_vr]
    show (unkL vars vs).head? = (unkE vars vs).or none
    rw [head_unkL]
    cases unkE vars vs <;> rfl
  | tr x hs y =>
    obtain ⟨ks, b, rfl⟩ := ho
    have hu : TS.uses (.tr x (.cons ks b .nil) y) = ks.map kn := by
      show Part.uses (.blk x) ++ (Part.uses (.hds (.cons ks b .nil)) ++ (Part.uses (.blk y) ++ [])) = _
      show [] ++ ((ks.map kn ++ []) ++ ([] ++ [])) = _
      rw [List.append_nil, List.append_nil, List.append_nil, List.nil_append]
    rw [hu, unkU_kn]
    show (if unkL t.ks ks = [] ∧ (listB y).any barB = true then [Er.fin i] else unkL t.ks ks).head? = (unkE t.ks ks).or (if (!(listB y).any barB) = true then none else some (.fin i))
    rw [← head_unkL]
    cases unkL t.ks ks with
    | nil =>
      cases (listB y).any barB with
      | true => rfl
      | false => rfl
    | cons e r =>
      rw [if_neg (fun h => by cases h.1)]
      rfl
  | wth f as g bs ks x =>
    rw [uses_wth, unkU_app _ _ _ ([fn1 f] ++ as.flatMap arUses), unkU_app _ _ _ ([fn1 g] ++ bs.flatMap arUses), made_U, made_U, unkU_kn, ← head_unkL]
    show (if isArgE (ocE t vars i [(f, as), (g, bs)]) = true ∧ unkL t.ks ks ≠ [] then unkL t.ks ks else ocE t vars i [(f, as), (g, bs)] ++ unkL t.ks ks).head? = _
    show _ = Option.or _ (if [(f, as), (g, bs)].any (fun c => !fitB c.2 (parOf (t.fs.map hdOf) c.1)) then some (Er.arg i) else none)
    have e1 : [(f, as), (g, bs)].flatMap (ocF (t.fs.map (·.nm)) vars) = ocF (t.fs.map (·.nm)) vars (f, as) ++ ocF (t.fs.map (·.nm)) vars (g, bs) := by
      show _ ++ (_ ++ []) = _
      rw [List.append_nil]
    have hunk : ∀ e ∈ ocF (t.fs.map (·.nm)) vars (f, as) ++ ocF (t.fs.map (·.nm)) vars (g, bs), ∃ z, e = .unk z := fun e he => by
      rcases List.mem_append.mp he with he | he
      · exact ocF_unk e he
      · exact ocF_unk e he
    unfold ocE
    rw [e1]
    rw [show ∀ a b c : Option Er, a.or (b.or c) = (a.or b).or c by intro a b c; cases a <;> rfl]
    rw [show ((ocF (t.fs.map (·.nm)) vars (f, as)).head?.or (ocF (t.fs.map (·.nm)) vars (g, bs)).head?) = (ocF (t.fs.map (·.nm)) vars (f, as) ++ ocF (t.fs.map (·.nm)) vars (g, bs)).head? from List.head?_append.symm]
    generalize ocF (t.fs.map (·.nm)) vars (f, as) ++ ocF (t.fs.map (·.nm)) vars (g, bs) = fd at hunk
    cases fd with
    | nil =>
      rw [if_pos rfl]
      cases [(f, as), (g, bs)].any (fun c => !fitB c.2 (parOf (t.fs.map hdOf) c.1)) with
      | true =>
        cases unkL t.ks ks with
        | nil => rfl
        | cons e r => rfl
      | false =>
        cases unkL t.ks ks with
        | nil => rfl
        | cons e r => rfl
    | cons e r =>
      obtain ⟨z, rfl⟩ := hunk e List.mem_cons_self
      have e5 : ∀ q : List Er, (if (Er.unk z :: r) = [] then q else (Er.unk z :: r)) = Er.unk z :: r := fun q => if_neg (fun h => by cases h)
      rw [e5, if_neg (fun h => absurd (show false = true from h.1) Bool.false_ne_true)]
      rfl
/-! assigned variables are known -/
theorem loc_keep : ∀ (l : List TS) (st : List Str × List Str) (v : Str), v ∈ st.1 → v ∈ (l.foldl locStep st).1
  | [], _, _, h => h
  | s :: r, st, v, h => by
    rw [List.foldl_cons]
    refine loc_keep r _ v ?_
    unfold locStep
    cases s.asg with
    | none => exact h
    | some z =>
      dsimp only
      split
      · exact h
      · exact List.mem_append_left _ h
theorem loc_mem : ∀ (l : List TS) (st : List Str × List Str) {s : TS} {v : Str}, s ∈ l → s.asg = some v → v ∈ (l.foldl locStep st).1
  | [], _, _, _, h, _ => by cases h
  | s :: r, st, s', v, h, e => by
    rw [List.foldl_cons]
    rcases List.mem_cons.mp h with rfl | h
    · refine loc_keep r _ v ?_
      unfold locStep
      rw [e]
      dsimp only
      split
      · assumption
      · exact List.mem_append_right _ List.mem_cons_self
    · exact loc_mem r _ h e
theorem asg_known {t : Tree} {f : FnT} {s : TS} (hs : s ∈ listB f.bk) : ∀ v, s.asg = some v → v ∈ t.gs ++ (f.ps.map (·.1) ++ localsT t.gs f) := fun v e => by
  rw [← loc_own]
  exact loc_mem _ _ hs e
/-! ### what is due -/
def leB (t : Tree) (f : FnT) : List Er := (listB f.bk).zipIdx.flatMap fun p => leE t (t.gs ++ (f.ps.map (·.1) ++ localsT t.gs f)) p.2 p.1
def dueStep (t : Tree) (l : List Er) (f : FnT) : List Er := if l = [] then l ++ leB t f else l
def due1 (t : Tree) : List Er := (dupE (t.gs ++ t.ks ++ t.fs.map (·.nm))).toList
def due2 (t : Tree) : List Er := due1 t ++ t.fs.flatMap fun f => (ownE t f).toList
def due3 (t : Tree) (e : Ex) : List Er := due2 t ++ unkL t.gs (e.2.map (·.1))
def dueL (t : Tree) (e : Ex) : List Er := t.fs.foldl (dueStep t) (due3 t e)
theorem due_stay (t : Tree) : ∀ (fs : List FnT) (l : List Er), l ≠ [] → fs.foldl (dueStep t) l = l
  | [], _, _ => rfl
  | f :: r, l, h => by
    rw [List.foldl_cons]
    unfold dueStep
    rw [if_neg h]
    exact due_stay t r l h
theorem due_go (t : Tree) : ∀ fs : List FnT, (fs.foldl (dueStep t) []).head? = fs.findSome? fun f => (leB t f).head?
  | [] => rfl
  | f :: r => by
    rw [List.foldl_cons, List.findSome?_cons]
    have e : dueStep t [] f = leB t f := by unfold dueStep; rw [if_pos rfl]; rfl
    rw [e]
    cases h : leB t f with
    | nil => exact due_go t r
    | cons x y => rw [due_stay t r _ (fun z => by cases z)]; rfl
theorem fs_congr {α β : Type} {f g : α → Option β} : ∀ {l : List α}, (∀ x ∈ l, f x = g x) → l.findSome? f = l.findSome? g
  | [], _ => rfl
  | x :: r, h => by
    rw [List.findSome?_cons, List.findSome?_cons, h x List.mem_cons_self, fs_congr fun y hy => h y (List.mem_cons_of_mem _ hy)]
theorem due_head {t : Tree} {e : Ex} (hk : t.kp = [e]) (ho : ∀ f ∈ t.fs, ∀ s ∈ listB f.bk, OneH s) : (dueL t e).head? = treeE t := by
  have h3 : (due3 t e).head? = ((dupE (t.gs ++ t.ks ++ t.fs.map (·.nm))).or (t.fs.findSome? (ownE t))).or (keepE t e) := by
    unfold due3 due2 due1
    rw [List.head?_append, List.head?_append, head_toList, head_flat, head_unkL]
    simp only [head_toList]
    rfl
  have hb : ∀ f ∈ t.fs, (leB t f).head? = bodyE t f := fun f hf => by
    unfold leB bodyE
    rw [head_flat]
    refine fs_congr fun p hp => ?_
    have hm : p.1 ∈ listB f.bk := List.fst_mem_of_mem_zipIdx hp
    exact le_head (asg_known hm) (ho f hf p.1 hm)
  unfold dueL treeE
  cases hd : due3 t e with
  | nil =>
    rw [hd] at h3
    rw [due_go, fs_congr hb]
    have h3 : none = ((dupE (t.gs ++ t.ks ++ t.fs.map (·.nm))).or (t.fs.findSome? (ownE t))).or (keepE t e) := h3
    cases h1 : dupE (t.gs ++ t.ks ++ t.fs.map (·.nm)) with
    | some z => rw [h1] at h3; cases h3
    | none =>
      cases h2 : t.fs.findSome? (ownE t) with
      | some z => rw [h1, h2] at h3; cases h3
      | none =>
        rw [h1, h2] at h3
        have h4 : keepE t e = none := h3.symm
        rw [hk, List.findSome?_cons, h4]
        rfl
  | cons x r =>
    rw [due_stay t _ _ (fun z => by cases z)]
    rw [hd] at h3
    rw [h3]
    cases h1 : dupE (t.gs ++ t.ks ++ t.fs.map (·.nm)) with
    | some z => rfl
    | none =>
      cases h2 : t.fs.findSome? (ownE t) with
      | some z => rfl
      | none =>
        rw [h1, h2] at h3
        have h4 : keepE t e = some x := h3.symm
        rw [hk, List.findSome?_cons, h4]
        rfl
end K10
namespace K10
open PySem PySem.Spec PyProof.Rows L2 TL
theorem cut_drop {xs : List V} {k : Nat} : cutV xs (some ((k : Nat) : Int)) none = xs.drop k := by
  unfold cutV
  rw [show HT.sIx xs.length 0 (some (k : Int)) = min k xs.length from HT.sIx_nat _ _ k, HT.sIx_none]
  by_cases h : k ≤ xs.length
  · rw [Nat.min_eq_left h]
    exact List.take_of_length_le (by rw [List.length_drop]; omega)
  · rw [Nat.min_eq_right (by omega), List.drop_of_length_le (Nat.le_refl _), List.drop_of_length_le (by omega), List.take_nil]
theorem ar_words_2 {as : List Ar} (h : ArsF as) : (as.flatMap arWords).length ≤ 2500 := by
  refine Nat.le_trans (flat_le (m := 50) fun x hx => ?_) (by have := h.len; omega)
  have := h.ok x hx
  cases x with
  | pla v => show 1 ≤ 50; decide
  | val e => show (e.2.map _).length ≤ 50; rw [List.length_map]; exact SumF.len this
theorem ocE_2 {t : Tree} {vars : List Str} {i : Nat} {cs : List (Str × List Ar)} (h : cs.length ≤ 2) (hF : ∀ c ∈ cs, ArsF c.2) : (ocE t vars i cs).length ≤ 5002 := by
  unfold ocE
  split
  · split
    · show 1 ≤ _; decide
    · exact Nat.zero_le _
  · refine Nat.le_trans (flat_le (m := 2501) fun x hx => ?_) ?_
    · unfold ocF
      rw [List.length_append]
      have h1 := unkL_len (t.fs.map (·.nm)) [x.1]
      have h2 := unkL_len vars (x.2.flatMap arWords)
      have h3 := ar_words_2 (hF x hx)
      rw [List.length_singleton] at h1
      omega
    · have := Nat.mul_le_mul_right 2501 h
      omega
theorem leE_len {t : Tree} {vars : List Str} {i : Nat} : ∀ {st : TS}, st.F → OneH st → (leE t vars i st).length ≤ 6002 := by
  intro st hF ho
  have hs : ∀ {e : Ex}, SumF e → (unkL vars (e.2.map (·.1))).length ≤ 6002 := fun {e} h => by
    have := unkL_len vars (e.2.map (·.1))
    have := h.len
    rw [List.length_map] at *
    omega
  have hk : ∀ {p ks : List Str}, NsF ks → (unkL p ks).length ≤ 1000 := fun {p ks} h => Nat.le_trans (unkL_len p ks) h.len
  cases st with
  | pl p =>
    cases p with
    | set v e => exact hs hF.2
    | ret e => exact hs hF
    | inp v => exact Nat.zero_le _
    | risk ks => exact Nat.le_trans (hk hF.2) (by decide)
    | rse k => exact Nat.le_trans (unkL_len t.ks [k]) (by show 1 ≤ 6002; decide)
    | call tg f as => exact Nat.le_trans (ocE_2 (cs := [(f, as)]) (by show 1 ≤ 2; decide) fun c hc => by rw [List.mem_singleton.mp hc]; exact hF.2.2) (by decide)
  | iff x y => exact Nat.zero_le _
  | whl x => exact Nat.zero_le _
  | undo vs x => exact Nat.le_trans (hk hF.2.1) (by decide)
  | tr x hs' y =>
    obtain ⟨ks, b, rfl⟩ := ho
    have h1 := hk (p := t.ks) (show NsF ks from hF.2.2.1.2.1)
    show (if unkL t.ks ks = [] ∧ (listB y).any barB = true then [Er.fin i] else unkL t.ks ks).length ≤ 6002
    split
    · show 1 ≤ 6002; decide
    · omega
  | wth f as g bs ks x =>
    have h1 := hk (p := t.ks) (show NsF ks from hF.2.2.2.2.1)
    have h2 := ocE_2 (t := t) (vars := vars) (i := i) (cs := [(f, as), (g, bs)]) (Nat.le_refl 2) fun c hc => by
      simp only [List.mem_cons, List.not_mem_nil, or_false] at hc
      rcases hc with rfl | rfl
      · exact hF.2.1
      · exact hF.2.2.2.1
    show (if isArgE (ocE t vars i [(f, as), (g, bs)]) = true ∧ unkL t.ks ks ≠ [] then unkL t.ks ks else ocE t vars i [(f, as), (g, bs)] ++ unkL t.ks ks).length ≤ 6002
    split
    · omega
    · rw [List.length_append]
      omega
theorem unkL_app (kn a b : List Str) : unkL kn (a ++ b) = unkL kn a ++ unkL kn b := by
  unfold unkL
  rw [List.filter_append, List.map_append]
theorem opt_len (o : Option Er) : o.toList.length ≤ 1 := by
  cases o
  · exact Nat.zero_le _
  · exact Nat.le_refl 1
def dueD (t : Tree) : D := match treeE t with
  | some e => dEr e
  | none => tp [.str "fine", .int 0]
structure TreeL (t : Tree) (e : Ex) : Prop where
  F : TreeF t
  Z : TreeSz t
  k : t.kp = [e]
  o : ∀ f ∈ t.fs, ∀ s ∈ listB f.bk, OneH s
def spDue : Sp := fun vs H Q _ => ∃ (v : V) (t : Tree) (e : Ex), vs = [v] ∧ Dv H v (dT t) ∧ TreeL t e ∧ ∀ (H' : Hp) (v' : V), Same H H' → Dv H' v' (dueD t) → Q v' H'
section
variable {P : Program} {w : World} {K : PySem.W.Frag} {mg : Str → Option Value} {base : Heap} {a : Ads}
theorem sc__law_due : FnScope ["_law_tree", "_law_everywhere", "_law_found", "_law_function", "_law_term", "_law_own", "_law_place", "_law_statement"] ["_law_tree"] (defScope s__law_due) := ⟨rfl, rfl, rfl, by decide +kernel, rfl, by decide +kernel, by decide +kernel⟩
theorem ok__law_due (T : Txt K mg a) : FnOk P w K mg base CX0 13 a.f__law_due a.f__law_due_d ["_law_tree"] spDue := by
  refine T.F__law_due.ok sc__law_due (fun vs H Q E h => ?_) (fun cdv A outer s H vs Q E hr h => ?_)
  · obtain ⟨v, t, e, rfl, _⟩ := h
    rfl
  obtain ⟨v, t, e0, rfl, hv, ⟨hF, hZ, hk, ho⟩, q⟩ := h
  refine ⟨_, (pss_cons (ps_set (i := 1) sc__law_due.nd rfl (Or.inl rfl) (pe_op op_cat (pe_op op_cat (pe_callTy call_list_of (by rfl) T.list (by decide +kernel) (pa_cons (pe_ix ix_tup (pv 0) pe_int (fun _ _ => rfl)) pa_nil)) (pe_callTy call_list_of (by rfl) T.list (by decide +kernel) (pa_cons (pe_ix ix_tup (pv 0) pe_int (fun _ _ => rfl)) pa_nil))) (pe_lc (own := [("_law_function", 3)]) (g := gName 3) (tt := tYes) (by rfl) sc__law_due.nd (pi_tup (pe_ix ix_tup (pv 0) pe_int (fun _ _ => rfl))) (blkOk_by (own := [("_law_function", 3)]) (N := ["_law_tree", "_law_everywhere", "_law_found", "_law_function", "_law_term", "_law_own", "_law_place", "_law_statement"]) (sc := defScope s__law_due) (by decide +kernel)) (fun _ _ _ _ _ => pg_name (i := 3) sc__law_due.nd rfl (Or.inl rfl)) (fun _ _ _ _ _ => pts_nil) (fun _ _ _ _ _ => (pe_ix (show IxR _ (rIxT K) from ix_tup) (pv 3) pe_int (fun _ _ => rfl))))))
    (pss_cons (ps_set (i := 2) sc__law_due.nd rfl (Or.inl rfl) (pe_call (ok__law_twice T) (hr.mono (by decide)) (by rfl) T.g__law_twice T.F__law_twice.kp T.b__law_twice .nil pass0 (pa_cons (pv 1) pa_nil)))
    (pss_cons (ps_for PassesOwn.never rfl (pi_tup (pe_ix ix_tup (pv 0) pe_int (fun _ _ => rfl))) (pg_name (i := 3) sc__law_due.nd rfl (Or.inl rfl))
      (pss_cons (ps_set (i := 5) sc__law_due.nd rfl (Or.inl rfl) (pe_call (ok__law_own_names T) (hr.mono (by decide)) (by rfl) T.g__law_own_names T.F__law_own_names.kp T.b__law_own_names .nil pass0 (pa_cons (pv 0) (pa_cons (pv 3) pa_nil))))
      (pss_one (ps_set (i := 2) sc__law_due.nd rfl (Or.inl rfl) (pe_op op_cat (pv 2) (pe_call (ok__law_twice T) (hr.mono (by decide)) (by rfl) T.g__law_twice T.F__law_twice.kp T.b__law_twice .nil pass0 (pa_cons (pe_op op_cat (pv 1) (pe_slice sl_list (pv 5) (po_some (pe_callB call_len_seq (by rfl) T.len PySem.boot_len (pa_cons (pe_ix ix_tup (pv 0) pe_int (fun _ _ => rfl)) pa_nil))) po_none)) pa_nil)))))))
    (pss_cons (ps_for PassesOwn.never rfl (pi_tup (pe_ix ix_tup (pe_ix ix_tup (pe_ix ix_tup (pv 0) pe_int (fun _ _ => rfl)) pe_int (fun _ _ => rfl)) pe_int (fun _ _ => rfl))) (pg_name (i := 4) sc__law_due.nd rfl (Or.inl rfl))
      (pss_one (ps_if (pt_cmpR (show OpR _ _ (rIn K true) from op_notIn_seq) (pe_ix ix_tup (pv 4) pe_int (fun _ _ => rfl)) (pe_ix ix_tup (pv 0) pe_int (fun _ _ => rfl)) (by rfl))
        (pss_one (ps_expr (pe_bm PySem.F.plainAttrs_list PySem.F.slot_list_append PySem.F.type_list_append mt_append (pv 2) (pa_cons (pe_tup (pa_cons pe_str (pa_cons (pe_ix ix_tup (pv 4) pe_int (fun _ _ => rfl)) pa_nil))) pa_nil))))
        pss_nil)))
    (pss_cons (ps_for PassesOwn.never rfl (pi_tup (pe_ix ix_tup (pv 0) pe_int (fun _ _ => rfl))) (pg_name (i := 3) sc__law_due.nd rfl (Or.inl rfl))
      (pss_one (ps_if (pt_cmpR (OwT.op_eqNil hr.units0) (pv 2) (pe_lst pa_nil) (nomark _))
        (pss_cons (ps_set (i := 5) sc__law_due.nd rfl (Or.inl rfl) (pe_call (ok__law_own_names T) (hr.mono (by decide)) (by rfl) T.g__law_own_names T.F__law_own_names.kp T.b__law_own_names .nil pass0 (pa_cons (pv 0) (pa_cons (pv 3) pa_nil))))
        (pss_one (ps_for PassesOwn.never rfl (pi_list (pe_call (ok__law_numbered T 8) (hr.mono (by decide)) (by rfl) T.g__law_numbered T.F__law_numbered.kp T.b__law_numbered .nil pass0 (pa_cons (pe_ix ix_tup (pv 3) pe_int (fun _ _ => rfl)) (pa_cons pe_int pa_nil)))) (pg_tup (by rfl) (pgs_cons (pg_name (i := 6) sc__law_due.nd rfl (Or.inl rfl)) (pgs_cons (pg_name (i := 7) sc__law_due.nd rfl (Or.inl rfl)) pgs_nil)))
          (pss_one (ps_set (i := 2) sc__law_due.nd rfl (Or.inl rfl) (pe_op op_cat (pv 2) (pe_call (ok__law_errors T) (hr.mono (by decide)) (by rfl) T.g__law_errors T.F__law_errors.kp T.b__law_errors .nil pass0 (pa_cons (pv 0) (pa_cons (pv 5) (pa_cons (pv 6) (pa_cons (pv 7) pa_nil)))))))))))
        pss_nil)))
    (pss_one (ps_ret (pe_ifExp (pt_cmpR (OwT.op_neNil hr.units0) (pv 2) (pe_lst pa_nil) (nomark _)) (pe_ix ix_list (pv 2) pe_int (fun _ _ => rfl)) (pe_tup (pa_cons pe_str (pa_cons pe_int pa_nil))))))))))), ?_⟩
  have hdh := due_head hk ho
  have hgl := hZ.g
  have hkl := hZ.k
  have hfl := hZ.f
  have hE0 : SumF e0 := (hF.kp e0 (by rw [hk]; exact List.mem_cons_self)).1
  have hv' := hv
  obtain ⟨rt, _, rfl, hrt, y1, _, rfl, hy1, y2, _, rfl, hy2, y3, _, rfl, hy3, y4, _, rfl, hy4, rfl⟩ := hv
  obtain ⟨pg, rfl, hpg⟩ := hy1.strs
  obtain ⟨pk, rfl, hpk⟩ := hy2.strs
  obtain ⟨pe, ex, rfl, hpe, hex⟩ := hy3
  obtain ⟨pf, fx, rfl, hpf, hfx⟩ := hy4
  have hfxl := hfx.len
  rw [List.length_map] at hfxl
  rw [hk] at hex
  obtain ⟨z0, _, rfl, ⟨re, _, rfl, hre, c0, _, rfl, _, c1, _, rfl, ⟨pt, tx, rfl, hpt, htx⟩, rfl⟩, rfl⟩ := hex
  have htxl := htx.len
  rw [List.length_map] at htxl
  have h50 := hE0.len
  -- everywhere
  refine ⟨_, rfl, rt, _, _, _, rfl, rfl, .inl (.inl hrt), atI_nat (j := 0) rfl, pg, _, rfl, .inr (.inl (.inl hpg)), fun A nA => ?_⟩
  have sA := same_upd (o := .lst (t.gs.map V.str)) nA
  have hA : (upd H A (.lst (t.gs.map V.str))) A = some (.lst (t.gs.map V.str)) := upd_same
  generalize upd H A (.lst (t.gs.map V.str)) = H1 at sA hA
  refine ⟨_, rfl, rt, _, _, _, rfl, rfl, .inl (.inl (sA _ _ hrt)), atI_nat (j := 1) rfl, pk, _, rfl, .inr (.inl (.inl (sA _ _ hpk))), fun B nB => ?_⟩
  have sB := same_upd (o := .lst (t.ks.map V.str)) nB
  have hB : (upd H1 B (.lst (t.ks.map V.str))) B = some (.lst (t.ks.map V.str)) := upd_same
  generalize upd H1 B (.lst (t.ks.map V.str)) = H2 at sB hB
  refine ⟨A, B, _, _, rfl, rfl, sB _ _ hA, hB, bigLe (by rw [List.length_map, List.length_map]; omega), fun C nC => ?_⟩
  have sC := same_upd (o := .lst (t.gs.map V.str ++ t.ks.map V.str)) nC
  have hC : (upd H2 C (.lst (t.gs.map V.str ++ t.ks.map V.str))) C = some (.lst (t.gs.map V.str ++ t.ks.map V.str)) := upd_same
  generalize upd H2 C (.lst (t.gs.map V.str ++ t.ks.map V.str)) = H3 at sC hC
  have s03 := (sA.trans sB).trans sC
  refine ⟨_, rfl, rt, _, _, _, rfl, rfl, .inl (.inl (s03 _ _ hrt)), atI_nat (j := 3) rfl, pf, rfl, ⟨_, .inl (.inl (s03 _ _ hpf))⟩, fun M nM => lc_tupD (fun _ => true) fstD nM (s03 _ _ hpf) (hfx.mono (TK.of s03)) (by rw [List.length_map]; omega) (fun x d H' Q M' hd hxd s1 hy _ => ?_) (fun H4 zs s4 hM hz => ?_)⟩
  · obtain ⟨f, hf, rfl⟩ := List.mem_map.mp hd
    obtain ⟨r3, _, rfl, hr3, a1, _, rfl, ha1, _⟩ := hxd
    exact ⟨rfl, _, rfl, r3, _, _, _, rfl, rfl, .inl (.inl hr3), atI_nat (j := 0) rfl, hy rfl _ H' (Same.refl _) ha1⟩
  rw [filter_yes, List.map_map] at hz
  have hz2 : zs = (t.fs.map (·.nm)).map V.str := by
    have : Dvs H4 zs (DL.of ((t.fs.map (·.nm)).map D.str)) := by
      rw [List.map_map]
      exact hz
    exact this.strs
  subst hz2
  refine ⟨C, M, _, _, rfl, rfl, s4 _ _ hC, hM, bigLe (by rw [List.length_append, List.length_map, List.length_map, List.length_map, List.length_map]; omega), fun EV nEV => ?_⟩
  have sEV := same_upd (o := .lst (t.gs.map V.str ++ t.ks.map V.str ++ (t.fs.map (·.nm)).map V.str)) nEV
  have hEV : (upd H4 EV (.lst (t.gs.map V.str ++ t.ks.map V.str ++ (t.fs.map (·.nm)).map V.str))) EV = some (.lst ((t.gs ++ t.ks ++ t.fs.map (·.nm)).map V.str)) := by rw [upd_same, List.map_append, List.map_append]
  have s05 := (s03.trans s4).trans sEV
  clear hz hA hB hC sA sB sC nA nB nC nM hM s03 s4 sEV
  dsimp only [gName]
  generalize upd H4 EV (.lst (t.gs.map V.str ++ t.ks.map V.str ++ (t.fs.map (·.nm)).map V.str)) = H5 at s05 hEV
  refine st_seq ⟨_, rfl, EV, _, rfl, hEV, by simp only [List.length_append, List.length_map]; omega, fun H6 F0 xs6 s6 nF0 hF0 hD6 => ?_⟩
  have s06 := s05.trans s6
  have hEV6 := s6 _ _ hEV
  have nF0' := s05.free nF0
  dsimp only [gName]
  -- the functions' own names
  refine st_seq ⟨_, rfl, rt, _, _, _, rfl, rfl, .inl (.inl (s06 _ _ hrt)), atI_nat (j := 3) rfl, pf, rfl, ⟨_, .inl (.inl (s06 _ _ hpf))⟩, for_tup (K := K) (a := pf) (xs := fx) (fun i σ H' => ∃ (v3 v5 : Option V) (F : Addr) (ys : List V), σ = [some (.ref rt), some (.ref EV), some (.ref F), v3, none, v5, none, none] ∧ Same H H' ∧ H' EV = some (.lst ((t.gs ++ t.ks ++ t.fs.map (·.nm)).map V.str)) ∧ H F = none ∧ H' F = some (.lst ys) ∧ Dvs H' ys (DL.of ((due1 t ++ (t.fs.take i).flatMap fun f => (ownE t f).toList).map dEr)))
    ⟨none, none, F0, xs6, rfl, s06, hEV6, nF0', hF0, by rw [List.take_zero, List.flatMap_nil, List.append_nil]; exact hD6⟩ (fun i σ H' _ ⟨_, _, _, _, _, s', _⟩ => .inl (.inl (s' _ _ hpf))) ?_ ?_⟩
  · rintro i x σ H7 hi ⟨v3, v5, F, ys, rfl, s7, hEV7, nF, hF7, hD7⟩
    obtain ⟨f, hf, hxd⟩ := (hfx.mono (TK.of s7)).fn_get hi
    have hm := List.mem_of_getElem? hf
    obtain ⟨z1, z2, z3, z4⟩ := hZ.ps f hm
    have hsz := hZ.sz hm
    have et := flat_take (g := fun f => (ownE t f).toList) hf
    have hyl := hD7.len
    rw [List.length_map, List.length_append] at hyl
    have y1l : (due1 t).length ≤ 1 := opt_len _
    have y2l : ((t.fs.take i).flatMap fun f => (ownE t f).toList).length ≤ t.fs.length := by
      refine Nat.le_trans (flat_le (m := 1) fun x _ => opt_len _) ?_
      rw [List.length_take]
      omega
    dsimp only [gName]
    refine st_seq ⟨_, rfl, _, rfl, .ref rt, x, t, f, rfl, hv'.mono (TK.of s7), hxd, by omega, by omega, (hF.fs f hm).bk, by omega, by omega, fun H8 O s8 nO hO => ?_⟩
    have s08 := s7.trans s8
    dsimp only [gName]
    refine ⟨_, rfl, _, rfl, _, rfl, _, rfl, rt, _, _, _, rfl, rfl, .inl (.inl (s08 _ _ hrt)), atI_nat (j := 0) rfl, pg, _, rfl, .inr (.inl (.inl (s08 _ _ hpg))), _, rfl, O, _, rfl, SqL.of hO, fun S nS => ?_⟩
    have hcut : cutV ((t.gs ++ (f.ps.map (·.1) ++ localsT t.gs f)).map V.str) (some (((t.gs.map V.str).length : Nat) : Int)) none = (f.ps.map (·.1) ++ localsT t.gs f).map V.str := by
      rw [cut_drop, List.map_append, List.drop_left]
    rw [hcut]
    have sS := same_upd (o := .lst ((f.ps.map (·.1) ++ localsT t.gs f).map V.str)) nS
    have hS : (upd H8 S (.lst ((f.ps.map (·.1) ++ localsT t.gs f).map V.str))) S = some (.lst ((f.ps.map (·.1) ++ localsT t.gs f).map V.str)) := upd_same
    generalize upd H8 S (.lst ((f.ps.map (·.1) ++ localsT t.gs f).map V.str)) = H9 at sS hS
    refine ⟨EV, S, _, _, rfl, rfl, (s8.trans sS) _ _ hEV7, hS, bigLe (by simp only [List.length_append, List.length_map]; omega), fun G nG => ?_⟩
    have sG := same_upd (o := .lst ((t.gs ++ t.ks ++ t.fs.map (·.nm)).map V.str ++ (f.ps.map (·.1) ++ localsT t.gs f).map V.str)) nG
    have hG : (upd H9 G (.lst ((t.gs ++ t.ks ++ t.fs.map (·.nm)).map V.str ++ (f.ps.map (·.1) ++ localsT t.gs f).map V.str))) G = some (.lst ((t.gs ++ t.ks ++ t.fs.map (·.nm) ++ (f.ps.map (·.1) ++ localsT t.gs f)).map V.str)) := by rw [upd_same, ← List.map_append]
    generalize upd H9 G (.lst ((t.gs ++ t.ks ++ t.fs.map (·.nm)).map V.str ++ (f.ps.map (·.1) ++ localsT t.gs f).map V.str)) = H10 at sG hG
    have s7a := (s8.trans sS).trans sG
    refine ⟨G, _, rfl, hG, by simp only [List.length_append, List.length_map]; omega, fun H11 L ws s11 nL hL hws => ?_⟩
    have hwl := hws.len
    rw [List.length_map] at hwl
    have hw1 := opt_len (ownE t f)
    have hw2 : ws.length = (ownE t f).toList.length := hwl
    have s7b := s7a.trans s11
    refine ⟨F, L, _, _, rfl, rfl, s7b _ _ hF7, hL, bigLe (by omega), fun R nR => ?_⟩
    have sR := same_upd (o := .lst (ys ++ ws)) nR
    refine ⟨_, _, R, _, rfl, (s7.trans s7b).trans sR, (s7b.trans sR) _ _ hEV7, (s7.trans s7b).free nR, upd_same, ?_⟩
    rw [et, ← List.append_assoc, List.map_append]
    exact Dvs.append (hD7.mono (TK.of (s7b.trans sR))) (hws.mono (TK.of sR))
  rintro σ H7 ⟨v3, v5, F, ys, rfl, s7, _, nF, hF7, hD7⟩
  rw [hfxl, List.take_length] at hD7
  have hD7 : Dvs H7 ys (DL.of ((due2 t).map dEr)) := hD7
  have d2l : (due2 t).length ≤ 7 := by
    unfold due2
    rw [List.length_append]
    have y1l : (due1 t).length ≤ 1 := opt_len _
    have y2l : (t.fs.flatMap fun f => (ownE t f).toList).length ≤ t.fs.length * 1 := flat_le fun x _ => opt_len _
    omega
  clear hD6 hF0 hEV6 hEV s06 s6
  dsimp only
  -- the keep
  refine st_seq ⟨_, rfl, rt, _, _, _, rfl, rfl, .inl (.inl (s7 _ _ hrt)), atI_nat (j := 2) rfl, pe, _, _, _, rfl, rfl, .inl (.inl (s7 _ _ hpe)), atI_nat (j := 0) rfl, re, _, _, _, rfl, rfl, .inl (.inl (s7 _ _ hre)), atI_nat (j := 1) rfl, pt, rfl, ⟨_, .inl (.inl (s7 _ _ hpt))⟩, for_tup (K := K) (a := pt) (xs := tx) (fun i σ H' => ∃ (v4 : Option V) (ys : List V), σ = [some (.ref rt), some (.ref EV), some (.ref F), v3, v4, v5, none, none] ∧ Same H H' ∧ H' F = some (.lst ys) ∧ Dvs H' ys (DL.of ((due2 t ++ unkL t.gs ((e0.2.map (·.1)).take i)).map dEr)))
    ⟨none, ys, rfl, s7, hF7, by rw [List.take_zero]; show Dvs H7 ys (DL.of ((due2 t ++ []).map dEr)); rw [List.append_nil]; exact hD7⟩ (fun i σ H' _ ⟨_, _, _, s', _⟩ => .inl (.inl (s' _ _ hpt))) ?_ ?_⟩
  · rintro i x σ H8 hi ⟨v4, ys, rfl, s8, hF8, hD8⟩
    obtain ⟨d, hd, hx⟩ := (htx.mono (TK.of s8)).get hi
    obtain ⟨tm, htm, rfl⟩ := get_map hd
    have hil := (List.getElem?_eq_some_iff.mp htm).1
    have hyl := hD8.len
    have ul := unkL_len t.gs ((e0.2.map (·.1)).take i)
    rw [List.length_map, List.length_append] at hyl
    rw [List.length_take, List.length_map] at ul
    obtain ⟨r3, _, rfl, hr3, d1, _, rfl, hd1, d2, _, rfl, _, rfl⟩ := hx
    have hd1 : d1 = .str tm.1 := hd1
    subst hd1
    have et : (e0.2.map (·.1)).take (i + 1) = (e0.2.map (·.1)).take i ++ [tm.1] := by
      rw [List.take_add_one, List.getElem?_map, htm]
      rfl
    dsimp only [gName]
    by_cases hm : tm.1 ∈ t.gs
    · refine st_no (fun Q q => ⟨_, rfl, r3, _, _, _, rfl, rfl, .inl (.inl hr3), atI_nat (j := 0) rfl, _, rfl, rt, _, _, _, rfl, rfl, .inl (.inl (s8 _ _ hrt)), atI_nat (j := 0) rfl, pg, _, rfl, .inr (.inl (.inl (s8 _ _ hpg))), rfl, flat_strs _, _, rfl, by rw [if_pos rfl, inV_strs, decide_eq_true hm]; exact q⟩) ?_
      refine ⟨_, ys, rfl, s8, hF8, ?_⟩
      rw [et, unkL_app, show unkL t.gs [tm.1] = [] by unfold unkL; rw [List.filter_cons_of_neg (by rw [decide_eq_true hm]; decide)]; rfl, List.append_nil]
      exact hD8
    · refine st_yes (fun Q q => ⟨_, rfl, r3, _, _, _, rfl, rfl, .inl (.inl hr3), atI_nat (j := 0) rfl, _, rfl, rt, _, _, _, rfl, rfl, .inl (.inl (s8 _ _ hrt)), atI_nat (j := 0) rfl, pg, _, rfl, .inr (.inl (.inl (s8 _ _ hpg))), rfl, flat_strs _, _, rfl, by rw [if_pos rfl, inV_strs, decide_eq_false hm]; exact q⟩) ?_
      refine ⟨_, rfl, .inl ⟨rfl, _, SqL.of hF8⟩, _, rfl, r3, _, _, _, rfl, rfl, .inl (.inl hr3), atI_nat (j := 0) rfl, two_le, fun c nc => ?_⟩
      have sc := same_upd (o := .tup [.str "unknown", .str tm.1]) nc
      have hFc := sc _ _ hF8
      refine ⟨F, _, _, rfl, rfl, hFc, bigLine (by omega), ?_⟩
      have tk : TK (upd H8 c (.tup [.str "unknown", .str tm.1])) (upd (upd H8 c (.tup [.str "unknown", .str tm.1])) F (.lst (ys ++ [.ref c]))) := TK.upd hFc (fun _ z => by cases z)
      refine ⟨_, ys ++ [.ref c], rfl, same_mut (s8.trans sc) nF, upd_same, ?_⟩
      rw [et, unkL_app, show unkL t.gs [tm.1] = [.unk tm.1] by unfold unkL; rw [List.filter_cons_of_pos (by rw [decide_eq_false hm]; rfl)]; rfl, ← List.append_assoc, List.map_append]
      exact Dvs.append (hD8.mono ((TK.of sc).trans tk)) ⟨.ref c, [], rfl, Dv.of_u (tk _ _ upd_same), rfl⟩
  rintro σ H8 ⟨v4, ys, rfl, s8, hF8, hD8⟩
  rw [htxl, show e0.2.length = (e0.2.map (·.1)).length by rw [List.length_map], List.take_length] at hD8
  have hD8 : Dvs H8 ys (DL.of ((due3 t e0).map dEr)) := hD8
  have d3l : (due3 t e0).length ≤ 57 := by
    unfold due3
    have := unkL_len t.gs (e0.2.map (·.1))
    rw [List.length_map] at this
    rw [List.length_append]
    omega
  clear hD7 hF7
  dsimp only
  -- the statements
  refine st_seq ⟨_, rfl, rt, _, _, _, rfl, rfl, .inl (.inl (s8 _ _ hrt)), atI_nat (j := 3) rfl, pf, rfl, ⟨_, .inl (.inl (s8 _ _ hpf))⟩, for_tup (K := K) (a := pf) (xs := fx) (fun i σ H' => ∃ (v3 v5 v6 v7 : Option V) (F : Addr) (ys : List V), σ = [some (.ref rt), some (.ref EV), some (.ref F), v3, v4, v5, v6, v7] ∧ Same H H' ∧ H F = none ∧ H' F = some (.lst ys) ∧ Dvs H' ys (DL.of (((t.fs.take i).foldl (dueStep t) (due3 t e0)).map dEr)))
    ⟨v3, v5, none, none, F, ys, rfl, s8, nF, hF8, hD8⟩ (fun i σ H' _ ⟨_, _, _, _, _, _, _, s', _⟩ => .inl (.inl (s' _ _ hpf))) ?_ ?_⟩
  · rintro i x σ H9 hi ⟨v3, v5, v6, v7, F, ys, rfl, s9, nF, hF9, hD9⟩
    obtain ⟨f, hf, hxd⟩ := (hfx.mono (TK.of s9)).fn_get hi
    have hm := List.mem_of_getElem? hf
    obtain ⟨z1, z2, z3, z4⟩ := hZ.ps f hm
    have hsz := hZ.sz hm
    have hfF := hF.fs f hm
    have et : (t.fs.take (i + 1)).foldl (dueStep t) (due3 t e0) = dueStep t ((t.fs.take i).foldl (dueStep t) (due3 t e0)) f := by
      rw [List.take_add_one, hf, List.foldl_append]
      rfl
    have hye := hD9.emp
    generalize (t.fs.take i).foldl (dueStep t) (due3 t e0) = acc at hD9 et hye
    dsimp only [gName]
    cases acc with
    | cons a0 ar =>
      refine st_noH (P := fun H' => Same H9 H') (fun Q q => ⟨_, rfl, Nat.zero_le _, fun Z nZ => ⟨_, Z, _, rfl, rfl, SqL.of (same_upd nZ _ _ hF9), SqL.of upd_same, _, rfl, by rw [hye]; exact q _ (same_upd nZ)⟩⟩) (fun H10 s10 => ?_)
      refine ⟨_, _, _, _, F, ys, rfl, s9.trans s10, nF, s10 _ _ hF9, ?_⟩
      rw [et, dueStep, if_neg (fun z => by cases z)]
      exact hD9.mono (TK.of s10)
    | nil =>
      have hys : ys = [] := hD9
      subst hys
      refine st_yesH (P := fun H' => Same H9 H') (fun Q q => ⟨_, rfl, Nat.zero_le _, fun Z nZ => ⟨_, Z, _, rfl, rfl, SqL.of (same_upd nZ _ _ hF9), SqL.of upd_same, _, rfl, q _ (same_upd nZ)⟩⟩) (fun H10 s10 => ?_)
      have s010 := s9.trans s10
      have hxd10 := hxd.mono (TK.of s10)
      refine st_seq ⟨_, rfl, _, rfl, .ref rt, x, t, f, rfl, hv'.mono (TK.of s010), hxd10, by omega, by omega, hfF.bk, by omega, by omega, fun H11 O s11 nO hO => ?_⟩
      have s011 := s010.trans s11
      have hxd11 := hxd10.mono (TK.of s11)
      obtain ⟨r3, _, rfl, hr3, a1, _, rfl, ha1, a2, _, rfl, ha2, a3, _, rfl, ha3, rfl⟩ := hxd11
      dsimp only [gName]
      refine ⟨_, rfl, r3, _, _, _, rfl, rfl, .inl (.inl hr3), atI_nat (j := 2) rfl, a3, f.bk, 0, rfl, ha3, hfF.bk, (show f.bk.ht ≤ 7 by omega), by omega, fun H12 L ls s12 nL hL hls => ?_⟩
      have hll := hls.len
      rw [List.length_map, List.length_zipIdx] at hll
      have hlb := list_szB f.bk
      have s912 := (s10.trans s11).trans s12
      refine ⟨L, rfl, ⟨_, SqL.of hL⟩, for_list (K := K) (a := L) (xs := ls) (fun j σ H' => ∃ (v6 v7 : Option V) (F : Addr) (ys : List V), σ = [some (.ref rt), some (.ref EV), some (.ref F), some (.ref r3), v4, some (.ref O), v6, v7] ∧ Same H12 H' ∧ H F = none ∧ H' F = some (.lst ys) ∧ Dvs H' ys (DL.of ((((listB f.bk).zipIdx.take j).flatMap fun p => leE t (t.gs ++ (f.ps.map (·.1) ++ localsT t.gs f)) p.2 p.1).map dEr)))
        ⟨v6, v7, F, [], rfl, Same.refl _, nF, s912 _ _ hF9, rfl⟩ (fun j σ H' _ ⟨_, _, _, _, _, h, _⟩ => SqL.of (h _ _ hL)) ?_ ?_⟩
      · rintro j u σ H13 hj ⟨v6, v7, F, ys, rfl, s13, nF, hF13, hD13⟩
        obtain ⟨d13, hd13, hu⟩ := (hls.mono (TK.of s13)).get hj
        obtain ⟨p, hp, rfl⟩ := get_map hd13
        have hpm := List.mem_of_getElem? hp
        have hst : p.1 ∈ listB f.bk := List.fst_mem_of_mem_zipIdx hpm
        have hpF := listB_F hfF.bk p.1 hst
        obtain ⟨g1, g2⟩ := listB_hz p.1 hst
        have hp1 := ho f hm p.1 hst
        have ej := flat_take (g := fun p : TS × Nat => leE t (t.gs ++ (f.ps.map (·.1) ++ localsT t.gs f)) p.2 p.1) hp
        have hyl := hD13.len
        rw [List.length_map] at hyl
        have b1 : (((listB f.bk).zipIdx.take j).flatMap fun p => leE t (t.gs ++ (f.ps.map (·.1) ++ localsT t.gs f)) p.2 p.1).length ≤ 60 * 6002 := by
          refine Nat.le_trans (flat_le (m := 6002) fun y hy => ?_) (Nat.mul_le_mul_right _ ?_)
          · have hy2 := List.fst_mem_of_mem_zipIdx (List.mem_of_mem_take hy)
            exact leE_len (listB_F hfF.bk y.1 hy2) (ho f hm y.1 hy2)
          · rw [List.length_take, List.length_zipIdx]
            omega
        have b2 := leE_len (t := t) (vars := t.gs ++ (f.ps.map (·.1) ++ localsT t.gs f)) (i := p.2) hpF hp1
        have s013 := (s011.trans s12).trans s13
        obtain ⟨rq, _, rfl, hrq, _, _, rfl, rfl, us, _, rfl, hus, rfl⟩ := hu
        refine ⟨rq, _, rfl, .inl (.inl hrq), rfl, _, _, rfl, us, [], rfl, rfl, ?_⟩
        dsimp only [gName]
        refine ⟨_, rfl, _, rfl, _, rfl, _, rfl, _, rfl, .ref rt, us, O, p.2, t, _, p.1, rfl, hv'.mono (TK.of s013), by omega, (fun g hg => by have := (hZ.ps g hg).1; omega), (s12.trans s13) _ _ hO, hus, hpF, by omega, by omega, hp1, fun H14 W ws s14 nW hW hws => ?_⟩
        have hwl := hws.len
        rw [List.length_map] at hwl
        refine ⟨F, W, _, _, rfl, rfl, s14 _ _ hF13, hW, bigLe2 (by omega), fun R nR => ?_⟩
        have sR := same_upd (o := .lst (ys ++ ws)) nR
        refine ⟨_, _, R, ys ++ ws, rfl, (s13.trans s14).trans sR, (s013.trans s14).free nR, upd_same, ?_⟩
        rw [ej, List.map_append]
        exact Dvs.append (hD13.mono (TK.of (s14.trans sR))) (hws.mono (TK.of sR))
      · rintro σ H13 ⟨v6, v7, F, ys, rfl, s13, nF, hF13, hD13⟩
        rw [hll, show (listB f.bk).length = (listB f.bk).zipIdx.length by rw [List.length_zipIdx], List.take_length] at hD13
        refine ⟨_, _, _, _, F, ys, rfl, (s011.trans s12).trans s13, nF, hF13, ?_⟩
        rw [et, dueStep, if_pos rfl]
        exact hD13
  · rintro σ H9 ⟨v3, v5, v6, v7, F, ys, rfl, s9, nF, hF9, hD9⟩
    rw [hfxl, List.take_length] at hD9
    have hD9 : Dvs H9 ys (DL.of ((dueL t e0).map dEr)) := hD9
    have hye := hD9.emp
    unfold dueD at q
    rw [← hdh] at q
    generalize dueL t e0 = dl at hD9 hye q
    cases dl with
    | nil =>
      dsimp only
      show tIf _ _ _ _ _ _
      refine if_noH (PV := fun H' => Same H9 H') (fun Q q => ⟨_, rfl, Nat.zero_le _, fun Z nZ => ⟨F, Z, _, rfl, rfl, .inl ⟨SqL.of (same_upd nZ _ _ hF9), SqL.of upd_same⟩, _, rfl, by rw [hye]; exact q _ (same_upd nZ)⟩⟩) (fun H10 s10 => ?_)
      refine ⟨two_le, fun c nc => ?_⟩
      have sc := same_upd (o := .tup [.str "fine", .int 0]) nc
      exact q _ _ ((s9.trans s10).trans sc) ⟨c, _, rfl, upd_same, _, _, rfl, rfl, _, _, rfl, rfl, rfl⟩
    | cons e1 el =>
      obtain ⟨u0, us, rfl, hu0, _⟩ := hD9
      dsimp only
      show tIf _ _ _ _ _ _
      refine if_yesH (PV := fun H' => Same H9 H') (fun Q q => ⟨_, rfl, Nat.zero_le _, fun Z nZ => ⟨F, Z, _, rfl, rfl, .inl ⟨SqL.of (same_upd nZ _ _ hF9), SqL.of upd_same⟩, _, rfl, by rw [hye]; exact q _ (same_upd nZ)⟩⟩) (fun H10 s10 => ?_)
      exact ⟨_, rfl, F, _, _, _, rfl, rfl, SqL.of (s10 _ _ hF9), atI_nat (j := 0) rfl, q H10 u0 (s9.trans s10) (hu0.mono (TK.of s10))⟩
end
end K10
namespace K10
open PySem PySem.Spec PyProof.Rows L2 TL
def numT (i : Int) : Str := Str.ofString (toString i)
theorem numT_len {i : Int} (h0 : 0 ≤ i) (h : i < 1000000000000000000) : (numT i).length ≤ 18 := by
  obtain ⟨n, rfl⟩ : ∃ n : Nat, i = (n : Int) := ⟨i.toNat, by omega⟩
  unfold numT
  rw [len_tl, tl_num]
  exact numL_len (by decide) (by have e : (10 : Nat) ^ 18 = 1000000000000000000 := by decide
                                 rw [e]; omega)
theorem log_ok {i : Int} (h0 : 0 ≤ i) (h : i < 1000000000000000000) : i.natAbs.log2 < 1920 := by
  by_cases hz : i.natAbs = 0
  · rw [hz]
    decide
  · have e : (2 : Nat) ^ 60 = 1152921504606846976 := by decide
    have := (Nat.log2_lt (n := i.natAbs) (k := 60) hz).mpr (by rw [e]; omega)
    omega
theorem letters_no {c : Nat} (h1 : 48 ≤ c) (h2 : c ≤ 57) : letter c = false ∧ digit c = true := by
  have : c = 48 ∨ c = 49 ∨ c = 50 ∨ c = 51 ∨ c = 52 ∨ c = 53 ∨ c = 54 ∨ c = 55 ∨ c = 56 ∨ c = 57 := by omega
  rcases this with rfl | rfl | rfl | rfl | rfl | rfl | rfl | rfl | rfl | rfl <;> exact ⟨by decide +kernel, by decide +kernel⟩
theorem num_digit {n d : Nat} (h : d ∈ numL n) : 48 ≤ d ∧ d ≤ 57 := by
  have := numL_digits n d h
  first
    | exact this
    | (constructor <;> omega)
    | simpa using this
theorem numT_tl (n : Nat) : tl (numT (n : Int)) = numL n := by
  unfold numT
  exact tl_num n
theorem kws_plain : ∀ y ∈ kws, ∃ z : Str, y = .str z ∧ ∀ c ∈ tl z, digit c = false := by
  intro y hy
  have h : kws.all (fun v => match v with | .str z => (tl z).all fun c => !digit c | _ => false) = true := by decide +kernel
  have := List.all_eq_true.mp h y hy
  cases y with
  | str z =>
    refine ⟨z, rfl, fun c hc => ?_⟩
    have := List.all_eq_true.mp this c hc
    simpa using this
  | _ => cases this
/-- a pool at p, its cells at l, at most n draws so far -/
structure PoolAt (H : Hp) (p l : Addr) (n bd : Int) : Prop where
  ne : p ≠ l
  ex : ∃ (cs : List Int) (ix cnt seed ph : Int), H p = some (.lst [.ref l, .int ix, .int cnt, .int seed, .int ph, .int bd]) ∧ H l = some (.lst (cs.map V.int)) ∧
    0 ≤ ix ∧ 0 ≤ cnt ∧ cnt ≤ n ∧ 0 ≤ seed ∧ seed < 2147483647 ∧ cs.length ≤ 63
theorem PoolAt.keep {H H' : Hp} {p l : Addr} {n bd : Int} (P : PoolAt H p l n bd) (hp : H' p = H p) (hl : H' l = H l) : PoolAt H' p l n bd := by
  obtain ⟨ne, cs, ix, cnt, seed, ph, h1, h2, r⟩ := P
  exact ⟨ne, cs, ix, cnt, seed, ph, by rw [hp]; exact h1, by rw [hl]; exact h2, r⟩
theorem PoolAt.same {H H' : Hp} {p l : Addr} {n bd : Int} (P : PoolAt H p l n bd) (s : Same H H') : PoolAt H' p l n bd := by
  obtain ⟨ne, cs, ix, cnt, seed, ph, h1, h2, r⟩ := P
  exact ⟨ne, cs, ix, cnt, seed, ph, s _ _ h1, s _ _ h2, r⟩
def spPool (K : PySem.W.Frag) : Sp := fun vs H Q _ => ∃ (a : Addr) (ns : List Int), vs = [.ref a] ∧ SqL K H a (ns.map V.int) ∧ ns.length ≤ 63 ∧
  ∀ H' p l, Same H H' → H p = none → H l = none → PoolAt H' p l 0 30 → Q (.ref p) H'
def spMixed : Sp := fun vs H Q _ => ∃ (a c m : Int), vs = [.int a, .int c, .int m] ∧ 0 ≤ a ∧ a < 2147483647 ∧ 0 ≤ c ∧ c ≤ 1099511627776 ∧ 0 < m ∧
  ∀ r : Int, 0 ≤ r → r < m → Q (.int r) H
def spDraw : Sp := fun vs H Q _ => ∃ (p l : Addr) (n bd m : Int), vs = [.ref p, .int m] ∧ PoolAt H p l n bd ∧ n < 1099511627776 ∧ 0 < m ∧ m.natAbs.log2 < 9000 ∧
  ∀ (r : Int) (H' : Hp), 0 ≤ r → r < m → PoolAt H' p l (n + 1) bd → (∀ b, b ≠ p → b ≠ l → H' b = H b) → Q (.int r) H'
theorem ixN_at {n j : Nat} (hj : j < n) : ixN n (j : Int) = some j := by
  unfold ixN
  rw [if_pos (by omega), if_pos (by omega)]
  exact congrArg some (by omega)
section
variable {P : Program} {w : World} {K : PySem.W.Frag} {mg : Str → Option Value} {base : Heap} {a : Ads}
theorem sc__law_mixed : FnScope ["_law_number", "_law_count", "_law_many"] ["_law_number", "_law_count", "_law_many"] (defScope s__law_mixed) := ⟨rfl, rfl, rfl, by decide +kernel, rfl, by decide +kernel, by decide +kernel⟩
theorem ok__law_mixed (T : Txt K mg a) : FnOk P w K mg base CX0 1 a.f__law_mixed a.f__law_mixed_d ["_law_number", "_law_count", "_law_many"] spMixed := by
  refine T.F__law_mixed.ok sc__law_mixed (fun vs H Q E h => ?_) (fun cdv A outer s H vs Q E hr h => ?_)
  · obtain ⟨x, c, m, rfl, _⟩ := h
    rfl
  obtain ⟨x, c, m, rfl, ha0, ha1, hc0, hc1, hm, q⟩ := h
  refine ⟨_, (pss_one (ps_ret (pe_op op_mod (pe_op op_fdiv (pe_callTy call_int1 (by rfl) T.int (by decide +kernel) (pa_cons (pe_op op_mod (pe_op op_pow (pe_callTy call_int1 (by rfl) T.int (by decide +kernel) (pa_cons (pe_op op_add (pv 0) (pe_op op_mul pe_int (pv 1))) pa_nil)) pe_int) pe_int) pa_nil)) pe_int) (pv 2)))), ?_⟩
  refine ⟨_, rfl, _, rfl, _, _, rfl, rfl, .inl ⟨by decide, by decide⟩, _, _, rfl, rfl, .inl ⟨_, rfl, ?_⟩⟩
  refine ⟨_, _, rfl, rfl, ⟨by decide, by decide, by omega⟩, _, _, rfl, rfl, (by show (0 : Int) < 2147483647; decide), .inl ⟨_, rfl, ?_⟩⟩
  refine ⟨_, _, rfl, rfl, ⟨by decide, by decide⟩, _, rfl, _, _, rfl, rfl, hm, ?_⟩
  exact q _ (Int.emod_nonneg _ (by omega)) (Int.emod_lt_of_pos _ hm)
theorem sc__law_pool : FnScope ["_law_script", "_law_cells", "_law_seed", "_law_cell"] ["_law_script"] (defScope s__law_pool) := ⟨rfl, rfl, rfl, by decide +kernel, rfl, by decide +kernel, by decide +kernel⟩
theorem ok__law_pool (T : Txt K mg a) : FnOk P w K mg base CX0 1 a.f__law_pool a.f__law_pool_d ["_law_script"] (spPool K) := by
  refine T.F__law_pool.ok sc__law_pool (fun vs H Q E h => ?_) (fun cdv A outer s H vs Q E hr h => ?_)
  · obtain ⟨a, ns, rfl, _⟩ := h
    rfl
  obtain ⟨a, ns, rfl, hS, hlen, q⟩ := h
  refine ⟨_, (pss_cons (ps_setLc (i := 1) (own := [("_law_cell", 3)]) (g := gName 3) (tt := tYes) (by rfl) sc__law_pool.nd rfl rfl (sw_true rfl rfl rfl (by decide +kernel)) (pi_list (pe_slice sl_list (pv 0) po_none (po_some pe_int))) (blkOk_by (own := [("_law_cell", 3)]) (N := ["_law_script", "_law_cells", "_law_seed", "_law_cell"]) (sc := defScope s__law_pool) (by decide +kernel)) (fun _ _ _ _ _ => pg_name (i := 3) sc__law_pool.nd rfl (Or.inl rfl)) (fun _ _ _ _ _ => pts_nil) (fun _ _ _ _ _ => (pe_callTy call_int1 (by rfl) T.int (by decide +kernel) (pa_cons (pv 3) pa_nil))))
    (pss_cons (ps_set (i := 2) sc__law_pool.nd rfl (Or.inl rfl) pe_int)
    (pss_cons (ps_for PassesOwn.never rfl (pi_list (pv 1)) (pg_name (i := 3) sc__law_pool.nd rfl (Or.inl rfl))
      (pss_one (ps_set (i := 2) sc__law_pool.nd rfl (Or.inl rfl) (pe_op op_mod (pe_callTy call_int1 (by rfl) T.int (by decide +kernel) (pa_cons (pe_op op_add (pe_op op_mul (pv 2) pe_int) (pv 3)) pa_nil)) pe_int))))
    (pss_one (ps_ret (pe_lst (pa_cons (pv 1) (pa_cons pe_int (pa_cons pe_int (pa_cons (pv 2) (pa_cons pe_int (pa_cons pe_int pa_nil)))))))))))), ?_⟩
  have ecut : cutV (ns.map V.int) none (some 63) = ns.map V.int := by
    unfold cutV
    rw [show HT.sIx (ns.map V.int).length (ns.map V.int).length (some 63) = min 63 (ns.map V.int).length from HT.sIx_nat _ _ 63, HT.sIx_none, List.length_map]
    show (ns.map V.int).take (min 63 ns.length - 0) = ns.map V.int
    exact List.take_of_length_le (by rw [List.length_map]; omega)
  refine ⟨_, rfl, 63, rfl, a, _, rfl, hS, fun c hc => ?_⟩
  have s1 : Same H (upd H c (.lst (cutV (ns.map V.int) none (some 63)))) := same_upd hc
  refine ⟨c, rfl, ⟨_, SqL.of upd_same⟩, fun D hD => ?_⟩
  have hcD : c ≠ D := ne_of_none upd_same hD
  refine lc_list (K := K) (a := c) (xs := ns.map V.int) (fun i H' => Same H H' ∧ H' c = some (.lst (ns.map V.int)) ∧ H' D = some (.lst ((ns.take i).map V.int))) ⟨s1.trans (same_upd hD), ?_, upd_same⟩ (fun i H' _ hh => SqL.of hh.2.1) ?_ ?_
  · rw [upd_ne hcD, upd_same, ecut]
  · rintro i x H' hi ⟨s2, hc2, hD2⟩
    obtain ⟨z, hz, rfl⟩ : ∃ z, ns[i]? = some z ∧ x = V.int z := by
      rw [List.getElem?_map] at hi
      cases e : ns[i]? with
      | none => rw [e] at hi; cases hi
      | some z => rw [e] at hi; exact ⟨z, rfl, (Option.some.inj hi).symm⟩
    have hil : i < ns.length := (List.getElem?_eq_some_iff.mp hz).1
    refine ⟨rfl, _, rfl, .inl ⟨_, rfl, _, hD2, ?_, ?_, ?_, ?_⟩⟩
    · rw [List.length_map, List.length_take]
      exact Nat.lt_of_le_of_lt (Nat.min_le_left _ _) (small1000 (by omega))
    · intro b o e
      rw [upd_ne (ne_of_none e (s1.free hD))]
      exact s2 _ _ e
    · rw [upd_ne hcD]; exact hc2
    · rw [upd_same, List.take_add_one, hz, List.map_append]; rfl
  · rintro H1 ⟨s2, hc2, hD2⟩
    rw [List.length_map, List.take_length] at hD2
    refine ⟨_, rfl, D, rfl, ⟨_, SqL.of hD2⟩, for_list (K := K) (a := D) (xs := ns.map V.int) (fun i σ H' => ∃ (v : Option V) (sd : Int), σ = [some (.ref a), some (.ref D), some (.int sd), v] ∧ H' = H1 ∧ 0 ≤ sd ∧ sd < 2147483647)
      ⟨none, 11, rfl, rfl, by decide, by decide⟩ (fun i σ H' _ ⟨_, _, _, e, _⟩ => by rw [e]; exact SqL.of hD2) ?_ ?_⟩
    · rintro i x σ H' hi ⟨v, sd, rfl, rfl, h0, h1⟩
      obtain ⟨z, hz, rfl⟩ : ∃ z, ns[i]? = some z ∧ x = V.int z := by
        rw [List.getElem?_map] at hi
        cases e : ns[i]? with
        | none => rw [e] at hi; cases hi
        | some z => rw [e] at hi; exact ⟨z, rfl, (Option.some.inj hi).symm⟩
      refine ⟨_, rfl, _, _, rfl, rfl, .inl ⟨by omega, by omega⟩, _, rfl, _, _, rfl, rfl, .inl ⟨_, rfl, _, _, rfl, rfl, (by show (0 : Int) < 2147483647; decide), ?_⟩⟩
      exact ⟨_, _, rfl, rfl, Int.emod_nonneg _ (by decide), Int.emod_lt_of_pos _ (by decide)⟩
    · rintro σ H' ⟨v, sd, rfl, rfl, h0, h1⟩
      refine ⟨_, rfl, _, rfl, (by show 6 ≤ sizeLine; decide), fun p hp => ?_⟩
      have hpD : D ≠ p := ne_of_none hD2 hp
      refine q _ p D (s2.trans (same_upd hp)) (s2.free hp) (s1.free hD) ⟨fun e => hpD e.symm, ns, 0, 0, sd, 0, upd_same, by rw [upd_ne hpD]; exact hD2, by decide, by decide, by decide, h0, h1, hlen⟩
theorem sc__law_draw : FnScope ["_law_pool_here", "_law_many", "_law_at", "_law_cells", "_law_cell"] ["_law_pool_here", "_law_many"] (defScope s__law_draw) := ⟨rfl, rfl, rfl, by decide +kernel, rfl, by decide +kernel, by decide +kernel⟩
theorem ok__law_draw (T : Txt K mg a) : FnOk P w K mg base CX0 2 a.f__law_draw a.f__law_draw_d ["_law_pool_here", "_law_many"] spDraw := by
  refine T.F__law_draw.ok sc__law_draw (fun vs H Q E h => ?_) (fun cdv A outer s H vs Q E hr h => ?_)
  · obtain ⟨p, l, n, bd, m, rfl, _⟩ := h
    rfl
  obtain ⟨p, l, n, bd, m, rfl, ⟨ne, cs, ix, cnt, seed, ph, h1, h2, hix, hc0, hcn, hs0, hs1, hlen⟩, hn, hm, hml, q⟩ := h
  refine ⟨_, (pss_cons (ps_asg (pe_op op_add (pe_ix ix_list (pv 0) pe_int (fun _ _ => rfl)) pe_int) (pg_sub (pv 0) pe_int set_list))
    (pss_cons (ps_if (pt_cmpR op_ge (pe_ix ix_list (pv 0) pe_int (fun _ _ => rfl)) (pe_callB call_len_seq (by rfl) T.len PySem.boot_len (pa_cons (pe_ix ix_list (pv 0) pe_int (fun _ _ => rfl)) pa_nil)) (nomark _))
      (pss_one (ps_ret (pe_call (ok__law_mixed T) (hr.mono (by decide)) (by rfl) T.g__law_mixed T.F__law_mixed.kp T.b__law_mixed .nil pass0 (pa_cons (pe_ix ix_list (pv 0) pe_int (fun _ _ => rfl)) (pa_cons (pe_ix ix_list (pv 0) pe_int (fun _ _ => rfl)) (pa_cons (pv 1) pa_nil))))))
      pss_nil)
    (pss_cons (ps_set (i := 2) sc__law_draw.nd rfl (Or.inl rfl) (pe_ix ix_list (pv 0) pe_int (fun _ _ => rfl)))
    (pss_cons (ps_set (i := 3) sc__law_draw.nd rfl (Or.inl rfl) (pe_ix ix_list (pv 0) pe_int (fun _ _ => rfl)))
    (pss_cons (ps_set (i := 4) sc__law_draw.nd rfl (Or.inl rfl) (pe_ix ix_list (pv 3) (pv 2) (fun _ _ => rfl)))
    (pss_cons (ps_if (PW.pt (pw_and (pt_cmpR op_ne (pe_ix ix_list (pv 0) pe_int (fun _ _ => rfl)) pe_int (nomark _)) (pw_and1 (pt_cmpR op_lt (pv 4) (pe_op op_pow pe_int pe_int) (nomark _)))))
      (pss_cons (ps_asg (pe_op op_add (pe_ix ix_list (pv 0) pe_int (fun _ _ => rfl)) pe_int) (pg_sub (pv 0) pe_int set_list))
      (pss_cons (ps_if (pt_cmpR op_eq (pe_ix ix_list (pv 0) pe_int (fun _ _ => rfl)) pe_int (nomark _))
        (pss_cons (ps_asg (pe_op op_add (pv 2) pe_int) (pg_sub (pv 0) pe_int set_list))
        (pss_one (ps_asg pe_int (pg_sub (pv 0) pe_int set_list))))
        pss_nil)
      (pss_one (ps_ret (pe_call (ok__law_mixed T) (hr.mono (by decide)) (by rfl) T.g__law_mixed T.F__law_mixed.kp T.b__law_mixed .nil pass0 (pa_cons (pe_op op_mod (pe_callTy call_int1 (by rfl) T.int (by decide +kernel) (pa_cons (pv 4) pa_nil)) pe_int) (pa_cons (pe_ix ix_list (pv 0) pe_int (fun _ _ => rfl)) (pa_cons (pv 1) pa_nil))))))))
      pss_nil)
    (pss_cons (ps_asg pe_int (pg_sub (pv 0) pe_int set_list))
    (pss_cons (ps_asg (pe_op op_fdivW (pe_callTy call_int1 (by rfl) T.int (by decide +kernel) (pa_cons (pv 4) pa_nil)) (pv 1)) (pg_sub (pv 3) (pv 2) set_list))
    (pss_cons (ps_if (pt_cmpR op_eq (pe_ix ix_list (pv 3) (pv 2) (fun _ _ => rfl)) pe_int (nomark _))
      (pss_cons (ps_asg (pe_op op_add (pv 2) pe_int) (pg_sub (pv 0) pe_int set_list))
      (pss_one (ps_asg pe_int (pg_sub (pv 0) pe_int set_list))))
      pss_nil)
    (pss_one (ps_ret (pe_op op_mod (pe_callTy call_int1 (by rfl) T.int (by decide +kernel) (pa_cons (pv 4) pa_nil)) (pv 1))))))))))))), ?_⟩
  refine ⟨_, rfl, p, _, _, _, rfl, rfl, SqL.of h1, atI_nat (j := 2) rfl, _, _, rfl, rfl, _, rfl, p, _, _, 2, rfl, rfl, h1, rfl, ?_⟩
  have h1a : (upd H p (.lst [.ref l, .int ix, .int (cnt + 1), .int seed, .int ph, .int bd])) p = some (.lst [.ref l, .int ix, .int (cnt + 1), .int seed, .int ph, .int bd]) := upd_same
  have h2a : (upd H p (.lst [.ref l, .int ix, .int (cnt + 1), .int seed, .int ph, .int bd])) l = some (.lst (cs.map V.int)) := by rw [upd_ne ne.symm]; exact h2
  have hfa : ∀ b, b ≠ p → b ≠ l → (upd H p (.lst [.ref l, .int ix, .int (cnt + 1), .int seed, .int ph, .int bd])) b = H b := fun b hb _ => upd_ne hb
  show tSeq _ _ _ _ (upd H p (.lst [.ref l, .int ix, .int (cnt + 1), .int seed, .int ph, .int bd]))
  generalize (upd H p (.lst [.ref l, .int ix, .int (cnt + 1), .int seed, .int ph, .int bd])) = H1 at h1a h2a hfa ⊢
  refine ⟨_, rfl, p, _, _, _, rfl, rfl, SqL.of h1a, atI_nat (j := 1) rfl, _, rfl, p, _, _, _, rfl, rfl, SqL.of h1a, atI_nat (j := 0) rfl, l, _, rfl, .inl (SqL.of h2a), _, _, rfl, rfl, _, rfl, ite2 (fun e => ?_) (fun e => ?_)⟩
  · refine ⟨_, rfl, p, _, _, _, rfl, rfl, SqL.of h1a, atI_nat (j := 3) rfl, _, rfl, p, _, _, _, rfl, rfl, SqL.of h1a, atI_nat (j := 2) rfl, _, rfl, seed, cnt + 1, m, rfl, hs0, hs1, by omega, by omega, hm, fun r hr0 hr1 => ?_⟩
    exact q r _ hr0 hr1 ⟨ne, cs, ix, cnt + 1, seed, ph, h1a, h2a, hix, by omega, by omega, hs0, hs1, hlen⟩ hfa
  · have hlt : ix < (cs.length : Int) := by
      have e' := of_decide_eq_false (Bool.eq_false_iff.mpr e)
      rw [List.length_map] at e'
      omega
    obtain ⟨j, rfl⟩ : ∃ j : Nat, ix = (j : Int) := ⟨ix.toNat, by omega⟩
    have hj : j < cs.length := by omega
    have hz : (cs.map V.int)[j]? = some (.int cs[j]) := by rw [List.getElem?_map, List.getElem?_eq_getElem hj]; rfl
    generalize cs[j] = z at hz
    refine ⟨_, rfl, p, _, _, _, rfl, rfl, SqL.of h1a, atI_nat (j := 1) rfl, ?_⟩
    refine ⟨_, rfl, p, _, _, _, rfl, rfl, SqL.of h1a, atI_nat (j := 0) rfl, ?_⟩
    refine ⟨_, rfl, _, rfl, l, _, _, _, rfl, rfl, SqL.of h2a, atI_nat (j := j) hz, ?_⟩
    dsimp only [gName]
    refine st_seq (st_ite (b := (!decide (V.int ph = V.int 2)) && decide (z < 10 ^ (18 : Int).toNat)) (ans_and2 (fun Q q => ⟨_, rfl, p, _, _, _, rfl, rfl, SqL.of h1a, atI_nat (j := 4) rfl, rfl, _, rfl, q⟩) (fun Q q => ⟨_, rfl, _, _, rfl, rfl, ⟨by decide, by decide, by decide⟩, _, _, rfl, rfl, _, rfl, q⟩)) (fun e1 => ?_) (fun e1 => ?_))
    · -- a small cell: the phase grows
      refine ⟨_, rfl, p, _, _, _, rfl, rfl, SqL.of h1a, atI_nat (j := 4) rfl, _, _, rfl, rfl, _, rfl, p, _, _, 4, rfl, rfl, h1a, rfl, ?_⟩
      dsimp only [gName]
      refine st_seq (st_ite (b := decide (V.int (ph + 1) = V.int 2)) (fun Q q => ⟨_, rfl, p, _, _, _, rfl, rfl, SqL.of upd_same, atI_nat (j := 4) rfl, rfl, _, rfl, q⟩) (fun e2 => ?_) (fun e2 => ?_))
      · refine ⟨_, rfl, _, _, rfl, rfl, _, rfl, p, _, _, 1, rfl, rfl, upd_same, rfl, _, rfl, p, _, _, 4, rfl, rfl, upd_same, rfl, ?_⟩
        refine ⟨_, rfl, .inl ⟨_, rfl, _, _, rfl, rfl, (by show (0 : Int) < 2147483647; decide), _, rfl, p, _, _, _, rfl, rfl, SqL.of upd_same, atI_nat (j := 2) rfl, _, rfl, _, cnt + 1, m, rfl, Int.emod_nonneg _ (by decide), Int.emod_lt_of_pos _ (by decide), by omega, by omega, hm, fun r hr0 hr1 => ?_⟩⟩
        exact q r _ hr0 hr1 ⟨ne, cs, (j : Int) + 1, cnt + 1, seed, 0, upd_same, by rw [upd_ne ne.symm, upd_ne ne.symm, upd_ne ne.symm]; exact h2a, by omega, by omega, by omega, hs0, hs1, hlen⟩ fun b hb hb2 => by rw [upd_ne hb, upd_ne hb, upd_ne hb]; exact hfa b hb hb2
      · refine ⟨_, rfl, .inl ⟨_, rfl, _, _, rfl, rfl, (by show (0 : Int) < 2147483647; decide), _, rfl, p, _, _, _, rfl, rfl, SqL.of upd_same, atI_nat (j := 2) rfl, _, rfl, _, cnt + 1, m, rfl, Int.emod_nonneg _ (by decide), Int.emod_lt_of_pos _ (by decide), by omega, by omega, hm, fun r hr0 hr1 => ?_⟩⟩
        exact q r _ hr0 hr1 ⟨ne, cs, (j : Int), cnt + 1, seed, ph + 1, upd_same, by rw [upd_ne ne.symm]; exact h2a, by omega, by omega, by omega, hs0, hs1, hlen⟩ fun b hb hb2 => by rw [upd_ne hb]; exact hfa b hb hb2
    · -- a great one: divided
      refine ⟨_, rfl, p, _, _, 4, rfl, rfl, h1a, rfl, ?_⟩
      refine ⟨_, rfl, .inl ⟨_, rfl, _, rfl, _, _, rfl, rfl, ⟨hm, hml⟩, _, rfl, _, rfl, l, _, _, j, rfl, rfl, by rw [upd_ne ne.symm]; exact h2a, ixN_at (by rw [List.length_map]; exact hj), ?_⟩⟩
      have h1b : ∀ x, (upd (upd H1 p (.lst [.ref l, .int j, .int (cnt + 1), .int seed, .int 2, .int bd])) l x) p = some (.lst [.ref l, .int j, .int (cnt + 1), .int seed, .int 2, .int bd]) := fun x => by rw [upd_ne ne]; exact upd_same
      have e3 : (cs.map V.int).set j (.int (z / m)) = (cs.set j (z / m)).map V.int := by rw [List.map_set]
      have hl2 : (cs.set j (z / m)).length ≤ 63 := by rw [List.length_set]; exact hlen
      have hz2 : ((cs.map V.int).set j (.int (z / m)))[j]? = some (.int (z / m)) := by rw [List.getElem?_set_self]; rw [List.length_map]; exact hj
      dsimp only [gName]
      refine st_seq (st_ite (b := decide (V.int (z / m) = V.int 0)) (fun Q q => ⟨_, rfl, _, rfl, l, _, _, _, rfl, rfl, SqL.of upd_same, atI_nat (j := j) hz2, rfl, _, rfl, q⟩) (fun e2 => ?_) (fun e2 => ?_))
      · refine ⟨_, rfl, _, _, rfl, rfl, _, rfl, p, _, _, 1, rfl, rfl, h1b _, rfl, _, rfl, p, _, _, 4, rfl, rfl, upd_same, rfl, ?_⟩
        refine ⟨_, rfl, .inl ⟨_, rfl, _, rfl, _, _, rfl, rfl, hm, ?_⟩⟩
        exact q _ _ (Int.emod_nonneg _ (by omega)) (Int.emod_lt_of_pos _ hm) ⟨ne, _, (j : Int) + 1, cnt + 1, seed, 0, upd_same, by rw [upd_ne ne.symm, upd_ne ne.symm, upd_same, e3], by omega, by omega, by omega, hs0, hs1, hl2⟩ fun b hb hb2 => by rw [upd_ne hb, upd_ne hb, upd_ne hb2, upd_ne hb]; exact hfa b hb hb2
      · refine ⟨_, rfl, .inl ⟨_, rfl, _, rfl, _, _, rfl, rfl, hm, ?_⟩⟩
        exact q _ _ (Int.emod_nonneg _ (by omega)) (Int.emod_lt_of_pos _ hm) ⟨ne, _, (j : Int), cnt + 1, seed, 2, h1b _, by rw [upd_same, e3], by omega, by omega, by omega, hs0, hs1, hl2⟩ fun b hb hb2 => by rw [upd_ne hb2, upd_ne hb]; exact hfa b hb hb2
end
/-! ### the law's names -/
theorem PoolAt.mono {H : Hp} {p l : Addr} {n m bd : Int} (P : PoolAt H p l n bd) (h : n ≤ m) : PoolAt H p l m bd := by
  obtain ⟨ne, cs, ix, cnt, seed, ph, h1, h2, a, b, c, d⟩ := P
  exact ⟨ne, cs, ix, cnt, seed, ph, h1, h2, a, b, by omega, d⟩
theorem PoolAt.off {H : Hp} {p l k : Addr} {n bd : Int} (P : PoolAt H p l n bd) (h : H k = none) : k ≠ p ∧ k ≠ l := by
  obtain ⟨_, cs, ix, cnt, seed, ph, e1, e2, _⟩ := P
  refine ⟨fun e => ?_, fun e => ?_⟩
  · rw [e, e1] at h
    cases h
  · rw [e, e2] at h
    cases h
/-- all but the pool stands -/
def Keep (p l : Addr) (H H' : Hp) : Prop := ∀ b x, H b = some x → b ≠ p → b ≠ l → H' b = some x
theorem Keep.refl (p l : Addr) (H : Hp) : Keep p l H H := fun _ _ h _ _ => h
theorem Keep.trans {p l : Addr} {H H1 H2 : Hp} (a : Keep p l H H1) (b : Keep p l H1 H2) : Keep p l H H2 := fun c x h n m => b c x (a c x h n m) n m
theorem Keep.of {p l : Addr} {H H1 : Hp} (s : Same H H1) : Keep p l H H1 := fun c x h _ _ => s c x h
theorem Keep.draw {p l : Addr} {H H1 : Hp} (f : ∀ b, b ≠ p → b ≠ l → H1 b = H b) : Keep p l H H1 := fun b x e n m => by
  rw [f b n m]
  exact e
theorem Keep.mut {p l : Addr} {H H1 : Hp} {q : Addr} {u : HO} (s : Keep p l H H1) (h : H q = none) : Keep p l H (upd H1 q u) := fun b x e n m => by
  rw [upd_ne (ne_of_none e h)]
  exact s _ _ e n m
theorem Keep.free {p l : Addr} {H H' : Hp} (e : Keep p l H H') {q : Addr} (h : H' q = none) (n : q ≠ p) (m : q ≠ l) : H q = none := by
  cases r : H q with
  | none => rfl
  | some x =>
    rw [e q x r n m] at h
    cases h
theorem atI_ex {α : Type} {xs : List α} {r : Int} (h0 : 0 ≤ r) (h1 : r < xs.length) : ∃ c, atI xs r = some c ∧ c ∈ xs := by
  obtain ⟨j, rfl⟩ : ∃ j : Nat, r = (j : Int) := ⟨r.toNat, by omega⟩
  have hj : j < xs.length := by omega
  exact ⟨xs[j], atI_nat (List.getElem?_eq_getElem hj), List.getElem_mem hj⟩
theorem log_small {m : Int} (h0 : 0 < m) (h : m < 1152921504606846976) : m.natAbs.log2 < 9000 := by
  have e : (2:Nat) ^ 60 = 1152921504606846976 := by decide
  have : m.natAbs.log2 < 60 := (Nat.log2_lt (by omega)).mpr (by rw [e]; omega)
  omega
def nameL (c : Nat) (s : Int) (k : Nat) : Str := (⟨#[c]⟩ : Str) ++ numT ((7 * ((0 : Int) + (k : Int)) + s) % 16)
def namesL (c : Nat) (s : Int) : List Str := (List.range 16).map (nameL c s)
def spNames : Sp := fun vs H Q _ => ∃ (p l : Addr) (n bd : Int), vs = [.ref p] ∧ PoolAt H p l n bd ∧ n < 1099511627000 ∧
  ∀ (H' : Hp) (q : Addr) (c : Nat) (s : Int), PoolAt H' p l (n + 2) bd → Keep p l H H' → q ≠ p → q ≠ l → H q = none → c ∈ tl LET → 0 ≤ s → s < 16 → H' q = some (.lst ((namesL c s).map V.str)) → Q (.ref q) H'
theorem ans_isi {K : PySem.W.Frag} {i : Nat} {σ : L2.St} {H : Hp} {x : V} {t n : String} {b : Bool} (h : σ[i]? = some (some x)) (ty : TyX K H x (.type t)) (k : kitB t n = some b) : Ans (tB (tCB (rIsi K) (tCons (tVar i) (tCons (tC (.ty n)) tNil)))) σ H b :=
  fun Q q => ⟨x, h, x, .ty n, .type t, .type n, b, rfl, .ty n, ty, kit_ty k, b, rfl, q⟩
theorem val_isi {K : PySem.W.Frag} {i : Nat} {σ : L2.St} {H : Hp} {x : V} {t n : String} {b : Bool} (h : σ[i]? = some (some x)) (ty : TyX K H x (.type t)) (k : kitB t n = some b) : Val (tCB (rIsi K) (tCons (tVar i) (tCons (tC (.ty n)) tNil))) σ H (.bl b) :=
  fun Q q => ⟨x, h, x, .ty n, .type t, .type n, b, rfl, .ty n, ty, kit_ty k, q⟩
section
variable {P : Program} {w : World} {K : PySem.W.Frag} {mg : Str → Option Value} {base : Heap} {a : Ads}
theorem sc__law_names : FnScope ["_law_pool_here", "_law_letter", "_law_shift", "_law_k"] ["_law_pool_here"] (defScope s__law_names) := ⟨rfl, rfl, rfl, by decide +kernel, rfl, by decide +kernel, by decide +kernel⟩
theorem ok__law_names (T : Txt K mg a) : FnOk P w K mg base CX0 3 a.f__law_names a.f__law_names_d ["_law_pool_here"] spNames := by
  refine T.F__law_names.ok sc__law_names (fun vs H Q E h => ?_) (fun cdv A outer s H vs Q E hr h => ?_)
  · obtain ⟨p, l, n, bd, rfl, _⟩ := h
    rfl
  obtain ⟨p, l, n, bd, rfl, hP, hn, q⟩ := h
  refine ⟨_, (pss_cons (ps_set (i := 1) sc__law_names.nd rfl (Or.inr rfl) (pe_ix ix_str pe_str (pe_call (ok__law_draw T) (hr.mono (by decide)) (by rfl) T.g__law_draw T.F__law_draw.kp T.b__law_draw .nil pass0 (pa_cons (pv 0) (pa_cons pe_int pa_nil))) (fun _ _ => rfl)))
    (pss_cons (ps_set (i := 2) sc__law_names.nd rfl (Or.inr rfl) (pe_call (ok__law_draw T) (hr.mono (by decide)) (by rfl) T.g__law_draw T.F__law_draw.kp T.b__law_draw .nil pass0 (pa_cons (pv 0) (pa_cons pe_int pa_nil))))
    (pss_one (ps_ret (pe_lc (own := [("_law_k", 3)]) (g := gName 3) (tt := tYes) (by rfl) sc__law_names.nd (pi_range1 (by rfl) T.range (pa_cons pe_int pa_nil)) (blkOk_by (own := [("_law_k", 3)]) (N := ["_law_pool_here", "_law_letter", "_law_shift", "_law_k"]) (sc := defScope s__law_names) (by decide +kernel)) (fun _ _ _ _ _ => pg_name (i := 3) sc__law_names.nd rfl (Or.inl rfl)) (fun _ _ _ _ _ => pts_nil) (fun _ _ _ _ _ => (pe_op op_add_str (pv 1) (pe_callTy call_str_int (by rfl) T.str (by decide +kernel) (pa_cons (pe_op op_mod (pe_op op_add (pe_op op_mul pe_int (pv 3)) (pv 2)) pe_int) pa_nil))))))))), ?_⟩
  refine ⟨_, rfl, p, l, n, bd, 26, rfl, hP, by omega, by decide, log_small (by decide) (by decide), fun r1 H1 r10 r11 P1 f1 => ?_⟩
  obtain ⟨c, hc, hm⟩ := atI_ex (xs := tl LET) (r := r1) r10 (by rw [show (tl LET).length = 26 from by decide +kernel]; exact r11)
  refine ⟨_, r1, c, rfl, rfl, (by decide +kernel), hc, ?_⟩
  refine ⟨_, rfl, p, l, n + 1, bd, 16, rfl, P1, by omega, by decide, log_small (by decide) (by decide), fun r2 H2 r20 r21 P2 f2 => ?_⟩
  refine ⟨16, rfl, by decide, by decide, fun D hD => ?_⟩
  have hDo := P2.off hD
  have k2 : Keep p l H H2 := (Keep.draw f1).trans (Keep.draw f2)
  have nD : H D = none := k2.free hD hDo.1 hDo.2
  refine lc_range (lo := 0) (n := 16) (fun i H' => PoolAt H' p l (n + 2) bd ∧ Keep p l H H' ∧ H' D = some (.lst ((((List.range i).map (nameL c r2))).map V.str)))
    ⟨(P2.mono (by omega)).same (same_upd hD), k2.trans (Keep.of (same_upd hD)), upd_same⟩ ?_ ?_
  · rintro i H' hi ⟨P3, k3, hD3⟩
    have h16 : 0 ≤ (7 * ((0 : Int) + (i : Int)) + r2) % 16 ∧ (7 * ((0 : Int) + (i : Int)) + r2) % 16 < 16 := ⟨Int.emod_nonneg _ (by decide), Int.emod_lt_of_pos _ (by decide)⟩
    refine ⟨rfl, _, rfl, _, rfl, _, _, rfl, rfl, .inl ⟨by decide, by decide⟩, _, rfl, _, _, rfl, rfl, _, _, rfl, rfl, (by show (0 : Int) < 16; decide), _, rfl, log_ok h16.1 (by omega), _, _, rfl, rfl, ?_, _, hD3, ?_, ?_, ?_, ?_⟩
    · have := numT_len h16.1 (show _ < 1000000000000000000 by omega)
      unfold numT at this
      exact bigLe (by show 1 + _ ≤ 1000000; omega)
    · rw [List.length_map, List.length_map, List.length_range]
      exact bigLine (by omega)
    · exact P3.keep (upd_ne hDo.1.symm) (upd_ne hDo.2.symm)
    · exact k3.mut nD
    · rw [upd_same, List.range_succ, List.map_append, List.map_append]
      rfl
  · rintro H' ⟨P3, k3, hD3⟩
    exact q H' D c r2 P3 k3 hDo.1 hDo.2 nD hm r20 r21 hD3
end
theorem drawn_ok {v : Str} {c : Nat} {ds : List Nat} (e : tl v = c :: ds) (hc : letter c = true) (h0 : ds ≠ []) (hd : ∀ d ∈ ds, 48 ≤ d ∧ d ≤ 57) (hl : v.length ≤ 1000) : NmOk v := by
  refine ⟨?_, hl⟩
  have hw : isW v = true := by
    unfold isW
    rw [e]
    show (letter c && (c :: ds).all alnum) = true
    rw [hc, Bool.true_and, List.all_eq_true]
    intro x hx
    rcases List.mem_cons.mp hx with rfl | hx
    · unfold alnum
      rw [hc]
      rfl
    · unfold alnum
      rw [(letters_no (hd x hx).1 (hd x hx).2).2, Bool.or_true]
  have hk : inV (.str v) kws = false := by
    cases hi : inV (.str v) kws with
    | false => rfl
    | true =>
      unfold inV at hi
      obtain ⟨y, hy, he⟩ := List.any_eq_true.mp hi
      obtain ⟨z, rfl, hz⟩ := kws_plain y hy
      have ez : z = v := by
        have : (z == v) = true := he
        exact eq_of_beq this
      subst ez
      obtain ⟨d, r, rfl⟩ : ∃ d r, ds = d :: r := by
        cases ds with
        | nil => exact absurd rfl h0
        | cons d r => exact ⟨d, r, rfl⟩
      have hdm := hd d List.mem_cons_self
      have := hz d (by rw [e]; simp)
      rw [(letters_no hdm.1 hdm.2).2] at this
      cases this
  unfold isN
  rw [hw, hk]
  rfl
end K10
namespace K10
open PySem PySem.Spec PyProof.Rows L2 TL
/-! ### what is drawn -/
theorem TK.keep {H H' : Hp} {p l : Addr} {n b : Int} (P : PoolAt H p l n b) (k : Keep p l H H') : TK H H' := fun q xs h => by
  obtain ⟨_, cs, ix, cnt, seed, ph, h1, h2, _⟩ := P
  exact k q _ h (fun e => by rw [e, h1] at h; cases h) (fun e => by rw [e, h2] at h; cases h)
theorem RepP.tk {H H' : Hp} (s : TK H H') : ∀ {as : List Addr} {ts : List (Str × Int)}, RepP H as ts → RepP H' as ts
  | [], [], _ => trivial
  | _ :: _, _ :: _, h => ⟨s _ _ h.1, RepP.tk s h.2⟩
  | [], _ :: _, h => h.elim
  | _ :: _, [], h => h.elim
theorem PoolAt.fresh {H : Hp} {p l q : Addr} {n b : Int} {o : HO} (P : PoolAt H p l n b) (h : H q = none) : PoolAt (upd H q o) p l n b := P.keep (upd_ne (P.off h).1.symm) (upd_ne (P.off h).2.symm)
theorem PoolAt.put {H : Hp} {p l q : Addr} {n b : Int} {o : HO} (P : PoolAt H p l n b) (h : q ≠ p) (h' : q ≠ l) : PoolAt (upd H q o) p l n b := P.keep (upd_ne h.symm) (upd_ne h'.symm)
theorem lt_sub {ys : List Str} {ts : List (Str × Int)} {i : Nat} (h : (ts.map (·.1)).Sublist (ys.take i)) (hp : ys.Pairwise Lt) : ts.Pairwise fun s t => Lt s.1 t.1 := by
  have h1 := (hp.sublist (List.take_sublist i ys)).sublist h
  rwa [List.pairwise_map] at h1
structure WsOk (ws : List Str) : Prop where
  nm : ∀ v ∈ ws, NmOk v
  nd : ws.Nodup
  len : ws.length ≤ 9
  ne : ws ≠ []
/-- a list of words stands at aw -/
structure WsAt (H : Hp) (p l aw : Addr) (ws : List Str) : Prop where
  at_ : H aw = some (.lst (ws.map V.str))
  np : aw ≠ p
  nl : aw ≠ l
  ok : WsOk ws
theorem WsAt.keep {H H' : Hp} {p l aw : Addr} {ws : List Str} (w : WsAt H p l aw ws) (k : Keep p l H H') : WsAt H' p l aw ws := ⟨k _ _ w.at_ w.np w.nl, w.np, w.nl, w.ok⟩
def spPick : Sp := fun vs H Q _ => ∃ (p l aw : Addr) (n b : Int) (ws : List Str), vs = [.ref p, .ref aw] ∧ PoolAt H p l n b ∧ n ≤ 1000000000000 ∧ WsAt H p l aw ws ∧ ∀ (z : Str) (H' : Hp), z ∈ ws → NmOk z → PoolAt H' p l (n + 1) b → Keep p l H H' → Q (.str z) H'
def spSum : Sp := fun vs H Q _ => ∃ (p l aw : Addr) (n b : Int) (ws : List Str), vs = [.ref p, .ref aw] ∧ PoolAt H p l n b ∧ n ≤ 1000000000000 ∧ WsAt H p l aw ws ∧ ∀ (e : Ex) (v : V) (H' : Hp), SumF e → Dv H' v (dE e) → PoolAt H' p l (n + 9) b → Keep p l H H' → Q v H'
def spCallW : Sp := fun vs H Q _ => ∃ (p l aw : Addr) (n b : Int) (ws : List Str), vs = [.ref p, .ref aw] ∧ PoolAt H p l n b ∧ n ≤ 999999999000 ∧ WsAt H p l aw ws ∧ ∀ (f : Str) (as : List Ar) (v : V) (H' : Hp), NmOk f → ArsF as → Dv H' v (dCall f as) → PoolAt H' p l (n + 25) b → Keep p l H H' → Q v H'
def asgN (l : List TS) : Nat := (l.filter fun s => s.asg.isSome).length
structure PieceOk (d : Nat) (st : TS) : Prop where
  F : st.F
  ht : st.ht ≤ d
  sz : st.sz ≤ d + 1
  one : ∀ s ∈ listS st, OneH s
  asg : asgN (listS st) ≤ 1
def spPiece (d : Nat) : Sp := fun vs H Q _ => ∃ (p l aw : Addr) (n b : Int) (ws : List Str), vs = [.ref p, .ref aw, .int d] ∧ PoolAt H p l n b ∧ n ≤ 999999990000 - 60 * d ∧ WsAt H p l aw ws ∧ ∀ (st : TS) (v : V) (H' : Hp), PieceOk d st → Dv H' v (dS st) → PoolAt H' p l (n + 60 * (d + 1)) b → Keep p l H H' → Q v H'
section
variable {P : Program} {w : World} {K : PySem.W.Frag} {mg : Str → Option Value} {base : Heap} {a : Ads}
theorem sc__law_pick : FnScope ["_law_pool_here", "_law_words"] ["_law_pool_here", "_law_words"] (defScope s__law_pick) := ⟨rfl, rfl, rfl, by decide +kernel, rfl, by decide +kernel, by decide +kernel⟩
theorem ok__law_pick (T : Txt K mg a) : FnOk P w K mg base CX0 3 a.f__law_pick a.f__law_pick_d ["_law_pool_here", "_law_words"] spPick := by
  refine T.F__law_pick.ok sc__law_pick (fun vs H Q E h => ?_) (fun cdv A outer s H vs Q E hr h => ?_)
  · obtain ⟨p, l, aw, n, b, ws, rfl, _⟩ := h
    rfl
  obtain ⟨p, l, aw, n, b, ws, rfl, hP, hn, hw, q⟩ := h
  refine ⟨_, (pss_one (ps_ret (pe_ix ix_list (pv 1) (pe_call (ok__law_draw T) (hr.mono (by decide)) (by rfl) T.g__law_draw T.F__law_draw.kp T.b__law_draw .nil pass0 (pa_cons (pv 0) (pa_cons (pe_callB (show CallR _ (.builtin "len") (rLenS K) from call_len_seq) (by rfl) T.len PySem.boot_len (pa_cons (pv 1) pa_nil)) pa_nil))) (fun _ _ => rfl)))), ?_⟩
  have hl := hw.ok.len
  have h0 : 0 < ws.length := List.length_pos_iff.mpr hw.ok.ne
  refine ⟨_, rfl, _, rfl, _, rfl, aw, _, rfl, .inl (SqL.of hw.at_), p, l, n, b, (((ws.map V.str).length : Nat) : Int), rfl, hP, by omega, by rw [List.length_map]; omega, log_small (by rw [List.length_map]; omega) (by rw [List.length_map]; omega), fun r H1 r0 r1 P1 f1 => ?_⟩
  have k1 := Keep.draw f1
  obtain ⟨x, hx, hm⟩ := atI_ex (xs := ws.map V.str) (r := r) r0 r1
  obtain ⟨z, hz, rfl⟩ := List.mem_map.mp hm
  exact ⟨aw, _, _, _, rfl, rfl, SqL.of (hw.keep k1).at_, hx, q z H1 hz (hw.ok.nm z hz) P1 k1⟩
theorem sc__law_sum : FnScope ["_law_pool_here", "_law_words", "_law_word"] ["_law_pool_here", "_law_words"] (defScope s__law_sum) := ⟨rfl, rfl, rfl, by decide +kernel, rfl, by decide +kernel, by decide +kernel⟩
theorem ok__law_sum (T : Txt K mg a) : FnOk P w K mg base CX0 3 a.f__law_sum a.f__law_sum_d ["_law_pool_here", "_law_words"] spSum := by
  refine T.F__law_sum.ok sc__law_sum (fun vs H Q E h => ?_) (fun cdv A outer s H vs Q E hr h => ?_)
  · obtain ⟨p, l, aw, n, b, ws, rfl, _⟩ := h
    rfl
  obtain ⟨p, l, aw, n, b, ws, rfl, hP, hn, hw, q⟩ := h
  refine ⟨_, (pss_one (ps_ret (pe_tup (pa_cons pe_int (pa_cons (pe_callTy call_tuple_of (by rfl) T.tuple (by decide +kernel) (pa_cons (pe_lc (own := [("_law_word", 2)]) (g := gName 2) (tt := _) (by rfl) sc__law_sum.nd (pi_list (pe_callB cr_sortedS (by rfl) T.sorted (by decide +kernel) (pa_cons (pv 1) pa_nil))) (blkOk_by (own := [("_law_word", 2)]) (N := ["_law_pool_here", "_law_words", "_law_word"]) (sc := defScope s__law_sum) (by decide +kernel)) (fun _ _ _ _ _ => pg_name (i := 2) sc__law_sum.nd rfl (Or.inl rfl)) (fun _ _ _ _ _ => (pts_one (pt_cmpR op_eq (pe_call (ok__law_draw T) (hr.mono (by decide)) (by rfl) T.g__law_draw T.F__law_draw.kp T.b__law_draw .nil pass0 (pa_cons (pv 0) (pa_cons pe_int pa_nil))) pe_int (nomark _)))) (fun _ _ _ _ _ => (pe_tup (pa_cons (pv 2) (pa_cons pe_int pa_nil))))) pa_nil)) pa_nil))))), ?_⟩
  have hlen := hw.ok.len
  refine ⟨_, rfl, aw, ws, rfl, SqL.of hw.at_, by omega, fun ys y hperm hsort ny => ?_⟩
  have hyo := hP.off ny
  have P2 := hP.fresh (o := .lst (ys.map V.str)) ny
  have k2 : Keep p l H (upd H y (.lst (ys.map V.str))) := Keep.of (same_upd ny)
  have hy : (upd H y (.lst (ys.map V.str))) y = some (.lst (ys.map V.str)) := upd_same
  generalize upd H y (.lst (ys.map V.str)) = H2 at P2 k2 hy
  have hyl : ys.length = ws.length := hperm.length_eq
  have hstrict := sorted_strict hsort (hperm.symm.nodup hw.ok.nd)
  refine ⟨y, rfl, ⟨_, SqL.of hy⟩, fun N nN => ?_⟩
  have hNo := P2.off nN
  have nN0 : H N = none := k2.free nN hNo.1 hNo.2
  have hyN : y ≠ N := ne_of_none hy nN
  refine it_lst (K := K) (a := y) (xs := ys.map V.str) (fun i H' => ∃ (ts : List (Str × Int)) (as : List Addr), PoolAt H' p l (n + i) b ∧ Keep p l H H' ∧ H' y = some (.lst (ys.map V.str)) ∧
      H' N = some (.lst (as.map V.ref)) ∧ RepP H' as ts ∧ (ts.map (·.1)).Sublist (ys.take i) ∧ ∀ t ∈ ts, t.2 = 2)
    ⟨[], [], (P2.fresh nN).mono (by omega), k2.trans (Keep.of (same_upd nN)), by rw [upd_ne hyN]; exact hy, upd_same, trivial, List.Sublist.refl _, fun t h => by cases h⟩ (fun i H' _ ⟨_, _, _, _, h, _⟩ => SqL.of h) ?_ ?_
  · rintro i x H3 hi ⟨ts, as, P3, k3, hy3, hN3, hR3, hsub, hsm⟩
    obtain ⟨z, hz, rfl⟩ := get_map hi
    have hil := (List.getElem?_eq_some_iff.mp hz).1
    have al := hR3.len
    have tl : ts.length ≤ i := by
      have := hsub.length_le
      rw [List.length_map, List.length_take] at this
      omega
    have et : ys.take (i + 1) = ys.take i ++ [z] := by rw [List.take_add_one, hz]; rfl
    refine ⟨rfl, _, rfl, p, l, _, b, 4, rfl, P3, by omega, by decide, log_small (by decide) (by decide), fun r H4 r0 r1 P4 f4 => ?_⟩
    have k4 := Keep.draw f4
    have k04 := k3.trans k4
    have tk4 : TK H3 H4 := TK.keep P3 k4
    have hy4 := k4 _ _ hy3 hyo.1 hyo.2
    have hN4 := k4 _ _ hN3 hNo.1 hNo.2
    refine ⟨rfl, _, rfl, ite2 (fun e => ?_) (fun e => ?_)⟩
    · refine ⟨_, rfl, two_le, fun c nc => ?_⟩
      have sc := same_upd (o := .tup [.str z, .int 2]) nc
      have P5 := P4.fresh (o := .tup [.str z, .int 2]) nc
      have hN5 := sc _ _ hN4
      have hc5 : (upd H4 c (.tup [.str z, .int 2])) c = some (.tup [.str z, .int 2]) := upd_same
      have hR5 := (hR3.tk tk4).tk (TK.of sc)
      have k05 := k04.trans (Keep.of (p := p) (l := l) sc)
      have hy5 := sc _ _ hy4
      generalize upd H4 c (.tup [.str z, .int 2]) = H5 at P5 hN5 hc5 hR5 k05 hy5
      refine ⟨_, hN5, bigLine (by rw [List.length_map]; omega), ts ++ [(z, 2)], as ++ [c], ?_, k05.mut nN0, ?_, ?_, ?_, ?_, ?_⟩
      · exact (P5.put hNo.1 hNo.2).mono (by omega)
      · rw [upd_ne hyN]
        exact hy5
      · rw [upd_same, List.map_append]
        rfl
      · exact (RepP.app (t := (z, 2)) hc5 hR5).offX hN5 (fun _ z => by cases z)
      · rw [et, List.map_append]
        exact List.Sublist.append hsub (List.Sublist.refl _)
      · intro t ht
        rcases List.mem_append.mp ht with ht | ht
        · exact hsm t ht
        · rw [List.mem_singleton.mp ht]
    · refine ⟨ts, as, P4.mono (by omega), k04, hy4, hN4, hR3.tk tk4, ?_, hsm⟩
      rw [et]
      exact hsub.trans (List.sublist_append_left _ _)
  · rintro H3 ⟨ts, as, P3, k3, hy3, hN3, hR3, hsub, hsm⟩
    rw [List.length_map] at P3 hsub
    refine ⟨N, _, rfl, .inl ⟨SqL.of hN3, fun pt np => ?_⟩⟩
    have sp := same_upd (o := .tup (as.map V.ref)) np
    have P4 := P3.fresh (o := .tup (as.map V.ref)) np
    have hp4 : (upd H3 pt (.tup (as.map V.ref))) pt = some (.tup (as.map V.ref)) := upd_same
    have hR4 := hR3.tk (TK.of sp)
    have k4 := k3.trans (Keep.of (p := p) (l := l) sp)
    generalize upd H3 pt (.tup (as.map V.ref)) = H4 at P4 hp4 hR4 k4
    refine ⟨two_le, fun c nc => ?_⟩
    have sc := same_upd (o := .tup [.int 1, .ref pt]) nc
    have hsl := hsub.length_le
    rw [List.length_map, List.length_take] at hsl
    refine q (1, ts) (.ref c) _ ⟨lt_sub hsub hstrict, fun t ht => ?_, by show ts.length ≤ 50; omega, ⟨by show (-999999999999 : Int) ≤ 1; decide, by show (1 : Int) ≤ 999999999999; decide⟩⟩ (Dv.of_ex upd_same (sc _ _ hp4) (hR4.tk (TK.of sc))) ((P4.fresh nc).mono (by omega)) (k4.trans (Keep.of sc))
    have h1 : t.1 ∈ ws := hperm.mem_iff.mp (List.mem_of_mem_take (hsub.subset (List.mem_map_of_mem ht)))
    rw [hsm t ht]
    exact ⟨hw.ok.nm _ h1, by decide, ⟨by decide, by decide⟩⟩
theorem sc__law_call : FnScope ["_law_pool_here", "_law_words", "_law_args", "_law_k"] ["_law_pool_here", "_law_words"] (defScope s__law_call) := ⟨rfl, rfl, rfl, by decide +kernel, rfl, by decide +kernel, by decide +kernel⟩
theorem ok__law_call (T : Txt K mg a) : FnOk P w K mg base CX0 4 a.f__law_call a.f__law_call_d ["_law_pool_here", "_law_words"] spCallW := by
  refine T.F__law_call.ok sc__law_call (fun vs H Q E h => ?_) (fun cdv A outer s H vs Q E hr h => ?_)
  · obtain ⟨p, l, aw, n, b, ws, rfl, _⟩ := h
    rfl
  obtain ⟨p, l, aw, n, b, ws, rfl, hP, hn, hw, q⟩ := h
  refine ⟨_, (pss_cons (ps_set (i := 2) sc__law_call.nd rfl (Or.inl rfl) (pe_lst pa_nil))
    (pss_cons (ps_for PassesOwn.never rfl (pi_range1 (by rfl) T.range (pa_cons (pe_call (ok__law_draw T) (hr.mono (by decide)) (by rfl) T.g__law_draw T.F__law_draw.kp T.b__law_draw .nil pass0 (pa_cons (pv 0) (pa_cons pe_int pa_nil))) pa_nil)) (pg_name (i := 3) sc__law_call.nd rfl (Or.inl rfl))
      (pss_one (ps_expr (pe_bm PySem.F.plainAttrs_list PySem.F.slot_list_append PySem.F.type_list_append mt_append (pv 2) (pa_cons (pe_ifExp (pt_cmpR op_eq (pe_call (ok__law_draw T) (hr.mono (by decide)) (by rfl) T.g__law_draw T.F__law_draw.kp T.b__law_draw .nil pass0 (pa_cons (pv 0) (pa_cons pe_int pa_nil))) pe_int (nomark _)) (pe_tup (pa_cons pe_str (pa_cons (pe_call (ok__law_pick T) (hr.mono (by decide)) (by rfl) T.g__law_pick T.F__law_pick.kp T.b__law_pick .nil pass0 (pa_cons (pv 0) (pa_cons (pv 1) pa_nil))) pa_nil))) (pe_tup (pa_cons pe_str (pa_cons (pe_call (ok__law_sum T) (hr.mono (by decide)) (by rfl) T.g__law_sum T.F__law_sum.kp T.b__law_sum .nil pass0 (pa_cons (pv 0) (pa_cons (pv 1) pa_nil))) pa_nil)))) pa_nil)))))
    (pss_one (ps_ret (pe_tup (pa_cons (pe_call (ok__law_pick T) (hr.mono (by decide)) (by rfl) T.g__law_pick T.F__law_pick.kp T.b__law_pick .nil pass0 (pa_cons (pv 0) (pa_cons (pv 1) pa_nil))) (pa_cons (pe_callTy call_tuple_of (by rfl) T.tuple (by decide +kernel) (pa_cons (pv 2) pa_nil)) pa_nil))))))), ?_⟩
  refine ⟨Nat.zero_le _, fun N nN => ?_⟩
  have hNo := hP.off nN
  have P1 := hP.fresh (o := .lst []) nN
  have k1 : Keep p l H (upd H N (.lst [])) := Keep.of (same_upd nN)
  have hN1 : (upd H N (.lst [])) N = some (.lst []) := upd_same
  dsimp only [gName]
  generalize upd H N (.lst []) = H1 at P1 k1 hN1
  refine st_seq ⟨_, rfl, p, l, _, b, 3, rfl, P1, by omega, by decide, log_small (by decide) (by decide), fun r H2 r0 r1 P2 f2 => ?_⟩
  have k2 := k1.trans (Keep.draw f2)
  have hN2 := (Keep.draw f2) _ _ hN1 hNo.1 hNo.2
  obtain ⟨m, rfl⟩ : ∃ m : Nat, r = (m : Int) := ⟨r.toNat, by omega⟩
  have hm : m ≤ 2 := by omega
  refine ⟨(m : Int), rfl, by omega, by omega, for_range (lo := 0) (n := ((m : Nat) : Int).toNat) (fun i σ H' => ∃ (v3 : Option V) (as : List Ar) (ys : List V), σ = [some (.ref p), some (.ref aw), some (.ref N), v3] ∧ PoolAt H' p l (n + 1 + 11 * (i : Nat)) b ∧ Keep p l H H' ∧ H' N = some (.lst ys) ∧ Dvs H' ys (DL.of (as.map dA)) ∧ as.length = i ∧ ∀ x ∈ as, ArF x)
    ⟨none, [], [], rfl, P2.mono (by omega), k2, hN2, rfl, rfl, fun x hx => by cases hx⟩ ?_ ?_⟩
  · rintro i σ H3 hi ⟨v3, as, ys, rfl, P3, k3, hN3, hD3, hal, hA⟩
    have hil : i < m := by omega
    have hyl := hD3.len
    rw [List.length_map] at hyl
    dsimp only [gName]
    refine ⟨_, rfl, .inl ⟨rfl, _, SqL.of hN3⟩, _, rfl, p, l, _, b, 3, rfl, P3, by omega, by decide, log_small (by decide) (by decide), fun r H4 r0 r1 P4 f4 => ?_⟩
    have k4 := Keep.draw f4
    refine ⟨rfl, _, rfl, ite2 (fun e => ?_) (fun e => ?_)⟩
    · refine ⟨_, rfl, _, rfl, p, l, aw, _, b, ws, rfl, P4, by omega, hw.keep (k3.trans k4), fun z H5 hz hzn P5 k5 => ⟨two_le, fun c nc => ?_⟩⟩
      have sc := same_upd (o := .tup [.str "place", .str z]) nc
      have P6 := P5.fresh (o := .tup [.str "place", .str z]) nc
      have hv6 : Dv (upd H5 c (.tup [.str "place", .str z])) (.ref c) (dA (.pla z)) := Dv.of_u upd_same
      have k36 := (k4.trans k5).trans (Keep.of (p := p) (l := l) sc)
      have hx6 : ArF (.pla z) := hzn
      generalize upd H5 c (.tup [.str "place", .str z]) = H6 at P6 hv6 k36
      have h6 := k36 _ _ hN3 hNo.1 hNo.2
      have tk36 := TK.keep P3 k36
      have tkN : TK H6 (upd H6 N (.lst (ys ++ [(.ref c)]))) := TK.upd h6 (fun _ z => by cases z)
      refine ⟨N, _, _, rfl, rfl, h6, bigLine (by omega), _, as ++ [(.pla z)], ys ++ [(.ref c)], rfl, (P6.put hNo.1 hNo.2).mono (by omega), (k3.trans k36).mut nN, upd_same, ?_, by rw [List.length_append, hal]; rfl, fun x hx => ?_⟩
      · rw [List.map_append]
        exact Dvs.append (hD3.mono (tk36.trans tkN)) ⟨(.ref c), [], rfl, hv6.mono tkN, rfl⟩
      · rcases List.mem_append.mp hx with hx | hx
        · exact hA x hx
        · rw [List.mem_singleton.mp hx]
          exact hx6
    · refine ⟨_, rfl, _, rfl, p, l, aw, _, b, ws, rfl, P4, by omega, hw.keep (k3.trans k4), fun e5 v5 H5 he5 hv5 P5 k5 => ⟨two_le, fun c nc => ?_⟩⟩
      have sc := same_upd (o := .tup [.str "value", v5]) nc
      have P6 := P5.fresh (o := .tup [.str "value", v5]) nc
      have hv6 : Dv (upd H5 c (.tup [.str "value", v5])) (.ref c) (dA (.val e5)) := ⟨c, _, rfl, upd_same, _, _, rfl, rfl, _, _, rfl, hv5.mono (TK.of sc), rfl⟩
      have k36 := (k4.trans k5).trans (Keep.of (p := p) (l := l) sc)
      have hx6 : ArF (.val e5) := he5
      generalize upd H5 c (.tup [.str "value", v5]) = H6 at P6 hv6 k36
      have h6 := k36 _ _ hN3 hNo.1 hNo.2
      have tk36 := TK.keep P3 k36
      have tkN : TK H6 (upd H6 N (.lst (ys ++ [(.ref c)]))) := TK.upd h6 (fun _ z => by cases z)
      refine ⟨N, _, _, rfl, rfl, h6, bigLine (by omega), _, as ++ [(.val e5)], ys ++ [(.ref c)], rfl, (P6.put hNo.1 hNo.2).mono (by omega), (k3.trans k36).mut nN, upd_same, ?_, by rw [List.length_append, hal]; rfl, fun x hx => ?_⟩
      · rw [List.map_append]
        exact Dvs.append (hD3.mono (tk36.trans tkN)) ⟨(.ref c), [], rfl, hv6.mono tkN, rfl⟩
      · rcases List.mem_append.mp hx with hx | hx
        · exact hA x hx
        · rw [List.mem_singleton.mp hx]
          exact hx6
  · rintro σ H3 ⟨v3, as, ys, rfl, P3, k3, hN3, hD3, hal, hA⟩
    refine ⟨_, rfl, _, rfl, p, l, aw, _, b, ws, rfl, P3, by omega, hw.keep k3, fun z H4 hz hzn P4 k4 => ?_⟩
    have hN4 := k4 _ _ hN3 hNo.1 hNo.2
    refine ⟨_, rfl, N, _, rfl, .inl ⟨SqL.of hN4, fun pt np => ?_⟩⟩
    have sp := same_upd (o := .tup ys) np
    have P5 := P4.fresh (o := .tup ys) np
    refine ⟨two_le, fun c nc => ?_⟩
    have sc := same_upd (o := .tup [.str z, .ref pt]) nc
    have t34 := TK.keep P3 k4
    refine q z as (.ref c) _ hzn ⟨hA, by omega⟩ ⟨c, _, rfl, upd_same, _, _, rfl, rfl, _, _, rfl, ⟨pt, ys, rfl, sc _ _ upd_same, hD3.mono ((t34.trans (TK.of sp)).trans (TK.of sc))⟩, rfl⟩ ((P5.fresh nc).mono (by omega)) (((k3.trans k4).trans (Keep.of sp)).trans (Keep.of sc))
end
end K10
namespace K10
open PySem PySem.Spec PyProof.Rows L2 TL
abbrev ob (st : TS) : TB := .cons st .nil
theorem ob_list (st : TS) : listB (ob st) = listS st := List.append_nil _
theorem asg_one (s : TS) : asgN [s] ≤ 1 := by
  unfold asgN
  exact Nat.le_trans (List.length_filter_le _ _) (Nat.le_refl 1)
theorem piece_plain {d : Nat} {p : P0} (h : P0F p) : PieceOk d (.pl p) := ⟨h, Nat.zero_le _, Nat.le_add_left 1 d, fun s hs => by rw [List.mem_singleton.mp hs]; trivial, asg_one _⟩
theorem piece_comp {d : Nat} {st s : TS} (h : PieceOk d st) (hl : listS s = s :: listS st) (ha : s.asg = none) (hF : s.F) (hh : s.ht ≤ st.ht + 1) (hz : s.sz = st.sz + 1) (ho : OneH s) : PieceOk (d + 1) s := by
  have h1 := h.ht
  have h2 := h.sz
  refine ⟨hF, by omega, by omega, fun r hr => ?_, ?_⟩
  · rw [hl] at hr
    rcases List.mem_cons.mp hr with rfl | hr
    · exact ho
    · exact h.one r hr
  · rw [hl]
    unfold asgN
    rw [List.filter_cons_of_neg (by rw [ha]; exact Bool.false_ne_true)]
    exact h.asg
def spPi : Nat → Sp
  | 0 => fun _ _ _ _ => False
  | d + 1 => spPiece d
theorem four_le : (4 : Nat) ≤ sizeLine := by decide
theorem five_le : (5 : Nat) ≤ sizeLine := by decide
theorem ns_one {z : Str} (h : NmOk z) : NsF [z] := ⟨fun v hv => by rw [List.mem_singleton.mp hv]; exact h, by show 1 ≤ 1000; decide⟩
theorem Dv.one {H : Hp} {c : Addr} {z : Str} (h : H c = some (.tup [.str z])) : Dv H (.ref c) (dNs [z]) := ⟨c, _, rfl, h, _, _, rfl, rfl, rfl⟩
section
variable {P : Program} {w : World} {K : PySem.W.Frag} {mg : Str → Option Value} {base : Heap} {a : Ads}
theorem sc__law_piece : FnScope ["_law_pool_here", "_law_words", "_law_depth", "_law_choice", "_law_inner"] ["_law_pool_here", "_law_words", "_law_depth"] (defScope s__law_piece) := ⟨rfl, rfl, rfl, by decide +kernel, rfl, by decide +kernel, by decide +kernel⟩
theorem ok__law_piece1 (T : Txt K mg a) (d k : Nat) (hk : 4 ≤ k) (ihp : FnOk P w K mg base CX0 k a.f__law_piece a.f__law_piece_d ["_law_pool_here", "_law_words", "_law_depth"] (spPi d)) : FnOk P w K mg base CX0 (k + 1) a.f__law_piece a.f__law_piece_d ["_law_pool_here", "_law_words", "_law_depth"] (spPi (d + 1)) := by
  refine T.F__law_piece.ok sc__law_piece (fun vs H Q E h => ?_) (fun cdv A outer s H vs Q E hr h => ?_)
  · obtain ⟨p, l, aw, n, b, ws, rfl, _⟩ := h
    rfl
  obtain ⟨p, l, aw, n, b, ws, rfl, hP, hn, hw, q⟩ := h
  refine ⟨_, (pss_cons (ps_set (i := 3) sc__law_piece.nd rfl (Or.inl rfl) (pe_call (ok__law_draw T) (hr.mono (by omega)) (by rfl) T.g__law_draw T.F__law_draw.kp T.b__law_draw .nil pass0 (pa_cons (pv 0) (pa_cons pe_int pa_nil))))
    (pss_cons (ps_if (pt_cmpR op_lt (pv 3) pe_int (nomark _))
      (pss_one (ps_ret (pe_tup (pa_cons pe_str (pa_cons (pe_call (ok__law_pick T) (hr.mono (by omega)) (by rfl) T.g__law_pick T.F__law_pick.kp T.b__law_pick .nil pass0 (pa_cons (pv 0) (pa_cons (pv 1) pa_nil))) (pa_cons (pe_call (ok__law_sum T) (hr.mono (by omega)) (by rfl) T.g__law_sum T.F__law_sum.kp T.b__law_sum .nil pass0 (pa_cons (pv 0) (pa_cons (pv 1) pa_nil))) pa_nil))))))
      pss_nil)
    (pss_cons (ps_if (pt_cmpR op_lt (pv 3) pe_int (nomark _))
      (pss_one (ps_ret (pe_tup (pa_cons pe_str (pa_cons (pe_call (ok__law_pick T) (hr.mono (by omega)) (by rfl) T.g__law_pick T.F__law_pick.kp T.b__law_pick .nil pass0 (pa_cons (pv 0) (pa_cons (pv 1) pa_nil))) pa_nil)))))
      pss_nil)
    (pss_cons (ps_if (pt_cmpR op_lt (pv 3) pe_int (nomark _))
      (pss_one (ps_ret (pe_op op_catA (pe_tup (pa_cons pe_str (pa_cons (pe_ix ix_list (pe_lst (pa_cons pe_non (pa_cons (pe_call (ok__law_pick T) (hr.mono (by omega)) (by rfl) T.g__law_pick T.F__law_pick.kp T.b__law_pick .nil pass0 (pa_cons (pv 0) (pa_cons (pv 1) pa_nil))) pa_nil))) (pe_call (ok__law_draw T) (hr.mono (by omega)) (by rfl) T.g__law_draw T.F__law_draw.kp T.b__law_draw .nil pass0 (pa_cons (pv 0) (pa_cons pe_int pa_nil))) (fun _ _ => rfl)) pa_nil))) (pe_call (ok__law_call T) (hr.mono (by omega)) (by rfl) T.g__law_call T.F__law_call.kp T.b__law_call .nil pass0 (pa_cons (pv 0) (pa_cons (pv 1) pa_nil))))))
      pss_nil)
    (pss_cons (ps_if (pt_cmpR op_lt (pv 3) pe_int (nomark _))
      (pss_one (ps_ret (pe_ix ix_list (pe_lst (pa_cons (pe_tup (pa_cons pe_str (pa_cons (pe_call (ok__law_pick T) (hr.mono (by omega)) (by rfl) T.g__law_pick T.F__law_pick.kp T.b__law_pick .nil pass0 (pa_cons (pv 0) (pa_cons (pv 1) pa_nil))) pa_nil))) (pa_cons (pe_tup (pa_cons pe_str (pa_cons (pe_tup (pa_cons (pe_call (ok__law_pick T) (hr.mono (by omega)) (by rfl) T.g__law_pick T.F__law_pick.kp T.b__law_pick .nil pass0 (pa_cons (pv 0) (pa_cons (pv 1) pa_nil))) pa_nil)) pa_nil))) pa_nil))) (pe_call (ok__law_draw T) (hr.mono (by omega)) (by rfl) T.g__law_draw T.F__law_draw.kp T.b__law_draw .nil pass0 (pa_cons (pv 0) (pa_cons pe_int pa_nil))) (fun _ _ => rfl))))
      pss_nil)
    (pss_cons (ps_if (PW.pt (pw_or (pt_cmpR op_eq (pv 2) pe_int (nomark _)) (pw_or1 (pt_cmpR op_lt (pv 3) pe_int (nomark _)))))
      (pss_one (ps_ret (pe_tup (pa_cons pe_str (pa_cons (pe_call (ok__law_sum T) (hr.mono (by omega)) (by rfl) T.g__law_sum T.F__law_sum.kp T.b__law_sum .nil pass0 (pa_cons (pv 0) (pa_cons (pv 1) pa_nil))) pa_nil)))))
      pss_nil)
    (pss_cons (ps_set (i := 4) sc__law_piece.nd rfl (Or.inl rfl) (pe_tup (pa_cons (pe_call ihp hr (by rfl) T.g__law_piece T.F__law_piece.kp T.b__law_piece .nil pass0 (pa_cons (pv 0) (pa_cons (pv 1) (pa_cons (pe_op op_sub (pv 2) pe_int) pa_nil)))) pa_nil)))
    (pss_cons (ps_if (pt_cmpR op_lt (pv 3) pe_int (nomark _))
      (pss_one (ps_ret (pe_ifExp (pt_cmpR op_gt (pe_call (ok__law_draw T) (hr.mono (by omega)) (by rfl) T.g__law_draw T.F__law_draw.kp T.b__law_draw .nil pass0 (pa_cons (pv 0) (pa_cons pe_int pa_nil))) pe_int (nomark _)) (pe_tup (pa_cons pe_str (pa_cons (pv 4) (pa_cons (pe_tup pa_nil) pa_nil)))) (pe_tup (pa_cons pe_str (pa_cons (pv 4) pa_nil))))))
      pss_nil)
    (pss_cons (ps_if (pt_cmpR op_lt (pv 3) pe_int (nomark _))
      (pss_one (ps_ret (pe_tup (pa_cons pe_str (pa_cons (pe_tup (pa_cons (pe_call (ok__law_pick T) (hr.mono (by omega)) (by rfl) T.g__law_pick T.F__law_pick.kp T.b__law_pick .nil pass0 (pa_cons (pv 0) (pa_cons (pv 1) pa_nil))) (pa_cons (pe_call (ok__law_pick T) (hr.mono (by omega)) (by rfl) T.g__law_pick T.F__law_pick.kp T.b__law_pick .nil pass0 (pa_cons (pv 0) (pa_cons (pv 1) pa_nil))) pa_nil))) (pa_cons (pv 4) pa_nil))))))
      pss_nil)
    (pss_cons (ps_if (pt_cmpR op_lt (pv 3) pe_int (nomark _))
      (pss_one (ps_ret (pe_tup (pa_cons pe_str (pa_cons (pe_call (ok__law_call T) (hr.mono (by omega)) (by rfl) T.g__law_call T.F__law_call.kp T.b__law_call .nil pass0 (pa_cons (pv 0) (pa_cons (pv 1) pa_nil))) (pa_cons (pe_call (ok__law_call T) (hr.mono (by omega)) (by rfl) T.g__law_call T.F__law_call.kp T.b__law_call .nil pass0 (pa_cons (pv 0) (pa_cons (pv 1) pa_nil))) (pa_cons (pe_tup (pa_cons (pe_call (ok__law_pick T) (hr.mono (by omega)) (by rfl) T.g__law_pick T.F__law_pick.kp T.b__law_pick .nil pass0 (pa_cons (pv 0) (pa_cons (pv 1) pa_nil))) pa_nil)) (pa_cons (pv 4) pa_nil))))))))
      pss_nil)
    (pss_one (ps_ret (pe_tup (pa_cons pe_str (pa_cons (pe_tup pa_nil) (pa_cons (pe_tup (pa_cons (pe_tup (pa_cons (pe_tup (pa_cons (pe_call (ok__law_pick T) (hr.mono (by omega)) (by rfl) T.g__law_pick T.F__law_pick.kp T.b__law_pick .nil pass0 (pa_cons (pv 0) (pa_cons (pv 1) pa_nil))) pa_nil)) (pa_cons (pe_tup pa_nil) pa_nil))) pa_nil)) (pa_cons (pv 4) pa_nil))))))))))))))))), ?_⟩
  refine ⟨_, rfl, p, l, n, b, 11, rfl, hP, by omega, by decide, log_small (by decide) (by decide), fun r H1 r0 r1 P1 f1 => ?_⟩
  have k1 : Keep p l H H1 := Keep.draw f1
  have hw1 := hw.keep k1
  dsimp only [gName]
  -- set
  refine st_seq (st_ite (b := decide (r < 1)) (fun Q q => ⟨_, rfl, _, _, rfl, rfl, _, rfl, q⟩) (fun e => ?_) (fun e => ?_))
  · refine ⟨_, rfl, _, rfl, p, l, aw, _, b, ws, rfl, P1, by omega, hw1, fun z H2 hz hzn P2 k2 => ⟨_, rfl, _, rfl, p, l, aw, _, b, ws, rfl, P2, by omega, hw1.keep k2, fun e v H3 he hv P3 k3 => ⟨three_le, fun c nc => ?_⟩⟩⟩
    have sc := same_upd (o := .tup [.str "set", .str z, v]) nc
    exact q (.pl (.set z e)) (.ref c) _ (piece_plain ⟨hzn, he⟩) ⟨c, _, rfl, upd_same, _, _, rfl, rfl, _, _, rfl, rfl, _, _, rfl, hv.mono (TK.of sc), rfl⟩ ((P3.fresh nc).mono (by omega)) (((k1.trans k2).trans k3).trans (Keep.of sc))
  dsimp only [tNext]
  -- input
  refine st_seq (st_ite (b := decide (r < 2)) (fun Q q => ⟨_, rfl, _, _, rfl, rfl, _, rfl, q⟩) (fun e => ?_) (fun e => ?_))
  · refine ⟨_, rfl, _, rfl, p, l, aw, _, b, ws, rfl, P1, by omega, hw1, fun z H2 hz hzn P2 k2 => ⟨two_le, fun c nc => ?_⟩⟩
    have sc := same_upd (o := .tup [.str "input", .str z]) nc
    exact q (.pl (.inp z)) (.ref c) _ (piece_plain (p := .inp z) hzn) ⟨c, _, rfl, upd_same, _, _, rfl, rfl, _, _, rfl, rfl, rfl⟩ ((P2.fresh nc).mono (by omega)) ((k1.trans k2).trans (Keep.of sc))
  dsimp only [tNext]
  -- call
  refine st_seq (st_ite (b := decide (r < 4)) (fun Q q => ⟨_, rfl, _, _, rfl, rfl, _, rfl, q⟩) (fun e => ?_) (fun e => ?_))
  · refine ⟨_, rfl, _, rfl, p, l, aw, _, b, ws, rfl, P1, by omega, hw1, fun z H2 hz hzn P2 k2 => ⟨two_le, fun N nN => ?_⟩⟩
    have hNo := P2.off nN
    have sN := same_upd (o := .lst [.non, .str z]) nN
    have P3 := P2.fresh (o := .lst [.non, .str z]) nN
    have hN3 : (upd H2 N (.lst [.non, .str z])) N = some (.lst [.non, .str z]) := upd_same
    have k3 := (k1.trans k2).trans (Keep.of (p := p) (l := l) sN)
    generalize upd H2 N (.lst [.non, .str z]) = H3 at P3 hN3 k3
    refine ⟨_, rfl, p, l, _, b, 2, rfl, P3, by omega, by decide, log_small (by decide) (by decide), fun r2 H4 r20 r21 P4 f4 => ?_⟩
    have k4 := k3.trans (Keep.draw f4)
    have hN4 := (Keep.draw f4) _ _ hN3 hNo.1 hNo.2
    obtain ⟨x, hx, hm⟩ := atI_ex (xs := [V.non, .str z]) (r := r2) r20 r21
    refine ⟨N, _, _, _, rfl, rfl, SqL.of hN4, hx, two_le, fun c nc => ?_⟩
    have sc := same_upd (o := .tup [.str "call", x]) nc
    have P5 := P4.fresh (o := .tup [.str "call", x]) nc
    have hc5 : (upd H4 c (.tup [.str "call", x])) c = some (.tup [.str "call", x]) := upd_same
    have k5 := k4.trans (Keep.of (p := p) (l := l) sc)
    have hco := P4.off nc
    generalize upd H4 c (.tup [.str "call", x]) = H5 at P5 hc5 k5
    refine ⟨_, rfl, _, rfl, p, l, aw, _, b, ws, rfl, P5, by omega, hw.keep k5, fun f as v H6 hf has hv P6 k6 => ?_⟩
    have hc6 := k6 _ _ hc5 hco.1 hco.2
    obtain ⟨cv, _, rfl, hcv, x1, _, rfl, hx1, x2, _, rfl, hx2, rfl⟩ := hv
    refine cat_any hc6 hcv (by show 2 + 2 ≤ sizeLine; decide) fun H7 r7 s7 h7 => ?_
    have P7 := P6.same s7
    have k7 := (k5.trans k6).trans (Keep.of (p := p) (l := l) s7)
    have t7 := TK.of s7
    simp only [List.mem_cons, List.not_mem_nil, or_false] at hm
    rcases hm with rfl | rfl
    · exact q (.pl (.call none f as)) (.ref r7) H7 (piece_plain (p := .call none f as) ⟨(fun v hv => by cases hv), hf, has⟩) ⟨r7, _, rfl, h7, _, _, rfl, rfl, _, _, rfl, rfl, x1, _, rfl, hx1.mono t7, x2, _, rfl, hx2.mono t7, rfl⟩ (P7.mono (by omega)) k7
    · exact q (.pl (.call (some z) f as)) (.ref r7) H7 (piece_plain (p := .call (some z) f as) ⟨(fun v hv => by rw [← Option.some.inj hv]; exact hzn), hf, has⟩) ⟨r7, _, rfl, h7, _, _, rfl, rfl, _, _, rfl, rfl, x1, _, rfl, hx1.mono t7, x2, _, rfl, hx2.mono t7, rfl⟩ (P7.mono (by omega)) k7
  dsimp only [tNext]
  -- raise, risk
  refine st_seq (st_ite (b := decide (r < 5)) (fun Q q => ⟨_, rfl, _, _, rfl, rfl, _, rfl, q⟩) (fun e => ?_) (fun e => ?_))
  · refine ⟨_, rfl, _, rfl, p, l, aw, _, b, ws, rfl, P1, by omega, hw1, fun z H2 hz hzn P2 k2 => ⟨two_le, fun c1 n1 => ?_⟩⟩
    have s1 := same_upd (o := .tup [.str "raise", .str z]) n1
    have ho1 := P2.off n1
    have P3 := P2.fresh (o := .tup [.str "raise", .str z]) n1
    have h13 : (upd H2 c1 (.tup [.str "raise", .str z])) c1 = some (.tup [.str "raise", .str z]) := upd_same
    have k3 := (k1.trans k2).trans (Keep.of (p := p) (l := l) s1)
    generalize upd H2 c1 (.tup [.str "raise", .str z]) = H3 at P3 h13 k3
    refine ⟨_, rfl, _, rfl, p, l, aw, _, b, ws, rfl, P3, by omega, hw.keep k3, fun y H4 hy hyn P4 k4 => ⟨one_le, fun c2 n2 => ⟨two_le, fun c3 n3 => ⟨two_le, fun N nN => ?_⟩⟩⟩⟩
    have h14 := k4 _ _ h13 ho1.1 ho1.2
    have s2 := same_upd (o := .tup [.str y]) n2
    have s3 := same_upd (o := .tup [.str "risk", .ref c2]) n3
    have sN := same_upd (o := .lst [.ref c1, .ref c3]) nN
    have s47 := (s2.trans s3).trans sN
    have hNo := ((P4.same s2).same s3).off nN
    have h17 := s47 _ _ h14
    have h37 := sN _ _ (upd_same (a := c3) (o := .tup [.str "risk", .ref c2]) (H := upd H4 c2 (.tup [.str y])))
    have h27 := (s3.trans sN) _ _ (upd_same (a := c2) (o := .tup [.str y]) (H := H4))
    have hN7 : (upd (upd (upd H4 c2 (.tup [.str y])) c3 (.tup [.str "risk", .ref c2])) N (.lst [.ref c1, .ref c3])) N = some (.lst [.ref c1, .ref c3]) := upd_same
    have P7 := P4.same s47
    have k7 := (k3.trans k4).trans (Keep.of (p := p) (l := l) s47)
    generalize upd (upd (upd H4 c2 (.tup [.str y])) c3 (.tup [.str "risk", .ref c2])) N (.lst [.ref c1, .ref c3]) = H7 at P7 k7 hN7 h17 h37 h27
    refine ⟨_, rfl, p, l, _, b, 2, rfl, P7, by omega, by decide, log_small (by decide) (by decide), fun r2 H8 r20 r21 P8 f8 => ?_⟩
    have k78 : Keep p l H7 H8 := Keep.draw f8
    have t78 := TK.keep P7 k78
    have hN8 := k78 _ _ hN7 hNo.1 hNo.2
    obtain ⟨x, hx, hm⟩ := atI_ex (xs := [V.ref c1, .ref c3]) (r := r2) r20 r21
    refine ⟨N, _, _, _, rfl, rfl, SqL.of hN8, hx, ?_⟩
    simp only [List.mem_cons, List.not_mem_nil, or_false] at hm
    rcases hm with rfl | rfl
    · exact q (.pl (.rse z)) (.ref c1) H8 (piece_plain (p := .rse z) hzn) ⟨c1, _, rfl, t78 _ _ h17, _, _, rfl, rfl, _, _, rfl, rfl, rfl⟩ (P8.mono (by omega)) (k7.trans k78)
    · exact q (.pl (.risk [y])) (.ref c3) H8 (piece_plain (p := .risk [y]) ⟨(fun z => by cases z), ns_one hyn⟩) ⟨c3, _, rfl, t78 _ _ h37, _, _, rfl, rfl, _, _, rfl, Dv.one (t78 _ _ h27), rfl⟩ (P8.mono (by omega)) (k7.trans k78)
  dsimp only [tNext]
  -- return
  have ret : tRet (tTup (tCons (tC (.str "return")) (tCons (tCall spSum [] E0 (tCons (tVar 0) (tCons (tVar 1) tNil))) tNil))) { nx := fun _ H' => Q .non H', rt := Q } [some (V.ref p), some (.ref aw), some (.int (d : Nat)), some (.int r), none] H1 := by
    refine ⟨_, rfl, _, rfl, p, l, aw, _, b, ws, rfl, P1, by omega, hw1, fun e v H3 he hv P3 k3 => ⟨two_le, fun c nc => ?_⟩⟩
    have sc := same_upd (o := .tup [.str "return", v]) nc
    exact q (.pl (.ret e)) (.ref c) _ (piece_plain (p := .ret e) he) ⟨c, _, rfl, upd_same, _, _, rfl, rfl, _, _, rfl, hv.mono (TK.of sc), rfl⟩ ((P3.fresh nc).mono (by omega)) ((k1.trans k3).trans (Keep.of sc))
  by_cases hd0 : d = 0
  · refine st_seq (st_yes (ans_or1 (fun Q q => ⟨_, rfl, rfl, _, rfl, by rw [hd0]; exact q⟩)) ret)
  have hdd : decide (V.int (d : Nat) = V.int 0) = false := decide_eq_false fun e => hd0 (by have := V.int.inj e; omega)
  by_cases h6 : r < 6
  · refine st_seq (st_yes (ans_or (fun Q q => ⟨_, rfl, rfl, _, rfl, by rw [hdd]; exact q⟩) (fun Q q => ⟨_, rfl, _, _, rfl, rfl, _, rfl, by rw [decide_eq_true h6]; exact q⟩)) ret)
  refine st_seq (st_no (ans_or (fun Q q => ⟨_, rfl, rfl, _, rfl, by rw [hdd]; exact q⟩) (fun Q q => ⟨_, rfl, _, _, rfl, rfl, _, rfl, by rw [decide_eq_false h6]; exact q⟩)) ?_)
  dsimp only [tNext]
  obtain ⟨m, rfl⟩ : ∃ m, d = m + 1 := ⟨d - 1, by omega⟩
  -- what is inside
  refine st_seq ⟨_, rfl, _, rfl, _, rfl, _, _, rfl, rfl, p, l, aw, n + 1, b, ws, (by show [V.ref p, V.ref aw, V.int (((m + 1 : Nat) : Int) - 1)] = _; rw [show ((m + 1 : Nat) : Int) - 1 = (m : Nat) by omega]), P1, by omega, hw1, fun st sv H2 hst hsv P2 k2 => ⟨one_le, fun ci ni => ?_⟩⟩
  have si := same_upd (o := .tup [sv]) ni
  have P3 := P2.fresh (o := .tup [sv]) ni
  have hi3 : Dv (upd H2 ci (.tup [sv])) (.ref ci) (dBk (ob st)) := ⟨ci, _, rfl, upd_same, sv, [], rfl, hsv.mono (TK.of si), rfl⟩
  have k3 := (k1.trans k2).trans (Keep.of (p := p) (l := l) si)
  have hstF := hst.F
  dsimp only [gName]
  generalize upd H2 ci (.tup [sv]) = H3 at P3 hi3 k3
  have hw3 := hw.keep k3
  -- if, while
  refine st_seq (st_ite (b := decide (r < 7)) (fun Q q => ⟨_, rfl, _, _, rfl, rfl, _, rfl, q⟩) (fun e => ?_) (fun e => ?_))
  · refine ⟨_, rfl, p, l, _, b, 3, rfl, P3, by omega, by decide, log_small (by decide) (by decide), fun r2 H4 r20 r21 P4 f4 => ?_⟩
    have k34 : Keep p l H3 H4 := Keep.draw f4
    have hi4 := hi3.mono (TK.keep P3 k34)
    refine ⟨_, _, rfl, rfl, _, rfl, ite2 (fun e => ?_) (fun e => ?_)⟩
    · refine ⟨_, rfl, Nat.zero_le _, fun ce ne => ⟨three_le, fun c nc => ?_⟩⟩
      have se := same_upd (o := .tup []) ne
      have sc := same_upd (o := .tup [.str "if", .ref ci, .ref ce]) nc
      refine q (.iff (ob st) .nil) (.ref c) _ (piece_comp hst ?_ rfl ⟨⟨hstF, trivial⟩, trivial⟩ ?_ ?_ trivial) ⟨c, _, rfl, upd_same, _, _, rfl, rfl, _, _, rfl, hi4.mono (TK.of (se.trans sc)), _, _, rfl, ⟨ce, _, rfl, sc _ _ upd_same, rfl⟩, rfl⟩ (((P4.fresh ne).fresh nc).mono (by omega)) ((k3.trans k34).trans (Keep.of (se.trans sc)))
      · show _ :: (listB (ob st) ++ []) = _
        rw [ob_list, List.append_nil]
      · show max (max st.ht 0) 0 + 1 ≤ _
        omega
      · show st.sz + 0 + 0 + 1 = _
        omega
    · refine ⟨_, rfl, two_le, fun c nc => ?_⟩
      have sc := same_upd (o := .tup [.str "while", .ref ci]) nc
      refine q (.whl (ob st)) (.ref c) _ (piece_comp hst ?_ rfl ⟨hstF, trivial⟩ ?_ ?_ trivial) ⟨c, _, rfl, upd_same, _, _, rfl, rfl, _, _, rfl, hi4.mono (TK.of sc), rfl⟩ ((P4.fresh nc).mono (by omega)) ((k3.trans k34).trans (Keep.of sc))
      · show _ :: listB (ob st) = _
        rw [ob_list]
      · show max st.ht 0 + 1 ≤ _
        omega
      · show st.sz + 0 + 1 = _
        omega
  dsimp only [tNext]
  -- undo
  refine st_seq (st_ite (b := decide (r < 8)) (fun Q q => ⟨_, rfl, _, _, rfl, rfl, _, rfl, q⟩) (fun e => ?_) (fun e => ?_))
  · refine ⟨_, rfl, _, rfl, p, l, aw, _, b, ws, rfl, P3, by omega, hw3, fun z1 H4 hz1 hzn1 P4 k4 => ⟨_, rfl, _, rfl, p, l, aw, _, b, ws, rfl, P4, by omega, hw3.keep k4, fun z2 H5 hz2 hzn2 P5 k5 => ⟨two_le, fun c1 n1 => ⟨_, rfl, three_le, fun c nc => ?_⟩⟩⟩⟩
    have s1 := same_upd (o := .tup [.str z1, .str z2]) n1
    have sc := same_upd (o := .tup [.str "undo", .ref c1, .ref ci]) nc
    have k35 := k4.trans k5
    have hi5 := hi3.mono (TK.keep P3 k35)
    refine q (.undo [z1, z2] (ob st)) (.ref c) _ (piece_comp hst ?_ rfl ⟨(fun z => by cases z), ⟨fun v hv => ?_, by show 2 ≤ 1000; decide⟩, hstF, trivial⟩ ?_ ?_ trivial) ⟨c, _, rfl, upd_same, _, _, rfl, rfl, _, _, rfl, ⟨c1, _, rfl, sc _ _ upd_same, _, _, rfl, rfl, _, _, rfl, rfl, rfl⟩, _, _, rfl, hi5.mono (TK.of (s1.trans sc)), rfl⟩ (((P5.fresh n1).fresh nc).mono (by omega)) ((k3.trans k35).trans (Keep.of (s1.trans sc)))
    · show _ :: listB (ob st) = _
      rw [ob_list]
    · simp only [List.mem_cons, List.not_mem_nil, or_false] at hv
      rcases hv with rfl | rfl
      · exact hzn1
      · exact hzn2
    · show max st.ht 0 + 1 ≤ _
      omega
    · show st.sz + 0 + 1 = _
      omega
  dsimp only [tNext]
  -- with
  refine st_seq (st_ite (b := decide (r < 9)) (fun Q q => ⟨_, rfl, _, _, rfl, rfl, _, rfl, q⟩) (fun e => ?_) (fun e => ?_))
  · refine ⟨_, rfl, _, rfl, p, l, aw, _, b, ws, rfl, P3, by omega, hw3, fun f as v1 H4 hf has hv1 P4 k4 => ⟨_, rfl, _, rfl, p, l, aw, _, b, ws, rfl, P4, by omega, hw3.keep k4, fun g bs v2 H5 hg hbs hv2 P5 k5 => ⟨_, rfl, _, rfl, p, l, aw, _, b, ws, rfl, P5, by omega, (hw3.keep k4).keep k5, fun z H6 hz hzn P6 k6 => ⟨one_le, fun c1 n1 => ⟨_, rfl, five_le, fun c nc => ?_⟩⟩⟩⟩⟩
    have s1 := same_upd (o := .tup [.str z]) n1
    have sc := same_upd (o := .tup [.str "with", v1, v2, .ref c1, .ref ci]) nc
    have k36 := (k4.trans k5).trans k6
    have s67 := s1.trans sc
    have hi6 := (hi3.mono (TK.keep P3 k36)).mono (TK.of s67)
    have hv1' := (hv1.mono (TK.keep P4 (k5.trans k6))).mono (TK.of s67)
    have hv2' := (hv2.mono (TK.keep P5 k6)).mono (TK.of s67)
    refine q (.wth f as g bs [z] (ob st)) (.ref c) _ (piece_comp hst ?_ rfl ⟨hf, has, hg, hbs, ns_one hzn, hstF, trivial⟩ ?_ ?_ trivial) ⟨c, _, rfl, upd_same, _, _, rfl, rfl, _, _, rfl, hv1', _, _, rfl, hv2', _, _, rfl, Dv.one (sc _ _ upd_same), _, _, rfl, hi6, rfl⟩ (((P6.fresh n1).fresh nc).mono (by omega)) ((k3.trans k36).trans (Keep.of s67))
    · show _ :: listB (ob st) = _
      rw [ob_list]
    · show max st.ht 0 + 1 ≤ _
      omega
    · show st.sz + 0 + 1 = _
      omega
  dsimp only [tNext]
  -- try
  refine ⟨Nat.zero_le _, fun c1 n1 => ⟨_, rfl, _, rfl, p, l, aw, _, b, ws, rfl, P3.fresh n1, by omega, hw3.keep (Keep.of (same_upd n1)), fun z H6 hz hzn P6 k6 => ⟨one_le, fun c2 n2 => ⟨Nat.zero_le _, fun c3 n3 => ⟨two_le, fun c4 n4 => ⟨one_le, fun c5 n5 => ⟨_, rfl, four_le, fun c nc => ?_⟩⟩⟩⟩⟩⟩⟩
  have s1 := same_upd (o := .tup []) n1
  have s2 := same_upd (o := .tup [.str z]) n2
  have s3 := same_upd (o := .tup []) n3
  have s4 := same_upd (o := .tup [.ref c2, .ref c3]) n4
  have s5 := same_upd (o := .tup [.ref c4]) n5
  have sc := same_upd (o := .tup [.str "try", .ref c1, .ref c5, .ref ci]) nc
  have k36 := (Keep.of (p := p) (l := l) s1).trans k6
  have ho1 := P3.off n1
  have h1 := k6 _ _ (upd_same (a := c1) (o := .tup []) (H := H3)) ho1.1 ho1.2
  have s6 := ((((s2.trans s3).trans s4).trans s5).trans sc)
  have hi6 := (hi3.mono (TK.keep P3 k36)).mono (TK.of s6)
  refine q (.tr .nil (.cons [z] .nil .nil) (ob st)) (.ref c) _ (piece_comp hst ?_ rfl ⟨trivial, by show 1 ≤ 1000; decide, ⟨(fun z => by cases z), ns_one hzn, trivial, trivial⟩, hstF, trivial⟩ ?_ ?_ ⟨_, _, rfl⟩)
    ⟨c, _, rfl, upd_same, _, _, rfl, rfl, _, _, rfl, ⟨c1, _, rfl, s6 _ _ h1, rfl⟩, _, _, rfl, ⟨c5, _, rfl, sc _ _ upd_same, _, _, rfl, ⟨c4, _, rfl, (s5.trans sc) _ _ upd_same, _, _, rfl, Dv.one ((((s3.trans s4).trans s5).trans sc) _ _ upd_same), _, _, rfl, ⟨c3, _, rfl, ((s4.trans s5).trans sc) _ _ upd_same, rfl⟩, rfl⟩, rfl⟩, _, _, rfl, hi6, rfl⟩ ((P6.same s6).mono (by omega)) ((k3.trans k36).trans (Keep.of s6))
  · show _ :: ([] ++ ([] ++ [] ++ listB (ob st))) = _
    rw [ob_list]
    rfl
  · show max 0 (max (max 0 0) (max st.ht 0)) + 1 ≤ _
    omega
  · show 0 + (0 + 0) + (st.sz + 0) + 1 = _
    omega
theorem ok__law_piece (T : Txt K mg a) : ∀ d : Nat, FnOk P w K mg base CX0 (4 + d) a.f__law_piece a.f__law_piece_d ["_law_pool_here", "_law_words", "_law_depth"] (spPi d)
  | 0 => ⟨fun _ _ _ _ h => h.elim, fun _ _ _ _ _ _ _ _ _ _ _ _ _ h => h.elim⟩
  | d + 1 => ok__law_piece1 T d (4 + d) (by omega) (ok__law_piece T d)
end
end K10
namespace K10
open PySem PySem.Spec PyProof.Rows L2 TL
section
variable {K : PySem.W.Frag} {mg : Str → Option Value} {a : Ads}
theorem any_one {C D fI : Addr} {n : Str} {b : Bool} (TE : L2E.ErrC K D fI n) (h : PySem.W.subIn K (.ref C) (.ref D) = some b) : L2E.anyOf K (.ref C) [.ref D] b := by
  have e := TE.clsP.exm h
  refine ⟨fun c hc => ?_, ?_⟩
  · obtain rfl : c = Value.ref D := by simpa using hc
    exact ⟨_, e⟩
  · rw [List.any_cons, List.any_nil, Bool.or_false, e]
    cases b <;> rfl
theorem sub_yes {C : Addr} {P : Addr} {r : List Value} (h : ∀ x : Value, PySem.W.subIn K (.ref C) x = some ((Value.ref C :: .ref P :: r).contains x)) : PySem.W.subIn K (.ref C) (.ref C) = some true := by
  rw [h, List.contains_cons, beq_self_eq_true]
  rfl
theorem sub_no {C D P : Addr} (h : ∀ x : Value, PySem.W.subIn K (.ref C) x = some ((Value.ref C :: .ref P :: PySem.HandSPX.veTail).contains x)) (n1 : D ≠ C) (n2 : D ≠ P) : PySem.W.subIn K (.ref C) (.ref D) = some false := by
  rw [h, List.contains_cons, List.contains_cons, beq_eq_false_iff_ne.mpr (fun e => n1 (Value.ref.inj e)), beq_eq_false_iff_ne.mpr (fun e => n2 (Value.ref.inj e))]
  rfl
theorem er_ne (T : Txt K mg a) : a.c_DuplicateName ≠ a.c_UnknownName ∧ a.c_DuplicateName ≠ a.c_WrongArguments ∧ a.c_DuplicateName ≠ a.c_InvalidFinally ∧ a.c_UnknownName ≠ a.c_WrongArguments ∧ a.c_UnknownName ≠ a.c_InvalidFinally ∧ a.c_WrongArguments ≠ a.c_InvalidFinally ∧
    a.c_DuplicateName ≠ a.c_ProgramError ∧ a.c_UnknownName ≠ a.c_ProgramError ∧ a.c_WrongArguments ≠ a.c_ProgramError ∧ a.c_InvalidFinally ≠ a.c_ProgramError := by
  have := T.nd
  simp only [List.nodup_cons, List.mem_cons, List.not_mem_nil, or_false, not_or] at this
  obtain ⟨⟨h1, h2, h3, h4⟩, ⟨h5, h6, h7⟩, ⟨h8, h9⟩, h10, _⟩ := this
  exact ⟨h1, h2, h3, h5, h6, h8, h4, h7, h9, h10⟩
end
def spToldX : Sp := spDue
theorem lk1 (f : Str) (v : V) : List.lookup f [(f, v)] = some v := by simp [List.lookup]
section
variable {P : Program} {w : World} {K : PySem.W.Frag} {mg : Str → Option Value} {base : Heap} {a : Ads}
theorem sc__law_told : FnScope ["_law_tree", "e"] ["_law_tree"] (defScope s__law_told) := ⟨rfl, rfl, rfl, by decide +kernel, rfl, by decide +kernel, by decide +kernel⟩
theorem ok__law_told (T : Txt K mg a) {tS tU tF : Addr} (B : Tabs K w mg a tS tU tF) : FnOk P w K mg base CX0 41 a.f__law_told a.f__law_told_d ["_law_tree"] spToldX := by
  refine T.F__law_told.ok sc__law_told (fun vs H Q E h => ?_) (fun cdv A outer s H vs Q E hr h => ?_)
  · obtain ⟨v, t, e, rfl, _⟩ := h
    rfl
  obtain ⟨v0, t, e0, rfl, hv, ⟨hF, hZ, hk, ho⟩, q⟩ := h
  obtain ⟨nDU, nDW, nDI, nUW, nUI, nWI, nDP, nUP, nWP, nIP⟩ := er_ne T
  refine ⟨_, pss_cons (L2E.ps_try_asesB (i := 1) (n := "e") (tb := fun W => tDrop (L2E.tMakeS a.c_Program (spPrgX a) (WE W) (tCons (tVar 0) tNil))) (Wout := fun _ _ _ _ => False) (l := [([.ref a.c_DuplicateName], fun a' cls d => tRet (tTup (tCons (tC (.str "twice")) (tCons (L2E.tXfA K a' cls d "name" (tVar 1)) tNil)))), ([.ref a.c_UnknownName], fun a' cls d => tRet (tTup (tCons (tC (.str "unknown")) (tCons (L2E.tXfA K a' cls d "name" (tVar 1)) tNil)))), ([.ref a.c_WrongArguments], fun a' cls d => tRet (tTup (tCons (tC (.str "arguments")) (tCons (L2E.tXfA K a' cls d "place" (tVar 1)) tNil)))), ([.ref a.c_InvalidFinally], fun a' cls d => tRet (tTup (tCons (tC (.str "finally")) (tCons (L2E.tXfA K a' cls d "place" (tVar 1)) tNil)))), ([.ref a.c_ProgramError], fun _ _ _ _ _ _ => False)]) rfl rfl sc__law_told.nd rfl rfl L2E.takesN0
      (fun W pn xe tk _ => pss_one (ps_expr (L2E.pe_makeS (E := WE W) T.mk_Program (ok_Program___init__X T B) (hr.mono (by decide)) (by rfl) T.mg_Program T.b_Program___init__ (fun σ => L2N.passAt tk σ) (pa_cons (pv 0) pa_nil))))
      (.cons (ts := fun a' cls d => tRet (tTup (tCons (tC (.str "twice")) (tCons (L2E.tXfA K a' cls d "name" (tVar 1)) tNil)))) (.one ⟨(by rfl), (by decide), .inl T.mg_DuplicateName⟩) (fun a' oe cls d pn hz hf => pss_one (ps_ret (pe_tup (pa_cons pe_str (pa_cons (L2E.pe_xfA hz.zc hf (pv 1)) pa_nil)))))
      (.cons (ts := fun a' cls d => tRet (tTup (tCons (tC (.str "unknown")) (tCons (L2E.tXfA K a' cls d "name" (tVar 1)) tNil)))) (.one ⟨(by rfl), (by decide), .inl T.mg_UnknownName⟩) (fun a' oe cls d pn hz hf => pss_one (ps_ret (pe_tup (pa_cons pe_str (pa_cons (L2E.pe_xfA hz.zc hf (pv 1)) pa_nil)))))
      (.cons (ts := fun a' cls d => tRet (tTup (tCons (tC (.str "arguments")) (tCons (L2E.tXfA K a' cls d "place" (tVar 1)) tNil)))) (.one ⟨(by rfl), (by decide), .inl T.mg_WrongArguments⟩) (fun a' oe cls d pn hz hf => pss_one (ps_ret (pe_tup (pa_cons pe_str (pa_cons (L2E.pe_xfA hz.zc hf (pv 1)) pa_nil)))))
      (.cons (ts := fun a' cls d => tRet (tTup (tCons (tC (.str "finally")) (tCons (L2E.tXfA K a' cls d "place" (tVar 1)) tNil)))) (.one ⟨(by rfl), (by decide), .inl T.mg_InvalidFinally⟩) (fun a' oe cls d pn hz hf => pss_one (ps_ret (pe_tup (pa_cons pe_str (pa_cons (L2E.pe_xfA hz.zc hf (pv 1)) pa_nil)))))
      (.skip (.one ⟨(by rfl), (by decide), .inl T.mg_ProgramError⟩) .nil)))))) (pss_one (ps_ret (pe_tup (pa_cons pe_str (pa_cons pe_int pa_nil))))), ?_⟩
  refine st_seq ?_
  refine ⟨_, rfl, fun o dx no ndx hne => ?_⟩
  have sx := (same_upd (o := .own o) ndx).trans (same_upd (H := upd H dx (.own o)) (o := .ins a.c_Program dx []) (by rw [upd_ne (Ne.symm hne)]; exact no))
  refine ⟨o, dx, v0, t, rfl, upd_same, hv.mono (TK.of sx), hF, hZ, fun er he H' dd s1 n1 => ?_, fun hok H3 hP hkk => ⟨rfl, ?_⟩⟩
  · have hq : ∀ (H2 : Hp) (v' : V), Same H' H2 → Dv H2 v' (dEr er) → Q v' H2 := fun H2 v' s2 h2 => q H2 v' ((sx.trans s1).trans s2) (by unfold dueD; rw [he]; exact h2)
    have leaf : ∀ {C fI : Addr} {fd tag : Str} (TE : L2E.ErrC K C fI fd) {v : V} {a' : Addr} {D : Ends}, D.rt = Q → (∀ (H2 : Hp) (q : Addr), Same H' H2 → H2 q = some (.tup [.str tag, v]) → Q (.ref q) H2) →
        tRet (tTup (tCons (tC (.str tag)) (tCons (L2E.tXfA K a' (.ref C) (some dd) fd (tVar 1)) tNil))) (L2E.offAt 1 D) ((start ["_law_tree", "e"] [v0]).set 1 (some (.ref a'))) (upd H' dd (.xd [(fd, v)])) := by
      intro C fI fd tag TE v a' D hD hq
      refine ⟨_, rfl, rfl, _, _, _, _, rfl, TE.xfC, TE.nf, rfl, upd_same, lk1 fd v, two_le, fun q nq => ?_⟩
      show D.rt _ _
      rw [hD]
      exact hq _ q ((same_upd n1).trans (same_upd nq)) upd_same
    cases er with
    | dup z =>
      refine ⟨true, any_one T.e_DuplicateName (sub_yes T.s_DuplicateName), fun _ a' na => ?_, (fun z => by cases z)⟩
      exact leaf T.e_DuplicateName rfl fun H2 q s2 h2 => hq H2 (.ref q) s2 ⟨q, _, rfl, h2, _, _, rfl, rfl, _, _, rfl, rfl, rfl⟩
    | unk z =>
      refine ⟨false, any_one T.e_DuplicateName (sub_no T.s_UnknownName nDU nDP), (fun z => by cases z), fun _ => ?_⟩
      refine ⟨true, any_one T.e_UnknownName (sub_yes T.s_UnknownName), fun _ a' na => ?_, (fun z => by cases z)⟩
      exact leaf T.e_UnknownName rfl fun H2 q s2 h2 => hq H2 (.ref q) s2 ⟨q, _, rfl, h2, _, _, rfl, rfl, _, _, rfl, rfl, rfl⟩
    | arg i =>
      refine ⟨false, any_one T.e_DuplicateName (sub_no T.s_WrongArguments nDW nDP), (fun z => by cases z), fun _ => ?_⟩
      refine ⟨false, any_one T.e_UnknownName (sub_no T.s_WrongArguments nUW nUP), (fun z => by cases z), fun _ => ?_⟩
      refine ⟨true, any_one T.e_WrongArguments (sub_yes T.s_WrongArguments), fun _ a' na => ?_, (fun z => by cases z)⟩
      exact leaf T.e_WrongArguments rfl fun H2 q s2 h2 => hq H2 (.ref q) s2 ⟨q, _, rfl, h2, _, _, rfl, rfl, _, _, rfl, rfl, rfl⟩
    | fin i =>
      refine ⟨false, any_one T.e_DuplicateName (sub_no T.s_InvalidFinally nDI nDP), (fun z => by cases z), fun _ => ?_⟩
      refine ⟨false, any_one T.e_UnknownName (sub_no T.s_InvalidFinally nUI nUP), (fun z => by cases z), fun _ => ?_⟩
      refine ⟨false, any_one T.e_WrongArguments (sub_no T.s_InvalidFinally nWI nWP), (fun z => by cases z), fun _ => ?_⟩
      refine ⟨true, any_one T.e_InvalidFinally (sub_yes T.s_InvalidFinally), fun _ a' na => ?_, (fun z => by cases z)⟩
      exact leaf T.e_InvalidFinally rfl fun H2 q s2 h2 => hq H2 (.ref q) s2 ⟨q, _, rfl, h2, _, _, rfl, rfl, _, _, rfl, rfl, rfl⟩
  · have s3 : Same H H3 := fun c z e => hkk c z (sx _ _ e) (fun z2 => by rw [z2, no] at e; cases e)
    refine ⟨two_le, fun c nc => ?_⟩
    have sc := same_upd (o := .tup [.str "fine", .int 0]) nc
    exact q _ _ (s3.trans sc) (by unfold dueD; rw [hok]; exact ⟨c, _, rfl, upd_same, _, _, rfl, rfl, _, _, rfl, rfl, rfl⟩)
end
end K10
namespace K10
open PySem PySem.Spec PyProof.Rows L2 TL
theorem nameL_inj {c : Nat} {s : Int} {j k : Nat} (hj : j < 16) (hk : k < 16) (h : nameL c s j = nameL c s k) : j = k := by
  have h1 := congrArg tl h
  unfold nameL at h1
  rw [tl_append, tl_append] at h1
  have h2 := List.append_cancel_left h1
  obtain ⟨m, hm⟩ : ∃ m : Nat, (7 * ((0 : Int) + (j : Int)) + s) % 16 = (m : Int) := ⟨((7 * ((0 : Int) + (j : Int)) + s) % 16).toNat, by omega⟩
  obtain ⟨n, hn⟩ : ∃ n : Nat, (7 * ((0 : Int) + (k : Int)) + s) % 16 = (n : Int) := ⟨((7 * ((0 : Int) + (k : Int)) + s) % 16).toNat, by omega⟩
  rw [hm, hn, numT_tl, numT_tl] at h2
  have := numL_inj h2
  subst this
  omega
theorem names_nodup (c : Nat) (s : Int) : (namesL c s).Nodup := by
  unfold namesL
  rw [List.nodup_iff_pairwise_ne, List.pairwise_map]
  refine List.Pairwise.imp_of_mem ?_ (List.nodup_iff_pairwise_ne.mp List.nodup_range)
  intro a b ha hb hab h
  exact hab (nameL_inj (List.mem_range.mp ha) (List.mem_range.mp hb) h)
theorem names_ok {c : Nat} {s : Int} (hc : c ∈ tl LET) : ∀ v ∈ namesL c s, NmOk v := by
  intro v hv
  obtain ⟨k, hk, rfl⟩ := List.mem_map.mp hv
  obtain ⟨m, hm⟩ : ∃ m : Nat, (7 * ((0 : Int) + (k : Int)) + s) % 16 = (m : Int) := ⟨((7 * ((0 : Int) + (k : Int)) + s) % 16).toNat, by omega⟩
  have hm16 : m < 16 := by omega
  have e : tl (nameL c s k) = c :: numL m := by
    unfold nameL
    rw [tl_append, hm, numT_tl]
    rfl
  refine drawn_ok e (decide_eq_true hc) (numL_ne m) (fun d hd => num_digit hd) ?_
  have hl : (numL m).length ≤ 2 := numL_len (by decide) (by omega)
  rw [len_tl, e, List.length_cons]
  omega
/-! ### two branches that go on alike -/
theorem ite_val {b : Bool} {ta tb : TE} {σ : L2.St} {H : Hp} {Q : VK} {PR : V → Hp → Prop} (h1 : b = true → ∀ Q' : VK, (∀ v H', PR v H' → Q' v H') → ta σ H Q') (h2 : b = false → ∀ Q' : VK, (∀ v H', PR v H' → Q' v H') → tb σ H Q') (k : ∀ v H', PR v H' → Q v H') : if b = true then ta σ H Q else tb σ H Q := by
  cases b with
  | true => rw [if_pos rfl]; exact h1 rfl Q k
  | false => rw [if_neg Bool.false_ne_true]; exact h2 rfl Q k
theorem ifS_join {c : TT} {t u : L2.TS} {D : Ends} {σ : L2.St} {H : Hp} {b : Bool} {PR : L2.St → Hp → Prop} (h : Ans c σ H b) (h1 : b = true → ∀ D' : Ends, (∀ σ' H', PR σ' H' → D'.nx σ' H') → t D' σ H) (h2 : b = false → ∀ D' : Ends, (∀ σ' H', PR σ' H' → D'.nx σ' H') → u D' σ H) (k : ∀ σ' H', PR σ' H' → D.nx σ' H') : tIfS c t u D σ H := by
  cases b with
  | true => exact st_yes h (h1 rfl D k)
  | false => exact st_no h (h2 rfl D k)
/-- a list stands at q, off the pool -/
structure LA (H : Hp) (p l q : Addr) (xs : List V) : Prop where
  at_ : H q = some (.lst xs)
  np : q ≠ p
  nl : q ≠ l
theorem LA.keep {H H' : Hp} {p l q : Addr} {xs : List V} (w : LA H p l q xs) (k : Keep p l H H') : LA H' p l q xs := ⟨k _ _ w.at_ w.np w.nl, w.np, w.nl⟩
theorem cut_mid {xs : List V} {i j : Nat} (hij : i ≤ j) (hj : j ≤ xs.length) : cutV xs (some ((i : Nat) : Int)) (some ((j : Nat) : Int)) = (xs.drop i).take (j - i) := by
  unfold cutV
  rw [show HT.sIx xs.length 0 (some (i : Int)) = min i xs.length from HT.sIx_nat _ _ i, show HT.sIx xs.length xs.length (some (j : Int)) = min j xs.length from HT.sIx_nat _ _ j, Nat.min_eq_left hj]
  by_cases h : i ≤ xs.length
  · rw [Nat.min_eq_left h]
  · omega
theorem ws_sub {ws us : List Str} (h : WsOk ws) (hs : us.Sublist ws) (hn : us ≠ []) : WsOk us := ⟨fun v hv => h.nm v (hs.subset hv), h.nd.sublist hs, Nat.le_trans hs.length_le h.len, hn⟩
theorem TB.of_F : ∀ {ss : List TS}, (∀ s ∈ ss, s.F) → (TB.of ss).F
  | [], _ => trivial
  | s :: r, h => ⟨h s List.mem_cons_self, TB.of_F fun x hx => h x (List.mem_cons_of_mem _ hx)⟩
theorem TB.of_ht {d : Nat} : ∀ {ss : List TS}, (∀ s ∈ ss, s.ht ≤ d) → (TB.of ss).ht ≤ d
  | [], _ => Nat.zero_le _
  | s :: r, h => by
    have h1 := h s List.mem_cons_self
    have h2 := TB.of_ht fun x hx => h x (List.mem_cons_of_mem _ hx)
    show max s.ht (TB.of r).ht ≤ d
    omega
theorem TB.of_sz {d : Nat} : ∀ {ss : List TS}, (∀ s ∈ ss, s.sz ≤ d) → (TB.of ss).sz ≤ ss.length * d
  | [], _ => Nat.zero_le _
  | s :: r, h => by
    have h1 := h s List.mem_cons_self
    have h2 := TB.of_sz fun x hx => h x (List.mem_cons_of_mem _ hx)
    show s.sz + (TB.of r).sz ≤ (r.length + 1) * d
    rw [Nat.add_mul, Nat.one_mul]
    omega
theorem of_one : ∀ {ss : List TS}, (∀ s ∈ ss, ∀ r ∈ listS s, OneH r) → ∀ r ∈ listB (TB.of ss), OneH r
  | [], _, r, hr => by cases hr
  | s :: ss, h, r, hr => by
    rcases List.mem_append.mp (show r ∈ listS s ++ listB (TB.of ss) from hr) with hr | hr
    · exact h s List.mem_cons_self r hr
    · exact of_one (fun x hx => h x (List.mem_cons_of_mem _ hx)) r hr
theorem asgN_app (a b : List TS) : asgN (a ++ b) = asgN a + asgN b := by
  unfold asgN
  rw [List.filter_append, List.length_append]
theorem of_asg : ∀ {ss : List TS}, (∀ s ∈ ss, asgN (listS s) ≤ 1) → asgN (listB (TB.of ss)) ≤ ss.length
  | [], _ => Nat.zero_le _
  | s :: ss, h => by
    have h1 := h s List.mem_cons_self
    have h2 := of_asg fun x hx => h x (List.mem_cons_of_mem _ hx)
    show asgN (listS s ++ listB (TB.of ss)) ≤ ss.length + 1
    rw [asgN_app]
    omega
theorem loc_asg : ∀ (l : List TS) (st : List Str × List Str), (l.foldl locStep st).2.length ≤ st.2.length + asgN l
  | [], st => Nat.le_refl _
  | s :: r, st => by
    have ih := loc_asg r (locStep st s)
    rw [List.foldl_cons]
    have e : asgN (s :: r) = (if s.asg.isSome = true then 1 else 0) + asgN r := by
      unfold asgN
      by_cases h : s.asg.isSome = true
      · rw [List.filter_cons_of_pos (p := fun s : TS => s.asg.isSome) h, if_pos h, List.length_cons, Nat.add_comm]
      · rw [List.filter_cons_of_neg (p := fun s : TS => s.asg.isSome) h, if_neg h, Nat.zero_add]
    rw [e]
    have h : (locStep st s).2.length ≤ st.2.length + (if s.asg.isSome = true then 1 else 0) := by
      unfold locStep
      cases ha : s.asg with
      | none => exact Nat.le_add_right _ _
      | some z =>
        dsimp only
        split
        · exact Nat.le_add_right _ _
        · rw [List.length_append]
          exact Nat.le_refl _
    omega
/-- a function that is drawn -/
structure FnD (ws : List Str) (f : FnT) : Prop where
  F : FnF f
  ps : f.ps.length ≤ 2
  ht : f.bk.ht ≤ 2
  sz : f.bk.sz ≤ 9
  asg : asgN (listB f.bk) ≤ 3
  one : ∀ s ∈ listB f.bk, OneH s
theorem tree_ok {ws gs ks : List Str} {fs : List FnT} {e : Ex} (hw : WsOk ws) (hg : ∀ v ∈ gs, v ∈ ws) (hgl : gs.length = 2) (hk : ∀ v ∈ ks, v ∈ ws) (hkl : ks.length = 2) (he : SumF e) (he0 : e.1 = 0) (hf : ∀ f ∈ fs, FnD ws f) (hfl : fs.length = 2) : TreeL ⟨gs, ks, [e], fs⟩ e := by
  have hsz : (fs.map fun f => f.bk.sz).sum ≤ 18 := by
    match fs, hfl, hf with
    | [f, g], _, hf =>
      have h1 := (hf f (by simp)).sz
      have h2 := (hf g (by simp)).sz
      show f.bk.sz + (g.bk.sz + 0) ≤ 18
      omega
  refine ⟨⟨⟨fun v hv => hw.nm v (hg v hv), by show gs.length ≤ 1000; omega⟩, ⟨fun v hv => hw.nm v (hk v hv), by show ks.length ≤ 1000; omega⟩, fun x hx => by rw [List.mem_singleton.mp hx]; exact ⟨he, he0⟩, fun f h => (hf f h).F⟩,
    ⟨by show gs.length ≤ 4; omega, by show ks.length ≤ 3; omega, by show 1 ≤ 4; decide, by show fs.length ≤ 6; omega, fun f h => ?_, Nat.le_trans hsz (by decide)⟩, rfl, fun f h => (hf f h).one⟩
  have hd := hf f h
  have h1 := hd.ps
  have h2 := List.length_filter_le (·.2) f.ps
  have h3 := loc_asg (listB f.bk) (gs ++ f.ps.map (·.1), [])
  have h4 := hd.asg
  have h5 := hd.ht
  refine ⟨by omega, by unfold byPl; omega, ?_, by omega⟩
  show ((listB f.bk).foldl locStep (gs ++ f.ps.map (·.1), [])).2.length ≤ 3
  have h3 : ((listB f.bk).foldl locStep (gs ++ f.ps.map (·.1), [])).2.length ≤ 0 + asgN (listB f.bk) := h3
  omega
def dueV (t : Tree) : List V := match treeE t with
  | some (.dup z) => [.str "twice", .str z]
  | some (.unk z) => [.str "unknown", .str z]
  | some (.arg i) => [.str "arguments", .int (i : Nat)]
  | some (.fin i) => [.str "finally", .int (i : Nat)]
  | none => [.str "fine", .int 0]
theorem due_val {H : Hp} {v : V} {t : Tree} (h : Dv H v (dueD t)) : ∃ p, v = .ref p ∧ H p = some (.tup (dueV t)) := by
  unfold dueD at h
  unfold dueV
  cases e : treeE t with
  | none =>
    rw [e] at h
    obtain ⟨p, _, rfl, hp, _, _, rfl, rfl, _, _, rfl, rfl, rfl⟩ := h
    exact ⟨p, rfl, hp⟩
  | some er =>
    rw [e] at h
    cases er with
    | dup z => obtain ⟨p, _, rfl, hp, _, _, rfl, rfl, _, _, rfl, rfl, rfl⟩ := h; exact ⟨p, rfl, hp⟩
    | unk z => obtain ⟨p, _, rfl, hp, _, _, rfl, rfl, _, _, rfl, rfl, rfl⟩ := h; exact ⟨p, rfl, hp⟩
    | arg z => obtain ⟨p, _, rfl, hp, _, _, rfl, rfl, _, _, rfl, rfl, rfl⟩ := h; exact ⟨p, rfl, hp⟩
    | fin z => obtain ⟨p, _, rfl, hp, _, _, rfl, rfl, _, _, rfl, rfl, rfl⟩ := h; exact ⟨p, rfl, hp⟩
theorem two_flat {a b : V} (ha : OwT.FlatTN a) (hb : OwT.FlatTN b) : ∀ v ∈ [a, b], OwT.FlatTN v := fun v hv => by
  simp only [List.mem_cons, List.not_mem_nil, or_false] at hv
  rcases hv with rfl | rfl
  · exact ha
  · exact hb
theorem due_flat (t : Tree) : ∀ v ∈ dueV t, OwT.FlatTN v := by
  unfold dueV
  cases treeE t with
  | none => exact two_flat (.inl ⟨_, rfl⟩) (.inr ⟨_, rfl⟩)
  | some er => cases er with
    | dup z => exact two_flat (.inl ⟨_, rfl⟩) (.inl ⟨_, rfl⟩)
    | unk z => exact two_flat (.inl ⟨_, rfl⟩) (.inl ⟨_, rfl⟩)
    | arg z => exact two_flat (.inl ⟨_, rfl⟩) (.inr ⟨_, rfl⟩)
    | fin z => exact two_flat (.inl ⟨_, rfl⟩) (.inr ⟨_, rfl⟩)
def spLaw (K : PySem.W.Frag) : Sp := fun vs H Q _ => ∃ (a : Addr) (ns : List Int), vs = [.ref a] ∧ SqL K H a (ns.map V.int) ∧ ns.length ≤ 63 ∧ ∀ H', Q (.bl true) H'
end K10
namespace K10
open PySem PySem.Spec PyProof.Rows L2 TL
section
variable {P : Program} {w : World} {K : PySem.W.Frag} {mg : Str → Option Value} {base : Heap} {a : Ads}
theorem sc_law : FnScope ["_law_script", "_law_pool_here", "_law_words", "_law_far", "_law_names_here", "_law_kinds", "_law_heads", "_law_keep", "_law_functions", "_law_head", "_law_tree", "_law_own", "_law_params", "_law_used", "_law_body", "_law_k", "_law_word"] ["_law_script"] (defScope s_law) := ⟨rfl, rfl, rfl, by decide +kernel, rfl, by decide +kernel, by decide +kernel⟩
theorem ok_law (T : Txt K mg a) {tS tU tF : Addr} (B : Tabs K w mg a tS tU tF) : FnOk P w K mg base CX0 60 a.f_law a.f_law_d ["_law_script"] (spLaw K) := by
  refine T.F_law.ok sc_law (fun vs H Q E h => ?_) (fun cdv A outer s H vs Q E hr h => ?_)
  · obtain ⟨_, _, rfl, _⟩ := h
    rfl
  obtain ⟨a0, ms, rfl, ha0, hml, q⟩ := h
  refine ⟨_, (pss_cons (ps_set (i := 1) sc_law.nd rfl (Or.inr rfl) (pe_call (ok__law_pool T) (hr.mono (by decide)) (by rfl) T.g__law_pool T.F__law_pool.kp T.b__law_pool .nil pass0 (pa_cons (pv 0) pa_nil)))
    (pss_cons (ps_set (i := 2) sc_law.nd rfl (Or.inl rfl) (pe_slice sl_list (pe_call (ok__law_names T) (hr.mono (by decide)) (by rfl) T.g__law_names T.F__law_names.kp T.b__law_names .nil pass0 (pa_cons (pv 1) pa_nil)) po_none (po_some pe_int)))
    (pss_cons (ps_set (i := 3) sc_law.nd rfl (Or.inl rfl) (pe_cmpR op_eq (pe_call (ok__law_draw T) (hr.mono (by decide)) (by rfl) T.g__law_draw T.F__law_draw.kp T.b__law_draw .nil pass0 (pa_cons (pv 1) (pa_cons pe_int pa_nil))) pe_int (nomark _)))
    (pss_cons (ps_set (i := 4) sc_law.nd rfl (Or.inl rfl) (pe_slice sl_list (pv 2) po_none (po_some pe_int)))
    (pss_cons (ps_set (i := 5) sc_law.nd rfl (Or.inl rfl) (pe_slice sl_list (pv 2) (po_some pe_int) (po_some pe_int)))
    (pss_cons (ps_set (i := 6) sc_law.nd rfl (Or.inl rfl) (pe_slice sl_list (pv 2) (po_some pe_int) (po_some pe_int)))
    (pss_cons (ps_if (pt_val (pv 3))
      (pss_cons (ps_set (i := 4) sc_law.nd rfl (Or.inl rfl) (pe_lst (pa_cons (pe_call (ok__law_pick T) (hr.mono (by decide)) (by rfl) T.g__law_pick T.F__law_pick.kp T.b__law_pick .nil pass0 (pa_cons (pv 1) (pa_cons (pv 2) pa_nil))) (pa_cons (pe_ix ix_list (pv 2) pe_int (fun _ _ => rfl)) pa_nil))))
      (pss_one (ps_set (i := 6) sc_law.nd rfl (Or.inl rfl) (pe_lst (pa_cons (pe_ix ix_list (pv 2) pe_int (fun _ _ => rfl)) (pa_cons (pe_call (ok__law_pick T) (hr.mono (by decide)) (by rfl) T.g__law_pick T.F__law_pick.kp T.b__law_pick .nil pass0 (pa_cons (pv 1) (pa_cons (pv 2) pa_nil))) pa_nil))))))
      pss_nil)
    (pss_cons (ps_set (i := 7) sc_law.nd rfl (Or.inl rfl) (pe_tup (pa_cons pe_int (pa_cons (pe_callTy call_tuple_of (by rfl) T.tuple (by decide +kernel) (pa_cons (pe_lc (own := [("_law_word", 16)]) (g := gName 16) (tt := tYes) (by rfl) sc_law.nd (pi_list (pe_callB cr_sortedS (by rfl) T.sorted (by decide +kernel) (pa_cons (pe_slice sl_list (pv 2) po_none (po_some (pe_op op_add (pe_op op_add pe_int (pe_call (ok__law_draw T) (hr.mono (by decide)) (by rfl) T.g__law_draw T.F__law_draw.kp T.b__law_draw .nil pass0 (pa_cons (pv 1) (pa_cons pe_int pa_nil)))) (pe_callTy call_int1 (by rfl) T.int (by decide +kernel) (pa_cons (pv 3) pa_nil))))) pa_nil))) (blkOk_by (own := [("_law_word", 16)]) (N := ["_law_script", "_law_pool_here", "_law_words", "_law_far", "_law_names_here", "_law_kinds", "_law_heads", "_law_keep", "_law_functions", "_law_head", "_law_tree", "_law_own", "_law_params", "_law_used", "_law_body", "_law_k", "_law_word"]) (sc := defScope s_law) (by decide +kernel)) (fun _ _ _ _ _ => pg_name (i := 16) sc_law.nd rfl (Or.inl rfl)) (fun _ _ _ _ _ => pts_nil) (fun _ _ _ _ _ => (pe_tup (pa_cons (pv 16) (pa_cons pe_int pa_nil))))) pa_nil)) pa_nil))))
    (pss_cons (ps_set (i := 8) sc_law.nd rfl (Or.inl rfl) (pe_lst pa_nil))
    (pss_cons (ps_for PassesOwn.never rfl (pi_list (pv 6)) (pg_name (i := 9) sc_law.nd rfl (Or.inl rfl))
      (pss_cons (ps_set (i := 11) sc_law.nd rfl (Or.inr rfl) (pe_slice sl_list (pv 2) (po_some (pe_op op_sub pe_int (pe_op op_mul pe_int (pe_callTy call_int1 (by rfl) T.int (by decide +kernel) (pa_cons (pv 3) pa_nil))))) po_none))
      (pss_cons (ps_setLc (i := 12) (own := [("_law_k", 15)]) (g := gName 15) (tt := tYes) (by rfl) sc_law.nd rfl rfl (sw_true rfl rfl rfl (by decide +kernel)) (pi_range1 (by rfl) T.range (pa_cons (pe_call (ok__law_draw T) (hr.mono (by decide)) (by rfl) T.g__law_draw T.F__law_draw.kp T.b__law_draw .nil pass0 (pa_cons (pv 1) (pa_cons pe_int pa_nil))) pa_nil)) (blkOk_by (own := [("_law_k", 15)]) (N := ["_law_script", "_law_pool_here", "_law_words", "_law_far", "_law_names_here", "_law_kinds", "_law_heads", "_law_keep", "_law_functions", "_law_head", "_law_tree", "_law_own", "_law_params", "_law_used", "_law_body", "_law_k", "_law_word"]) (sc := defScope s_law) (by decide +kernel)) (fun _ _ _ _ _ => pg_name (i := 15) sc_law.nd rfl (Or.inl rfl)) (fun _ _ _ _ _ => pts_nil) (fun _ _ _ _ _ => (pe_tup (pa_cons (pe_call (ok__law_pick T) (hr.mono (by decide)) (by rfl) T.g__law_pick T.F__law_pick.kp T.b__law_pick .nil pass0 (pa_cons (pv 1) (pa_cons (pv 11) pa_nil))) (pa_cons (pe_cmpR op_eq (pe_call (ok__law_draw T) (hr.mono (by decide)) (by rfl) T.g__law_draw T.F__law_draw.kp T.b__law_draw .nil pass0 (pa_cons (pv 1) (pa_cons pe_int pa_nil))) pe_int (nomark _)) pa_nil)))))
      (pss_cons (ps_set (i := 13) sc_law.nd rfl (Or.inr rfl) (pe_ifExp (pt_cmpR op_eq (pe_call (ok__law_draw T) (hr.mono (by decide)) (by rfl) T.g__law_draw T.F__law_draw.kp T.b__law_draw .nil pass0 (pa_cons (pv 1) (pa_cons pe_int pa_nil))) pe_int (nomark _)) (pv 2) (pe_op op_cat (pe_slice sl_list (pv 2) po_none (po_some pe_int)) (pe_slice sl_list (pv 2) (po_some pe_int) po_none))))
      (pss_cons (ps_setLc (i := 14) (own := [("_law_k", 15)]) (g := gName 15) (tt := tYes) (by rfl) sc_law.nd rfl rfl (sw_true rfl rfl rfl (by decide +kernel)) (pi_range1 (by rfl) T.range (pa_cons (pe_op op_add pe_int (pe_call (ok__law_draw T) (hr.mono (by decide)) (by rfl) T.g__law_draw T.F__law_draw.kp T.b__law_draw .nil pass0 (pa_cons (pv 1) (pa_cons pe_int pa_nil)))) pa_nil)) (blkOk_by (own := [("_law_k", 15)]) (N := ["_law_script", "_law_pool_here", "_law_words", "_law_far", "_law_names_here", "_law_kinds", "_law_heads", "_law_keep", "_law_functions", "_law_head", "_law_tree", "_law_own", "_law_params", "_law_used", "_law_body", "_law_k", "_law_word"]) (sc := defScope s_law) (by decide +kernel)) (fun _ _ _ _ _ => pg_name (i := 15) sc_law.nd rfl (Or.inl rfl)) (fun _ _ _ _ _ => pts_nil) (fun _ _ _ _ _ => (pe_call (ok__law_piece T 3) (hr.mono (by decide)) (by rfl) T.g__law_piece T.F__law_piece.kp T.b__law_piece .nil pass0 (pa_cons (pv 1) (pa_cons (pv 13) (pa_cons pe_int pa_nil))))))
      (pss_one (ps_expr (pe_bm PySem.F.plainAttrs_list PySem.F.slot_list_append PySem.F.type_list_append mt_append (pv 8) (pa_cons (pe_tup (pa_cons (pv 9) (pa_cons (pe_callTy call_tuple_of (by rfl) T.tuple (by decide +kernel) (pa_cons (pv 12) pa_nil)) (pa_cons (pe_callTy call_tuple_of (by rfl) T.tuple (by decide +kernel) (pa_cons (pv 14) pa_nil)) pa_nil)))) pa_nil)))))))))
    (pss_cons (ps_set (i := 10) sc_law.nd rfl (Or.inl rfl) (pe_tup (pa_cons (pe_callTy call_tuple_of (by rfl) T.tuple (by decide +kernel) (pa_cons (pv 4) pa_nil)) (pa_cons (pe_callTy call_tuple_of (by rfl) T.tuple (by decide +kernel) (pa_cons (pv 5) pa_nil)) (pa_cons (pe_tup (pa_cons (pv 7) pa_nil)) (pa_cons (pe_callTy call_tuple_of (by rfl) T.tuple (by decide +kernel) (pa_cons (pv 8) pa_nil)) pa_nil))))))
    (pss_one (ps_ret (pe_cmpR (OwT.op_eqTw hr.units0) (pe_call (ok__law_told T B) (hr.mono (by decide)) (by rfl) T.g__law_told T.F__law_told.kp T.b__law_told .nil pass0 (pa_cons (pv 10) pa_nil)) (pe_call (ok__law_due T) (hr.mono (by decide)) (by rfl) T.g__law_due T.F__law_due.kp T.b__law_due .nil pass0 (pa_cons (pv 10) pa_nil)) (nomark _))))))))))))))), ?_⟩
  refine st_seq ⟨_, rfl, a0, ms, rfl, ha0, hml, fun H1 p l s1 np nl P1 => ?_⟩
  dsimp only [gName]
  -- the words
  refine st_seq ⟨_, rfl, p, l, 0, 30, rfl, P1, by decide, fun H2 W0 ch sh P2 k2 hWp hWl nW hch hs0 hs1 hW => ⟨9, rfl, W0, _, rfl, SqL.of hW, fun W nW => ?_⟩⟩
  have hcw : cutV ((namesL ch sh).map V.str) none (some (9 : Int)) = ((namesL ch sh).take 9).map V.str := by
    rw [show (some (9 : Int)) = some ((9 : Nat) : Int) from rfl, cut_take, List.map_take]
  rw [hcw]
  have hNl : (namesL ch sh).length = 16 := by unfold namesL; rw [List.length_map, List.length_range]
  have wok : WsOk ((namesL ch sh).take 9) := ⟨fun v hv => names_ok hch v (List.mem_of_mem_take hv), (names_nodup ch sh).sublist (List.take_sublist _ _), by rw [List.length_take]; omega, fun e => by
    have := congrArg List.length e
    rw [List.length_take, hNl, List.length_nil] at this
    omega⟩
  have wl : ((namesL ch sh).take 9).length = 9 := by rw [List.length_take, hNl]; rfl
  generalize (namesL ch sh).take 9 = ws at wok wl
  have hWo := P2.off nW
  have P3 := P2.fresh (o := .lst (ws.map V.str)) nW
  have W3 : WsAt (upd H2 W (.lst (ws.map V.str))) p l W ws := ⟨upd_same, hWo.1, hWo.2, wok⟩
  clear hcw hW nW hWo k2
  dsimp only [gName]
  generalize upd H2 W (.lst (ws.map V.str)) = H3 at P3 W3
  -- far
  refine st_seq ⟨_, rfl, p, l, _, 30, 5, rfl, P3, by omega, by decide, log_small (by decide) (by decide), fun r4 H4 r40 r41 P4 f4 => ⟨rfl, ?_⟩⟩
  have W4 := W3.keep (Keep.draw f4)
  dsimp only [gName]
  generalize decide (V.int r4 = V.int 0) = far
  -- names, kinds, heads
  have cuts : ∀ {i j : Nat}, i ≤ j → j ≤ 9 → cutV (ws.map V.str) (some ((i : Nat) : Int)) (some ((j : Nat) : Int)) = ((ws.drop i).take (j - i)).map V.str := fun hij hj => by
    rw [cut_mid hij (by rw [List.length_map]; omega), List.map_take, List.map_drop]
  have lens : ∀ {i : Nat}, i ≤ 7 → ((ws.drop i).take 2).length = 2 := fun {i} hi => by
    rw [List.length_take, List.length_drop]
    omega
  have mems : ∀ {i : Nat}, ∀ v ∈ (ws.drop i).take 2, v ∈ ws := fun v hv => List.mem_of_mem_drop (List.mem_of_mem_take hv)
  refine st_seq ⟨_, rfl, 2, rfl, W, _, rfl, SqL.of W4.at_, fun Ng nNg => ?_⟩
  rw [show cutV (ws.map V.str) none (some (2 : Int)) = ((ws.drop 0).take 2).map V.str by rw [show (some (2 : Int)) = some ((2 : Nat) : Int) from rfl, cut_take, List.map_take]; rfl]
  have hgo := P4.off nNg
  have sg := same_upd (o := .lst (((ws.drop 0).take 2).map V.str)) nNg
  have P5 := P4.same sg
  have W5 := W4.keep (Keep.of sg)
  have G5 : LA (upd H4 Ng (.lst (((ws.drop 0).take 2).map V.str))) p l Ng (((ws.drop 0).take 2).map V.str) := ⟨upd_same, hgo.1, hgo.2⟩
  dsimp only [gName]
  generalize upd H4 Ng (.lst (((ws.drop 0).take 2).map V.str)) = H5 at P5 W5 G5
  refine st_seq ⟨_, rfl, 2, rfl, 4, rfl, W, _, rfl, SqL.of W5.at_, fun Kd nKd => ?_⟩
  rw [show cutV (ws.map V.str) (some (2 : Int)) (some (4 : Int)) = ((ws.drop 2).take 2).map V.str from cuts (i := 2) (j := 4) (by decide) (by decide)]
  have hko := P5.off nKd
  have sk := same_upd (o := .lst (((ws.drop 2).take 2).map V.str)) nKd
  have P6 := P5.same sk
  have W6 := W5.keep (Keep.of sk)
  have G6 := G5.keep (Keep.of sk)
  have K6 : LA (upd H5 Kd (.lst (((ws.drop 2).take 2).map V.str))) p l Kd (((ws.drop 2).take 2).map V.str) := ⟨upd_same, hko.1, hko.2⟩
  dsimp only [gName]
  generalize upd H5 Kd (.lst (((ws.drop 2).take 2).map V.str)) = H6 at P6 W6 G6 K6
  refine st_seq ⟨_, rfl, 4, rfl, 6, rfl, W, _, rfl, SqL.of W6.at_, fun Hd nHd => ?_⟩
  rw [show cutV (ws.map V.str) (some (4 : Int)) (some (6 : Int)) = ((ws.drop 4).take 2).map V.str from cuts (i := 4) (j := 6) (by decide) (by decide)]
  have hho := P6.off nHd
  have sh := same_upd (o := .lst (((ws.drop 4).take 2).map V.str)) nHd
  have P7 := P6.same sh
  have W7 := W6.keep (Keep.of sh)
  have G7 := G6.keep (Keep.of sh)
  have K7 := K6.keep (Keep.of sh)
  have D7 : LA (upd H6 Hd (.lst (((ws.drop 4).take 2).map V.str))) p l Hd (((ws.drop 4).take 2).map V.str) := ⟨upd_same, hho.1, hho.2⟩
  have hkm := mems (i := 2)
  have hkl := lens (i := 2) (by decide)
  dsimp only [gName]
  generalize upd H6 Hd (.lst (((ws.drop 4).take 2).map V.str)) = H7 at P7 W7 G7 K7 D7
  generalize (ws.drop 2).take 2 = ks at K7 hkm hkl
  -- far away
  refine st_seq (ifS_join (b := far) (PR := fun σ' H' => ∃ (Ng Hd : Addr) (gs hs : List Str) (n : Int), σ' = [some (.ref a0), some (.ref p), some (.ref W), some (.bl far), some (.ref Ng), some (.ref Kd), some (.ref Hd), none, none, none, none, none, none, none, none, none, none] ∧ PoolAt H' p l n 30 ∧ n ≤ 5 ∧ WsAt H' p l W ws ∧ LA H' p l Ng (gs.map V.str) ∧ LA H' p l Kd (ks.map V.str) ∧ LA H' p l Hd (hs.map V.str) ∧ gs.length = 2 ∧ hs.length = 2 ∧ (∀ v ∈ gs, v ∈ ws) ∧ ∀ v ∈ hs, v ∈ ws)
    (fun Q q => ⟨_, rfl, far, rfl, q⟩) (fun _ D' kD => ?_) (fun _ D' kD => ?_) ?_)
  · -- yes
    obtain ⟨w1, hw1⟩ : ∃ z, ws[1]? = some z := ⟨ws[1], List.getElem?_eq_getElem (by omega)⟩
    obtain ⟨w4, hw4⟩ : ∃ z, ws[4]? = some z := ⟨ws[4], List.getElem?_eq_getElem (by omega)⟩
    have hv1 : (ws.map V.str)[1]? = some (.str w1) := by rw [List.getElem?_map, hw1]; rfl
    have hv4 : (ws.map V.str)[4]? = some (.str w4) := by rw [List.getElem?_map, hw4]; rfl
    refine st_seq ⟨_, rfl, _, rfl, p, l, W, _, 30, ws, rfl, P7, by omega, W7, fun z H8 hz hzn P8 k8 => ?_⟩
    have W8 := W7.keep k8
    refine ⟨_, rfl, W, _, _, _, rfl, rfl, SqL.of W8.at_, atI_nat (j := 1) hv1, two_le, fun N1 n1 => ?_⟩
    have ho1 := P8.off n1
    have s1 := same_upd (o := .lst [.str z, .str w1]) n1
    have P9 := P8.same s1
    have W9 := W8.keep (Keep.of s1)
    have K9 := (K7.keep k8).keep (Keep.of s1)
    have G9 : LA (upd H8 N1 (.lst [.str z, .str w1])) p l N1 (([z, w1] : List Str).map V.str) := ⟨upd_same, ho1.1, ho1.2⟩
    dsimp only [gName]
    generalize upd H8 N1 (.lst [.str z, .str w1]) = H9 at P9 W9 K9 G9
    refine ⟨_, rfl, W, _, _, _, rfl, rfl, SqL.of W9.at_, atI_nat (j := 4) hv4, _, rfl, _, rfl, p, l, W, _, 30, ws, rfl, P9, by omega, W9, fun y H10 hy hyn P10 k10 => ⟨two_le, fun N2 n2 => ?_⟩⟩
    have ho2 := P10.off n2
    have s2 := same_upd (o := .lst [.str w4, .str y]) n2
    refine kD _ _ ⟨N1, N2, [z, w1], [w4, y], _, rfl, P10.same s2, by omega, (W9.keep k10).keep (Keep.of s2), (G9.keep k10).keep (Keep.of s2), (K9.keep k10).keep (Keep.of s2), ⟨upd_same, ho2.1, ho2.2⟩, rfl, rfl, fun v hv => ?_, fun v hv => ?_⟩
    · simp only [List.mem_cons, List.not_mem_nil, or_false] at hv
      rcases hv with rfl | rfl
      · exact hz
      · exact List.mem_of_getElem? hw1
    · simp only [List.mem_cons, List.not_mem_nil, or_false] at hv
      rcases hv with rfl | rfl
      · exact List.mem_of_getElem? hw4
      · exact hy
  · -- no
    exact kD _ _ ⟨Ng, Hd, _, _, _, rfl, P7, by omega, W7, G7, K7, D7, lens (by decide), lens (by decide), mems, mems⟩
  clear P7 W7 G7 K7 D7 P6 W6 G6 K6 P5 W5 G5 P4 W4 P3 W3 sh sk sg hho hko hgo
  rintro σ H8 ⟨Ng, Hd, gs, hs, n8, rfl, P8, hn8, W8, G8, K8, D8, hgl, hhl, hgm, hhm⟩
  have hfi : 0 ≤ (if far then (1 : Int) else 0) ∧ (if far then (1 : Int) else 0) ≤ 1 := by cases far <;> decide
  dsimp only
  -- the keep
  refine st_seq ⟨_, rfl, _, rfl, p, l, _, 30, 2, rfl, P8, by omega, by decide, log_small (by decide) (by decide), fun r9 H9 r90 r91 P9 f9 => ?_⟩
  have k9 : Keep p l H8 H9 := Keep.draw f9
  have W9 := W8.keep k9
  have G9 := G8.keep k9
  have K9 := K8.keep k9
  have D9 := D8.keep k9
  refine ⟨_, _, rfl, rfl, _, rfl, .inr ⟨far, rfl, _, _, rfl, rfl, _, rfl, W, _, rfl, SqL.of W9.at_, fun S nS => ?_⟩⟩
  obtain ⟨m9, hm9⟩ : ∃ m : Nat, (1 : Int) + r9 + (if far then (1 : Int) else 0) = (m : Int) := ⟨((1 : Int) + r9 + (if far then (1 : Int) else 0)).toNat, by omega⟩
  rw [hm9, show cutV (ws.map V.str) none (some ((m9 : Nat) : Int)) = (ws.take m9).map V.str by rw [cut_take, List.map_take]]
  have sS := same_upd (o := .lst ((ws.take m9).map V.str)) nS
  have P10 := P9.same sS
  have W10 := W9.keep (Keep.of sS)
  have G10 := G9.keep (Keep.of sS)
  have K10 := K9.keep (Keep.of sS)
  have D10 := D9.keep (Keep.of sS)
  have hS : (upd H9 S (.lst ((ws.take m9).map V.str))) S = some (.lst ((ws.take m9).map V.str)) := upd_same
  have ktl : (ws.take m9).length ≤ 3 := by rw [List.length_take]; omega
  have knd : (ws.take m9).Nodup := wok.nd.sublist (List.take_sublist _ _)
  have kmm : ∀ v ∈ ws.take m9, v ∈ ws := fun v hv => List.mem_of_mem_take hv
  generalize ws.take m9 = kw at hS ktl knd kmm sS P10 W10 G10 K10 D10
  generalize upd H9 S (.lst (kw.map V.str)) = H10 at hS P10 W10 G10 K10 D10
  refine ⟨S, kw, rfl, SqL.of hS, by omega, fun ys y hperm hsort ny => ?_⟩
  have sy := same_upd (o := .lst (ys.map V.str)) ny
  have P11 := P10.same sy
  have W11 := W10.keep (Keep.of sy)
  have G11 := G10.keep (Keep.of sy)
  have K11 := K10.keep (Keep.of sy)
  have D11 := D10.keep (Keep.of sy)
  have hy : (upd H10 y (.lst (ys.map V.str))) y = some (.lst (ys.map V.str)) := upd_same
  generalize upd H10 y (.lst (ys.map V.str)) = H11 at hy P11 W11 G11 K11 D11
  have hyl : ys.length = kw.length := hperm.length_eq
  have hstrict := sorted_strict hsort (hperm.symm.nodup knd)
  refine ⟨y, rfl, ⟨_, SqL.of hy⟩, fun N nN => ?_⟩
  have hyN : y ≠ N := ne_of_none hy nN
  refine lc_list (K := K) (a := y) (xs := ys.map V.str) (fun i H' => ∃ as : List Addr, Same H11 H' ∧ H' N = some (.lst (as.map V.ref)) ∧ RepP H' as ((ys.take i).map fun z => (z, (3 : Int))))
    ⟨[], same_upd nN, upd_same, trivial⟩ (fun i H' _ ⟨_, s', _⟩ => SqL.of (s' _ _ hy)) ?_ ?_
  · rintro i x H' hi ⟨as, s', hN', hR'⟩
    obtain ⟨z, hz, rfl⟩ := get_map hi
    have al := hR'.len
    rw [List.length_map, List.length_take] at al
    refine ⟨rfl, _, rfl, two_le, fun c nc => ?_⟩
    have sc := same_upd (o := .tup [.str z, .int 3]) nc
    have hN2 := sc _ _ hN'
    refine ⟨_, hN2, bigLine (by rw [List.length_map]; omega), as ++ [c], same_mut (s'.trans sc) nN, by rw [upd_same, List.map_append]; rfl, ?_⟩
    rw [List.take_add_one, hz, List.map_append]
    exact (RepP.app (t := (z, 3)) upd_same (hR'.same sc)).offX hN2 (fun _ z => by cases z)
  rintro H12 ⟨as, s12, hN12, hR12⟩
  rw [List.length_map, List.take_length] at hR12
  refine ⟨N, _, rfl, .inl ⟨SqL.of hN12, fun pt npt => ⟨two_le, fun kv nkv => ?_⟩⟩⟩
  have s3 := same_upd (o := .tup (as.map V.ref)) npt
  have s4 := same_upd (o := .tup [.int 0, .ref pt]) nkv
  have s14 := (s12.trans s3).trans s4
  have P13 := P11.same s14
  have W13 := W11.keep (Keep.of s14)
  have G13 := G11.keep (Keep.of s14)
  have K13 := K11.keep (Keep.of s14)
  have D13 := D11.keep (Keep.of s14)
  have V13 : Dv (upd (upd H12 pt (.tup (as.map V.ref))) kv (.tup [.int 0, .ref pt])) (.ref kv) (dE (0, ys.map fun z => (z, (3 : Int)))) := Dv.of_ex upd_same (s4 _ _ upd_same) (hR12.same (s3.trans s4))
  have hE : SumF (0, ys.map fun z => (z, (3 : Int))) := ⟨by show (ys.map fun z => (z, (3 : Int))).Pairwise _; rw [List.pairwise_map]; exact hstrict, fun t ht => by
    obtain ⟨z, hz, rfl⟩ := List.mem_map.mp ht
    exact ⟨wok.nm z (kmm z (hperm.mem_iff.mp hz)), (show (3 : Int) ≠ 0 by decide), ⟨(show (-999999999999 : Int) ≤ 3 by decide), (show (3 : Int) ≤ 999999999999 by decide)⟩⟩, by show (ys.map _).length ≤ 50; rw [List.length_map]; omega, ⟨(show (-999999999999 : Int) ≤ 0 by decide), (show (0 : Int) ≤ 999999999999 by decide)⟩⟩
  obtain ⟨e0, he0⟩ : ∃ e : Ex, e = (0, ys.map fun z => (z, (3 : Int))) := ⟨_, rfl⟩
  have hz0 : e0.1 = 0 := by rw [he0]
  rw [← he0] at V13 hE
  dsimp only [gName]
  generalize upd (upd H12 pt (.tup (as.map V.ref))) kv (.tup [.int 0, .ref pt]) = HB at P13 W13 G13 K13 D13 V13
  clear hR12 hN12 s12 s3 s4 s14 he0 P11 W11 G11 K11 D11 P10 W10 G10 K10 D10 P9 W9 G9 K9 D9 P8 W8 G8 K8 D8 hy hS
  have PB : PoolAt HB p l 6 30 := P13.mono (by omega)
  clear P13
  -- the functions
  refine st_seq ⟨Nat.zero_le _, fun F nF => ?_⟩
  have hFo := PB.off nF
  have sF := same_upd (o := .lst []) nF
  have PC := PB.same sF
  have kC : Keep p l HB (upd HB F (.lst [])) := Keep.of sF
  have hFC : (upd HB F (.lst [])) F = some (.lst []) := upd_same
  dsimp only [gName]
  generalize upd HB F (.lst []) = HC at PC kC hFC
  refine st_seq ⟨_, rfl, Hd, rfl, ⟨_, SqL.of (D13.keep kC).at_⟩, for_list (K := K) (a := Hd) (xs := hs.map V.str) (fun i σ H' => ∃ (v9 v11 v12 v13 v14 : Option V) (fs : List FnT) (fv : List V), σ = [some (.ref a0), some (.ref p), some (.ref W), some (.bl far), some (.ref Ng), some (.ref Kd), some (.ref Hd), some (.ref kv), some (.ref F), v9, none, v11, v12, v13, v14, none, none] ∧ PoolAt H' p l (6 + 700 * (i : Nat)) 30 ∧ Keep p l HB H' ∧ H' F = some (.lst fv) ∧ Dvs H' fv (DL.of (fs.map dFn)) ∧ fs.length = i ∧ ∀ f ∈ fs, FnD ws f)
    ⟨none, none, none, none, none, [], [], rfl, PC.mono (by omega), kC, hFC, rfl, rfl, fun f hf => by cases hf⟩ (fun i σ H' _ ⟨_, _, _, _, _, _, _, _, _, k', _⟩ => SqL.of (D13.keep k').at_) ?_ ?_⟩
  · rintro i x σ J1 hi ⟨v9, v11, v12, v13, v14, fs, fv, rfl, Q1, j1, hF1, hD1, hfl, hfd⟩
    have hil := (List.getElem?_eq_some_iff.mp hi).1
    rw [List.length_map] at hil
    obtain ⟨hd, hhd, rfl⟩ := get_map hi
    have hdn : NmOk hd := wok.nm hd (hhm hd (List.mem_of_getElem? hhd))
    have hfvl := hD1.len
    rw [List.length_map] at hfvl
    have W1 := W13.keep j1
    dsimp only [gName]
    -- own
    refine st_seq ⟨_, rfl, _, rfl, .inr ⟨far, rfl, _, _, rfl, rfl, .inl ⟨by decide, by cases far <;> decide⟩, _, _, rfl, rfl, _, rfl, W, _, rfl, SqL.of W1.at_, fun O nO => ?_⟩⟩
    obtain ⟨m1, hm1, hm6⟩ : ∃ m : Nat, (6 : Int) - 6 * (if far then (1 : Int) else 0) = (m : Int) ∧ m ≤ 6 := ⟨((6 : Int) - 6 * (if far then (1 : Int) else 0)).toNat, by omega, by omega⟩
    rw [hm1, show cutV (ws.map V.str) (some ((m1 : Nat) : Int)) none = (ws.drop m1).map V.str by rw [cut_drop, List.map_drop]]
    have ook : WsOk (ws.drop m1) := ws_sub wok (List.drop_sublist _ _) (fun e => by
      have := congrArg List.length e
      rw [List.length_drop, List.length_nil] at this
      omega)
    have oow : ∀ v ∈ ws.drop m1, v ∈ ws := fun v hv => List.mem_of_mem_drop hv
    have hOo := Q1.off nO
    have sO := same_upd (o := .lst ((ws.drop m1).map V.str)) nO
    have Q2 := Q1.same sO
    have j2 : Keep p l J1 (upd J1 O (.lst ((ws.drop m1).map V.str))) := Keep.of sO
    have O2 : WsAt (upd J1 O (.lst ((ws.drop m1).map V.str))) p l O (ws.drop m1) := ⟨upd_same, hOo.1, hOo.2, ook⟩
    generalize ws.drop m1 = os at ook oow O2 j2 Q2 sO
    dsimp only [gName]
    generalize upd J1 O (.lst (os.map V.str)) = J2 at Q2 j2 O2
    -- params
    refine st_seq ⟨_, rfl, p, l, _, 30, 3, rfl, Q2, by omega, by decide, log_small (by decide) (by decide), fun r3 J3 r30 r31 Q3 g3 => ?_⟩
    have j3 := j2.trans (Keep.draw g3)
    have O3 := O2.keep (Keep.draw g3)
    obtain ⟨mp, rfl⟩ : ∃ m : Nat, r3 = (m : Int) := ⟨r3.toNat, by omega⟩
    refine ⟨(mp : Int), rfl, by omega, by omega, fun N1 nN1 => ?_⟩
    have h1o := Q3.off nN1
    refine lc_range (lo := 0) (n := ((mp : Nat) : Int).toNat) (fun k H' => ∃ (ps : List (Str × Bool)) (pv_ : List V), PoolAt H' p l (8 + 700 * (i : Nat) + 2 * (k : Nat)) 30 ∧ Keep p l J3 H' ∧ H' N1 = some (.lst pv_) ∧ Dvs H' pv_ (DL.of (ps.map dPa)) ∧ ps.length = k ∧ ∀ q ∈ ps, NmOk q.1)
      ⟨[], [], (Q3.fresh nN1).mono (by omega), Keep.of (same_upd nN1), upd_same, rfl, rfl, fun q hq => by cases hq⟩ ?_ ?_
    · rintro k H' hk ⟨ps, pv_, Q4, j4, hN4, hD4, hpl, hpn⟩
      have hpvl := hD4.len
      rw [List.length_map] at hpvl
      refine ⟨rfl, _, rfl, _, rfl, p, l, O, _, 30, os, rfl, Q4, by omega, O3.keep j4, fun z J5 hz hzn Q5 j5 => ⟨_, rfl, p, l, _, 30, 2, rfl, Q5, by omega, by decide, log_small (by decide) (by decide), fun r6 J6 r60 r61 Q6 g6 => ⟨rfl, two_le, fun c nc => ?_⟩⟩⟩
      have j46 := j5.trans (Keep.draw g6)
      have sc := same_upd (o := .tup [.str z, .bl (decide (V.int r6 = V.int 1))]) nc
      have j47 := j46.trans (Keep.of (p := p) (l := l) sc)
      have hN7 := j47 _ _ hN4 h1o.1 h1o.2
      have tkN : TK (upd J6 c (.tup [.str z, .bl (decide (V.int r6 = V.int 1))])) (upd (upd J6 c (.tup [.str z, .bl (decide (V.int r6 = V.int 1))])) N1 (.lst (pv_ ++ [.ref c]))) := TK.upd hN7 (fun _ z => by cases z)
      refine ⟨_, hN7, bigLine (by omega), ps ++ [(z, decide (V.int r6 = V.int 1))], pv_ ++ [.ref c], ((Q6.fresh nc).put h1o.1 h1o.2).mono (by omega), (j4.trans j47).mut nN1, upd_same, ?_, by rw [List.length_append, hpl]; rfl, fun q hq => ?_⟩
      · rw [List.map_append]
        exact Dvs.append (hD4.mono ((TK.keep Q4 j47).trans tkN)) ⟨.ref c, [], rfl, ⟨c, _, rfl, tkN _ _ upd_same, _, _, rfl, rfl, _, _, rfl, rfl, rfl⟩, rfl⟩
      · rcases List.mem_append.mp hq with hq | hq
        · exact hpn q hq
        · rw [List.mem_singleton.mp hq]
          exact hzn
    rintro J4 ⟨ps, pv_, Q4, j34, hN4, hD4, hpl, hpn⟩
    have hpl2 : ps.length ≤ 2 := by omega
    have L4 : LA J4 p l N1 pv_ := ⟨hN4, h1o.1, h1o.2⟩
    have j4 := j3.trans j34
    have W4 := W1.keep j4
    have Q4 : PoolAt J4 p l (12 + 700 * (i : Nat)) 30 := Q4.mono (by omega)
    clear Q3 O3 Q2 O2 hN4
    dsimp only [gName]
    -- used
    refine st_seq ⟨_, rfl, p, l, _, 30, 3, rfl, Q4, by omega, by decide, log_small (by decide) (by decide), fun r5 J5 r50 r51 Q5 g5 => ⟨rfl, _, rfl, ?_⟩⟩
    have j45 : Keep p l J4 J5 := Keep.draw g5
    have W5 := W4.keep j45
    have L5 := L4.keep j45
    have D5 := hD4.mono (TK.keep Q4 j45)
    have j5 := j4.trans j45
    refine ite_val (PR := fun v H' => ∃ (U : Addr) (us : List Str), v = .ref U ∧ WsAt H' p l U us ∧ Same J5 H') (fun _ Q' k => ?_) (fun _ Q' k => ?_) ?_
    · exact ⟨_, rfl, k _ _ ⟨W, ws, rfl, W5, Same.refl _⟩⟩
    · refine ⟨_, rfl, 2, rfl, W, _, rfl, SqL.of W5.at_, fun A1 n1 => ?_⟩
      rw [show cutV (ws.map V.str) none (some (2 : Int)) = (ws.take 2).map V.str by rw [show (some (2 : Int)) = some ((2 : Nat) : Int) from rfl, cut_take, List.map_take]]
      have s1 := same_upd (o := .lst ((ws.take 2).map V.str)) n1
      have W6 := W5.keep (Keep.of s1)
      refine ⟨_, rfl, 6, rfl, W, _, rfl, SqL.of W6.at_, fun A2 n2 => ?_⟩
      rw [show cutV (ws.map V.str) (some (6 : Int)) none = (ws.drop 6).map V.str by rw [show (some (6 : Int)) = some ((6 : Nat) : Int) from rfl, cut_drop, List.map_drop]]
      have s2 := same_upd (o := .lst ((ws.drop 6).map V.str)) n2
      refine ⟨A1, A2, _, _, rfl, rfl, s2 _ _ upd_same, upd_same, bigLe (by rw [List.length_map, List.length_map, List.length_take, List.length_drop]; omega), fun A3 n3 => ?_⟩
      have s3 := same_upd (o := .lst ((ws.take 2).map V.str ++ (ws.drop 6).map V.str)) n3
      have h3o := ((Q5.same s1).same s2).off n3
      refine k _ _ ⟨A3, ws.take 2 ++ ws.drop 6, rfl, ⟨by rw [upd_same, List.map_append], h3o.1, h3o.2, ws_sub wok ?_ ?_⟩, (s1.trans s2).trans s3⟩
      · have e : ws.take 2 ++ ws.drop 2 = ws := List.take_append_drop 2 ws
        have e2 : (ws.take 2 ++ ws.drop 6).Sublist (ws.take 2 ++ ws.drop 2) := List.Sublist.append (List.Sublist.refl _) (by
          rw [show (6 : Nat) = 2 + 4 from rfl, ← List.drop_drop]
          exact List.drop_sublist _ _)
        rwa [e] at e2
      · intro e
        have := congrArg List.length e
        rw [List.length_append, List.length_take, List.length_drop, List.length_nil] at this
        omega
    rintro vU J6 ⟨U, us, rfl, U6, s56⟩
    have Q6 := Q5.same s56
    have L6 := L5.keep (Keep.of s56)
    have D6 := D5.mono (TK.of s56)
    have j6 := j5.trans (Keep.of (p := p) (l := l) s56)
    clear Q5 L5 D5 W5 s56 j45 Q4 L4 hD4 W4
    dsimp only [gName]
    -- body
    refine st_seq ⟨_, rfl, p, l, _, 30, 3, rfl, Q6, by omega, by decide, log_small (by decide) (by decide), fun r7 J7 r70 r71 Q7 g7 => ?_⟩
    have j67 : Keep p l J6 J7 := Keep.draw g7
    have U7 := U6.keep j67
    have L7 := L6.keep j67
    have D7 := D6.mono (TK.keep Q6 j67)
    have j7 := j6.trans j67
    obtain ⟨mb, hmb⟩ : ∃ m : Nat, (1 : Int) + r7 = (m : Int) := ⟨((1 : Int) + r7).toNat, by omega⟩
    refine ⟨_, _, rfl, rfl, (mb : Int), (by show [V.int ((1 : Int) + r7)] = _; rw [hmb]), by omega, by omega, fun N2 nN2 => ?_⟩
    have h2o := Q7.off nN2
    refine lc_range (lo := 0) (n := ((mb : Nat) : Int).toNat) (fun k H' => ∃ (ss : List TS) (bv : List V), PoolAt H' p l (14 + 700 * (i : Nat) + 180 * (k : Nat)) 30 ∧ Keep p l J7 H' ∧ H' N2 = some (.lst bv) ∧ Dvs H' bv (DL.of (ss.map dS)) ∧ ss.length = k ∧ ∀ s ∈ ss, PieceOk 2 s)
      ⟨[], [], (Q7.fresh nN2).mono (by omega), Keep.of (same_upd nN2), upd_same, rfl, rfl, fun q hq => by cases hq⟩ ?_ ?_
    · rintro k H' hk ⟨ss, bv, Q8, j8, hN8, hD8, hsl, hsp⟩
      have hbvl := hD8.len
      rw [List.length_map] at hbvl
      refine ⟨rfl, _, rfl, _, rfl, p, l, U, _, 30, us, rfl, Q8, (by show (14 : Int) + 700 * (i : Nat) + 180 * (k : Nat) ≤ (999999990000 : Int) - 60 * ((2 : Nat) : Int); omega), U7.keep j8, fun st sv J9 hst hsv Q9 j9 => ?_⟩
      have Q9 : PoolAt J9 p l ((14 : Int) + 700 * (i : Nat) + 180 * (k : Nat) + 60 * (((2 : Nat) : Int) + 1)) 30 := Q9
      have hN9 := j9 _ _ hN8 h2o.1 h2o.2
      have tkN : TK J9 (upd J9 N2 (.lst (bv ++ [sv]))) := TK.upd hN9 (fun _ z => by cases z)
      refine ⟨_, hN9, bigLine (by omega), ss ++ [st], bv ++ [sv], (Q9.put h2o.1 h2o.2).mono (by omega), (j8.trans j9).mut nN2, upd_same, ?_, by rw [List.length_append, hsl]; rfl, fun q hq => ?_⟩
      · rw [List.map_append]
        exact Dvs.append (hD8.mono ((TK.keep Q8 j9).trans tkN)) ⟨sv, [], rfl, hsv.mono tkN, rfl⟩
      · rcases List.mem_append.mp hq with hq | hq
        · exact hsp q hq
        · rw [List.mem_singleton.mp hq]
          exact hst
    rintro J8 ⟨ss, bv, Q8, j78, hN8, hD8, hsl, hsp⟩
    have hsl3 : ss.length ≤ 3 := by omega
    have L8 := L7.keep j78
    have D8 := D7.mono (TK.keep Q7 j78)
    have j8 := j7.trans j78
    have hF8 := j8 _ _ hF1 hFo.1 hFo.2
    have hDf8 := hD1.mono (TK.keep Q1 j8)
    dsimp only [gName]
    refine ⟨_, rfl, .inl ⟨rfl, _, SqL.of hF8⟩, _, rfl, _, rfl, N1, _, rfl, .inl ⟨SqL.of L8.at_, fun t1 n1 => ?_⟩⟩
    have s1 := same_upd (o := .tup pv_) n1
    refine ⟨_, rfl, N2, _, rfl, .inl ⟨SqL.of (s1 _ _ hN8), fun t2 n2 => ⟨three_le, fun c nc => ?_⟩⟩⟩
    have s2 := same_upd (o := .tup bv) n2
    have sc := same_upd (o := .tup [.str hd, .ref t1, .ref t2]) nc
    have s1c := (s1.trans s2).trans sc
    have hF9 := s1c _ _ hF8
    refine ⟨F, _, _, rfl, rfl, hF9, bigLine (by omega), ?_⟩
    have tkN : TK (upd (upd (upd J8 t1 (.tup pv_)) t2 (.tup bv)) c (.tup [.str hd, .ref t1, .ref t2])) (upd (upd (upd (upd J8 t1 (.tup pv_)) t2 (.tup bv)) c (.tup [.str hd, .ref t1, .ref t2])) F (.lst (fv ++ [.ref c]))) := TK.upd hF9 (fun _ z => by cases z)
    have tk1 := (TK.of s1c).trans tkN
    refine ⟨_, _, _, _, _, fs ++ [⟨hd, ps, TB.of ss⟩], fv ++ [.ref c], rfl, ((Q8.same s1c).put hFo.1 hFo.2).mono (by omega), ((j1.trans j8).trans (Keep.of s1c)).mut nF, upd_same, ?_, by rw [List.length_append, hfl]; rfl, fun f hf => ?_⟩
    · rw [List.map_append]
      refine Dvs.append (hDf8.mono tk1) ⟨.ref c, [], rfl, ⟨c, _, rfl, tkN _ _ upd_same, _, _, rfl, rfl, _, _, rfl, ⟨t1, _, rfl, (((TK.of s2).trans (TK.of sc)).trans tkN) _ _ upd_same, D8.mono tk1⟩, _, _, rfl, ⟨t2, _, rfl, ((TK.of sc).trans tkN) _ _ upd_same, ?_⟩, rfl⟩, rfl⟩
      rw [dB_of, TB.L_of]
      exact hD8.mono tk1
    · rcases List.mem_append.mp hf with hf | hf
      · exact hfd f hf
      · rw [List.mem_singleton.mp hf]
        refine ⟨⟨hdn, hpn, TB.of_F fun s hs => (hsp s hs).F⟩, hpl2, TB.of_ht fun s hs => (hsp s hs).ht, Nat.le_trans (TB.of_sz fun s hs => (hsp s hs).sz) (by omega), Nat.le_trans (of_asg fun s hs => (hsp s hs).asg) hsl3, of_one fun s hs => (hsp s hs).one⟩
  rintro σ J1 ⟨v9, v11, v12, v13, v14, fs, fv, rfl, Q1, j1, hF1, hD1, hfl, hfd⟩
  rw [List.length_map, hhl] at hfl
  have hfvl := hD1.len
  rw [List.length_map] at hfvl
  have G1 := G13.keep j1
  have K1 := K13.keep j1
  have V1 := V13.mono (TK.keep PB j1)
  dsimp only
  -- the tree
  refine st_seq ⟨_, rfl, Ng, _, rfl, .inl ⟨SqL.of G1.at_, fun t1 n1 => ?_⟩⟩
  have s1 := same_upd (o := .tup (gs.map V.str)) n1
  refine ⟨_, rfl, Kd, _, rfl, .inl ⟨SqL.of (s1 _ _ K1.at_), fun t2 n2 => ?_⟩⟩
  have s2 := same_upd (o := .tup (ks.map V.str)) n2
  refine ⟨_, rfl, one_le, fun t3 n3 => ?_⟩
  have s3 := same_upd (o := .tup [.ref kv]) n3
  have s03 := (s1.trans s2).trans s3
  refine ⟨_, rfl, F, _, rfl, .inl ⟨SqL.of (s03 _ _ hF1), fun t4 n4 => ⟨four_le, fun tr nt => ?_⟩⟩⟩
  have s4 := same_upd (o := .tup fv) n4
  have s5 := same_upd (o := .tup [.ref t1, .ref t2, .ref t3, .ref t4]) nt
  have s05 := (s03.trans s4).trans s5
  have t05 := TK.of s05
  have TT : Dv (upd (upd (upd (upd (upd J1 t1 (.tup (gs.map V.str))) t2 (.tup (ks.map V.str))) t3 (.tup [.ref kv])) t4 (.tup fv)) tr (.tup [.ref t1, .ref t2, .ref t3, .ref t4])) (.ref tr) (dT ⟨gs, ks, [e0], fs⟩) :=
    ⟨tr, _, rfl, upd_same, _, _, rfl, Dv.of_strs' ((((s2.trans s3).trans s4).trans s5) _ _ upd_same), _, _, rfl, Dv.of_strs' (((s3.trans s4).trans s5) _ _ upd_same), _, _, rfl, ⟨t3, _, rfl, (s4.trans s5) _ _ upd_same, _, [], rfl, V1.mono t05, rfl⟩, _, _, rfl, ⟨t4, _, rfl, s5 _ _ upd_same, hD1.mono t05⟩, rfl⟩
  have hTL := tree_ok (e := e0) wok hgm hgl hkm hkl hE hz0 hfd hfl
  dsimp only [gName]
  generalize upd (upd (upd (upd (upd J1 t1 (.tup (gs.map V.str))) t2 (.tup (ks.map V.str))) t3 (.tup [.ref kv])) t4 (.tup fv)) tr (.tup [.ref t1, .ref t2, .ref t3, .ref t4]) = J2 at TT
  -- the answer
  refine ⟨_, rfl, _, _, e0, rfl, TT, hTL, fun J3 v1 s13 hv1 => ⟨_, rfl, _, _, e0, rfl, TT.mono (TK.of s13), hTL, fun J4 v2 s14 hv2 => ?_⟩⟩
  obtain ⟨p1, rfl, hp1⟩ := due_val hv1
  obtain ⟨p2, rfl, hp2⟩ := due_val hv2
  exact ⟨p1, p2, _, rfl, rfl, .inl (.inl (s14 _ _ hp1)), .inl (.inl hp2), due_flat _, q _⟩
end
end K10
/-! ### the head by one kernel run: what is asked of the written part is one check, the defs by the addresses at which they stand -/
namespace HeX
open PySem PySem.Spec PyProof.Rows L2
/-- one def: where it stands, its name, qualified name, parameters, body, scope, its defaults -/
structure DefX where
  at_ : PySem.W.Frag → Addr
  name : Str
  qual : Str
  params : Arguments
  body : List Stmt
  scope : Scope
  dfl : List He.Dv := []
def fnX (K : PySem.W.Frag) (a : Addr) : He.FnW := match K.lookup a with
  | some ⟨_, _, .func fd, _⟩ => some (fd.name, fd.qualname, fd.params, fd.body, fd.scope, fd.globals, fd.closure, fd.builtins)
  | _ => none
def DefX.val (d : DefX) : He.FnW := some (d.name, d.qual, d.params, .stmts d.body, d.scope, mainGlobals, [], builtinsNs)
def DefX.ok (K : PySem.W.Frag) (d : DefX) : Bool := PySem.W.keepIn K (.ref (d.at_ K)) && (match K.lookup (d.at_ K) with
  | some ⟨_, _, .func fd, _⟩ => PySem.W.codeIn K fd.code d.qual && He.dflB K fd.defaults (d.dfl.map (He.Dv.v K))
  | _ => false)
theorem DefX.funD {K : PySem.W.Frag} {d : DefX} (e : fnX K (d.at_ K) = d.val) (c : d.ok K = true) : ∃ fd, FunD K d.name d.qual d.params d.body d.scope (d.dfl.map (He.Dv.v K)) [] (d.at_ K) fd := by
  obtain ⟨kp, c2⟩ := He.ba c
  unfold fnX at e
  cases q : K.lookup (d.at_ K) with
  | none =>
    rw [q] at c2
    cases c2
  | some o =>
    obtain ⟨oc, od, dt, osl⟩ := o
    rw [q] at c2 e
    cases dt with
    | func fd =>
      obtain ⟨n1, n2, n3, n4, n5, n6, n7, n8, n9, n10, n11, n12, n13, n14, n15⟩ := fd
      have e2 : (some (n1, n2, n3, n4, n5, n6, n7, n15) : He.FnW) = some (d.name, d.qual, d.params, .stmts d.body, d.scope, mainGlobals, [], builtinsNs) := e
      simp only [Option.some.injEq, Prod.mk.injEq] at e2
      obtain ⟨h1, h2, h3, h4, h5, h6, h7, h8⟩ := e2
      subst h1 h2 h3 h4 h5 h6 h7 h8
      obtain ⟨k1, k2⟩ := He.ba (show (PySem.W.codeIn K n13 d.qual && He.dflB K n8 (d.dfl.map (He.Dv.v K))) = true from c2)
      exact ⟨_, ⟨oc, od, n8, n9, n10, n11, n12, n13, n14, osl, rfl, q, k1, He.dflB_ok k2, .inl rfl⟩, kp⟩
    | _ => cases c2
theorem fun_of {K : PySem.W.Frag} {x qual : Str} {st : Stmt} {f : Addr} {fd : FuncData} (F : FunD K x qual (defArgs st) (defBody st) (defScope st) [] [] f fd) : Fun K x qual st f fd := by
  obtain ⟨oc, od, dV, kV, doc, pm, an, cdv, ct, osl, rfl, lk, hcd, hD, _⟩ := F.ex
  rcases hD with ⟨_, e⟩ | ⟨e, _⟩
  · subst e
    exact ⟨⟨oc, od, kV, doc, pm, an, cdv, ct, osl, rfl, lk, hcd⟩, F.kp⟩
  · exact absurd rfl e
/-- a table of the top: where, its keys -/
abbrev TabX : Type := (PySem.W.Frag → Addr) × List Str
abbrev AlX : Type := Bool × List He.FnW × List (Option (List (Option (Str × Int))))
def obsX (chk : PySem.W.Frag → Bool) (fn : List DefX) (ts : List TabX) (K : PySem.W.Frag) : AlX := (chk K && fn.all fun d => d.ok K, fn.map fun d => fnX K (d.at_ K), ts.map fun t => He.dicW K (t.1 K))
def valX (fn : List DefX) (ts : List TabX) (w : World) : AlX := (true, fn.map DefX.val, ts.map fun t => some (He.keysIn w.params t.2))
def SaysX (chk : PySem.W.Frag → Bool) (fn : List DefX) (ts : List TabX) (w : World) (K : PySem.W.Frag) : Prop := obsX chk fn ts K = valX fn ts w
/-- what the checks look at: the module's names, and from there a class's names, a function's code and defaults, a table's values, a property's getter, level by level -/
def refsM (o : Obj) : List Addr := match o.data with
  | .seq its _ => its.toList.flatMap He.refV
  | .dict es _ => es.toList.flatMap fun e => He.refV e.val
  | .func fd => He.refV fd.code ++ He.refV fd.defaults
  | .cls cd => [cd.ns]
  | .fields vs => vs.toList.flatMap He.refV
  | _ => []
def lev (g : Addr → Option Obj) (as : List Addr) : List Addr := as.flatMap fun a => match g a with
  | some o => refsM o
  | none => []
def asL (g : Addr → Option Obj) : Nat → List Addr → List Addr
  | 0, as => as
  | n + 1, as => as ++ asL g n (lev g as)
def hookX (n : Nat) (chk : PySem.W.Frag → Bool) (fn : List DefX) (ts : List TabX) : PySem.W.Hook where
  α := AlX
  obs := fun s => obsX chk fn ts (He.frG s.heap.get? (asL s.heap.get? n [mainGlobals]))
  val := fun w => valX fn ts w
  says := fun w h => ∃ K : PySem.W.Frag, K.In h ∧ SaysX chk fn ts w K
  of := fun _ _ e => ⟨_, He.frG_in, e⟩
  keeps := fun _ _ _ ⟨K, hK, c⟩ k => ⟨K, PySem.W.Frag.In.keeps hK k, c⟩
def obX (n : Nat) (chk : PySem.W.Frag → Bool) (fn : List DefX) (ts : List TabX) (s : PySem.W.SharedT) : AlX := obsX chk fn ts (He.frG (HandSHeadRun.getT s) (asL (HandSHeadRun.getT s) n [mainGlobals]))
theorem obX_eq {n : Nat} {chk : PySem.W.Frag → Bool} {fn : List DefX} {ts : List TabX} (s : PySem.W.SharedT) : obX n chk fn ts s = (hookX n chk fn ts).obs s.abs := by
  have e : HandSHeadRun.getT s = s.abs.heap.get? := funext (HandSHeadRun.getT_eq s)
  unfold obX
  rw [e]
  rfl
section
variable {chk : PySem.W.Frag → Bool} {fn : List DefX} {ts : List TabX} {w : World} {K : PySem.W.Frag}
theorem SaysX.ok_ (c : SaysX chk fn ts w K) : chk K = true := (He.ba (show (chk K && fn.all fun d => d.ok K) = true from congrArg (fun z : AlX => z.1) c)).1
theorem SaysX.def_ (c : SaysX chk fn ts w K) (i : Nat) {d : DefX} (h : fn[i]? = some d := by rfl) : ∃ fd, FunD K d.name d.qual d.params d.body d.scope (d.dfl.map (He.Dv.v K)) [] (d.at_ K) fd := by
  have c2 := (He.ba (show (chk K && fn.all fun d => d.ok K) = true from congrArg (fun z : AlX => z.1) c)).2
  have e : fn.map (fun d => fnX K (d.at_ K)) = fn.map DefX.val := congrArg (fun z : AlX => z.2.1) c
  have e2 : (fn.map fun d => fnX K (d.at_ K))[i]? = (fn.map DefX.val)[i]? := by rw [e]
  rw [List.getElem?_map, List.getElem?_map, h] at e2
  exact DefX.funD (Option.some.inj e2) (List.all_eq_true.mp c2 d (List.mem_of_getElem? h))
theorem SaysX.tab (c : SaysX chk fn ts w K) (i : Nat) {t : TabX} (h : ts[i]? = some t := by rfl) : ∃ es n, KDict K w (t.1 K) es n := by
  have e : ts.map (fun t => He.dicW K (t.1 K)) = ts.map fun t => some (He.keysIn w.params t.2) := congrArg (fun z : AlX => z.2.2) c
  have e2 : (ts.map fun t => He.dicW K (t.1 K))[i]? = (ts.map fun t => some (He.keysIn w.params t.2))[i]? := by rw [e]
  rw [List.getElem?_map, List.getElem?_map, h] at e2
  exact He.dicW_ok (Option.some.inj e2)
end
/-- a tuple at an address; a table's tuple -/
def tupAt (K : PySem.W.Frag) (a : Addr) (vs : List He.Dv) : Bool := match K.lookup a with
  | some ⟨.type "tuple", _, .seq xs _, _⟩ => decide (xs.size ≤ sizeLine) && He.relAll (vs.map (He.Dv.v K)) xs.toList
  | _ => false
def ktB (K : PySem.W.Frag) (p : Addr) (x : Str) (vs : List He.Dv) : Bool := match PySem.W.nsIn K p x with
  | some (some (.ref t)) => tupAt K t vs
  | _ => false
theorem kt_of {K : PySem.W.Frag} {p : Addr} {x : Str} {vs : List He.Dv} {l : List V} (e : vs.map (He.Dv.v K) = l) (h : ktB K p x vs = true) : ∃ t, PySem.W.nsIn K p x = some (some (.ref t)) ∧ ∀ H, SqT K H t l := by
  subst e
  unfold ktB at h
  split at h
  · rename_i t e
    refine ⟨t, e, fun H => ?_⟩
    unfold tupAt at h
    split at h
    · rename_i e2
      obtain ⟨h3, h4⟩ := He.ba h
      exact .inr ⟨_, _, _, e2, rfl, rfl, of_decide_eq_true h3, He.relAll_ok h4⟩
    · cases h
  · cases h
/-- where a property's getter stands -/
def getAd (K : PySem.W.Frag) (p : Addr) : Addr := match PySem.W.recIn K p "property" with
  | some (.ref f :: _) => f
  | _ => 0
theorem getAd_ok {K : PySem.W.Frag} {p : Addr} (h : (match PySem.W.recIn K p "property" with | some (.ref _ :: _) => true | _ => false) = true) : ∃ rs, PySem.W.recIn K p "property" = some (.ref (getAd K p) :: rs) := by
  unfold getAd
  cases e : PySem.W.recIn K p "property" with
  | none =>
    rw [e] at h
    cases h
  | some l =>
    rw [e] at h
    cases l with
    | nil => cases h
    | cons v r =>
      cases v with
      | ref f => exact ⟨r, rfl⟩
      | _ => cases h
/-- an own error class over a built-in base -/
def excX (K : PySem.W.Frag) (C : Addr) (bm : List Value) (newId : String) : Bool := match K.lookup C with
  | some ⟨.type "type", _, .cls cd, sl⟩ => (match cd.mro, sl.toList with
    | .ref C' :: l, [_, _, _, _, some (.builtin n), _] => C' == C && n == newId && !cd.hasDel && cd.hasDict && l == bm
    | _, _ => false)
  | _ => false
theorem excX_ok {K : PySem.W.Frag} {C : Addr} {bm : List Value} {newId : String} (q : excX K C bm newId = true) : ∃ (nm qn : Str) (N : Addr) (bs : List Value) (sn : List Str) (sub : List Value) (ab : Bool) (col : Option Bool) (dd : Option Addr) (k0 k1 k2 k3 k5 : Option Value),
    K.lookup C = some (excClassObj nm qn C N bs bm true sn sub ab col dd k0 k1 k2 k3 k5 newId) := by
  unfold excX at q
  split at q
  · rename_i dd cd sl ho
    split at q
    · rename_i C' l k0 k1 k2 k3 n k5 hm hs
      simp only [Bool.and_eq_true, beq_iff_eq, Bool.not_eq_true'] at q
      obtain ⟨⟨⟨⟨rfl, rfl⟩, hdel⟩, hd⟩, rfl⟩ := q
      obtain ⟨nm, bs, mro, ns, qn, hdd, sn, sub, ab, col, del⟩ := cd
      dsimp only at hm hdel hd
      subst hm hdel hd
      have hsl : sl = #[k0, k1, k2, k3, some (.builtin n), k5] := by
        obtain ⟨l⟩ := sl
        simp only at hs
        rw [hs]
      subst hsl
      exact ⟨nm, qn, ns, bs, sn, sub, ab, col, dd, k0, k1, k2, k3, k5, ho⟩
    · cases q
  · cases q
/-- simple values of the text -/
def dvOf : V → He.Dv
  | .bl b => .bl b
  | .int i => .int i
  | .str x => .str x
  | .ty n => .ty n
  | _ => .non
theorem tup_of {K : PySem.W.Frag} {H : Hp} {a : Addr} {xs : List V} (e : (xs.map dvOf).map (He.Dv.v K) = xs) (h : SqT K H a ((xs.map dvOf).map (He.Dv.v K))) : SqT K H a xs := by
  rw [e] at h
  exact h
def valB (K : PySem.W.Frag) (a : Addr) (x : Str) (v : He.Dv) : Bool := match PySem.W.nsIn K a x with
  | some (some u) => He.relB (v.v K) u
  | _ => false
theorem kd_of {K : PySem.W.Frag} {w : World} {a : Addr} {x : Str} {v : V} {es : Array DictEntry} {n : Nat} (hl : K.lookup a = some ⟨.type "dict", none, .dict es n, #[]⟩) (hk : PySem.W.KeysLit w.params es.toList) (e : (dvOf v).v K = v) (h : valB K a x (dvOf v) = true) : KDct K w a x v := by
  unfold valB at h
  cases q : PySem.W.nsIn K a x with
  | none =>
    rw [q] at h
    cases h
  | some r =>
    rw [q] at h
    cases r with
    | none => cases h
    | some u =>
      have r := He.relB_ok (show He.relB ((dvOf v).v K) u = true from h)
      rw [e] at r
      exact ⟨es, n, u, hl, hk, q, r⟩
end HeX
namespace K10
open PySem PySem.Spec PyProof.Rows L2 TL
def chk0 (K : PySem.W.Frag) : Bool := decide ((PySem.W.nsIn K mainGlobals "parts_of" = some (some (.ref (He.ga K "parts_of")))) ∧
    (PySem.W.nsIn K mainGlobals "blocks_in" = some (some (.ref (He.ga K "blocks_in")))) ∧
    (PySem.W.nsIn K mainGlobals "listed" = some (some (.ref (He.ga K "listed")))) ∧
    (PySem.W.nsIn K mainGlobals "calls_in" = some (some (.ref (He.ga K "calls_in")))) ∧
    (PySem.W.nsIn K mainGlobals "sums_in" = some (some (.ref (He.ga K "sums_in")))) ∧
    (PySem.W.nsIn K mainGlobals "assigned_by" = some (some (.ref (He.ga K "assigned_by")))) ∧
    (PySem.W.nsIn K mainGlobals "locals_of" = some (some (.ref (He.ga K "locals_of")))) ∧
    (PySem.W.nsIn K mainGlobals "uses_in" = some (some (.ref (He.ga K "uses_in")))) ∧
    (PySem.W.nsIn K mainGlobals "uses_of_target" = some (some (.ref (He.ga K "uses_of_target")))) ∧
    (PySem.W.nsIn K mainGlobals "uses_of_sum" = some (some (.ref (He.ga K "uses_of_sum")))) ∧
    (PySem.W.nsIn K mainGlobals "uses_of_variables" = some (some (.ref (He.ga K "uses_of_variables")))) ∧
    (PySem.W.nsIn K mainGlobals "uses_of_kinds" = some (some (.ref (He.ga K "uses_of_kinds")))) ∧
    (PySem.W.nsIn K mainGlobals "uses_of_handlers" = some (some (.ref (He.ga K "uses_of_handlers")))) ∧
    (PySem.W.nsIn K mainGlobals "uses_of_args" = some (some (.ref (He.ga K "uses_of_args")))) ∧
    (PySem.W.nsIn K mainGlobals "uses_of_made" = some (some (.ref (He.ga K "uses_of_made")))) ∧
    (PySem.W.nsIn K mainGlobals "check_sizes" = some (some (.ref (He.ga K "check_sizes")))) ∧
    (PySem.W.nsIn K mainGlobals "largest" = some (some (.ref (He.ga K "largest")))) ∧
    (PySem.W.nsIn K mainGlobals "by_place_in" = some (some (.ref (He.ga K "by_place_in")))) ∧
    (PySem.W.nsIn K mainGlobals "depth_of" = some (some (.ref (He.ga K "depth_of")))) ∧
    (PySem.W.nsIn K mainGlobals "numbers_in" = some (some (.ref (He.ga K "numbers_in")))))
def chk1 (K : PySem.W.Frag) : Bool := decide ((PySem.W.nsIn K mainGlobals "check_names" = some (some (.ref (He.ga K "check_names")))) ∧
    (PySem.W.nsIn K mainGlobals "own_names" = some (some (.ref (He.ga K "own_names")))) ∧
    (PySem.W.nsIn K mainGlobals "check_different" = some (some (.ref (He.ga K "check_different")))) ∧
    (PySem.W.nsIn K mainGlobals "check_known" = some (some (.ref (He.ga K "check_known")))) ∧
    (PySem.W.nsIn K mainGlobals "check_statement" = some (some (.ref (He.ga K "check_statement")))) ∧
    (PySem.W.nsIn K mainGlobals "are_fitting" = some (some (.ref (He.ga K "are_fitting")))) ∧
    (PySem.W.nsIn K mainGlobals "is_barred" = some (some (.ref (He.ga K "is_barred")))) ∧
    (PySem.W.nsIn K mainGlobals "is_integer" = some (some (.ref (He.ga K "is_integer")))) ∧
    (PySem.W.nsIn K mainGlobals "is_word" = some (some (.ref (He.ga K "is_word")))) ∧
    (PySem.W.nsIn K mainGlobals "is_name" = some (some (.ref (He.ga K "is_name")))) ∧
    (PySem.W.nsIn K mainGlobals "is_tree" = some (some (.ref (He.ga K "is_tree")))) ∧
    (PySem.W.nsIn K mainGlobals "is_parted" = some (some (.ref (He.ga K "is_parted")))) ∧
    (PySem.W.nsIn K mainGlobals "are_all" = some (some (.ref (He.ga K "are_all")))) ∧
    (PySem.W.nsIn K mainGlobals "are_names" = some (some (.ref (He.ga K "are_names")))) ∧
    (PySem.W.nsIn K mainGlobals "are_some_names" = some (some (.ref (He.ga K "are_some_names")))) ∧
    (PySem.W.nsIn K mainGlobals "is_keep" = some (some (.ref (He.ga K "is_keep")))) ∧
    (PySem.W.nsIn K mainGlobals "is_sum" = some (some (.ref (He.ga K "is_sum")))) ∧
    (PySem.W.nsIn K mainGlobals "is_term" = some (some (.ref (He.ga K "is_term")))) ∧
    (PySem.W.nsIn K mainGlobals "is_function" = some (some (.ref (He.ga K "is_function")))) ∧
    (PySem.W.nsIn K mainGlobals "is_param" = some (some (.ref (He.ga K "is_param")))))
def chk2 (K : PySem.W.Frag) : Bool := decide ((PySem.W.nsIn K mainGlobals "is_block" = some (some (.ref (He.ga K "is_block")))) ∧
    (PySem.W.nsIn K mainGlobals "is_statement" = some (some (.ref (He.ga K "is_statement")))) ∧
    (PySem.W.nsIn K mainGlobals "is_part" = some (some (.ref (He.ga K "is_part")))) ∧
    (PySem.W.nsIn K mainGlobals "is_handler" = some (some (.ref (He.ga K "is_handler")))) ∧
    (PySem.W.nsIn K mainGlobals "is_target" = some (some (.ref (He.ga K "is_target")))) ∧
    (PySem.W.nsIn K mainGlobals "is_arg" = some (some (.ref (He.ga K "is_arg")))) ∧
    (PySem.W.nsIn K mainGlobals "are_args" = some (some (.ref (He.ga K "are_args")))) ∧
    (PySem.W.nsIn K mainGlobals "is_made" = some (some (.ref (He.ga K "is_made")))) ∧
    (PySem.W.findIn K (.ref (He.ga K "Program")) "__init__" = some (some (.ref (He.ma K (He.ga K "Program") "__init__")))) ∧
    (PySem.W.isFn K (.ref (He.ma K (He.ga K "Program") "__init__")) = true) ∧
    (PySem.W.nsIn K mainGlobals "named_functions" = some (some (.ref (He.ga K "named_functions")))) ∧
    (PySem.W.nsIn K mainGlobals "_law_pool" = some (some (.ref (He.ga K "_law_pool")))) ∧
    (PySem.W.nsIn K mainGlobals "_law_mixed" = some (some (.ref (He.ga K "_law_mixed")))) ∧
    (PySem.W.nsIn K mainGlobals "_law_draw" = some (some (.ref (He.ga K "_law_draw")))) ∧
    (PySem.W.nsIn K mainGlobals "_law_names" = some (some (.ref (He.ga K "_law_names")))) ∧
    (PySem.W.findIn K (.ref (He.ga K "DuplicateName")) "__init__" = some (some (.ref (He.ma K (He.ga K "DuplicateName") "__init__")))) ∧
    (PySem.W.findIn K (.ref (He.ga K "UnknownName")) "__init__" = some (some (.ref (He.ma K (He.ga K "UnknownName") "__init__")))) ∧
    (PySem.W.findIn K (.ref (He.ga K "WrongArguments")) "__init__" = some (some (.ref (He.ma K (He.ga K "WrongArguments") "__init__")))) ∧
    (PySem.W.findIn K (.ref (He.ga K "InvalidFinally")) "__init__" = some (some (.ref (He.ma K (He.ga K "InvalidFinally") "__init__")))) ∧
    (PySem.W.nsIn K mainGlobals "_law_parts" = some (some (.ref (He.ga K "_law_parts")))))
def chk3 (K : PySem.W.Frag) : Bool := decide ((PySem.W.nsIn K mainGlobals "_law_size" = some (some (.ref (He.ga K "_law_size")))) ∧
    (PySem.W.nsIn K mainGlobals "_law_numbered" = some (some (.ref (He.ga K "_law_numbered")))) ∧
    (PySem.W.nsIn K mainGlobals "_law_own_names" = some (some (.ref (He.ga K "_law_own_names")))) ∧
    (PySem.W.nsIn K mainGlobals "_law_pick" = some (some (.ref (He.ga K "_law_pick")))) ∧
    (PySem.W.nsIn K mainGlobals "_law_sum" = some (some (.ref (He.ga K "_law_sum")))) ∧
    (PySem.W.nsIn K mainGlobals "_law_call" = some (some (.ref (He.ga K "_law_call")))) ∧
    (PySem.W.nsIn K mainGlobals "_law_piece" = some (some (.ref (He.ga K "_law_piece")))) ∧
    (PySem.W.nsIn K mainGlobals "_law_twice" = some (some (.ref (He.ga K "_law_twice")))) ∧
    (PySem.W.nsIn K mainGlobals "_law_words_of" = some (some (.ref (He.ga K "_law_words_of")))) ∧
    (PySem.W.nsIn K mainGlobals "_law_of_calls" = some (some (.ref (He.ga K "_law_of_calls")))) ∧
    (PySem.W.nsIn K mainGlobals "_law_errors" = some (some (.ref (He.ga K "_law_errors")))) ∧
    (PySem.W.nsIn K mainGlobals "_law_due" = some (some (.ref (He.ga K "_law_due")))) ∧
    (PySem.W.nsIn K mainGlobals "_law_told" = some (some (.ref (He.ga K "_law_told")))) ∧
    (PySem.W.nsIn K mainGlobals "law" = some (some (.ref (He.ga K "law")))) ∧
    (PySem.W.nsIn K mainGlobals "Program" = some (some (.ref (He.ga K "Program")))) ∧
    (PySem.W.plainGet K (He.ga K "Program") Str.empty = true) ∧
    (PySem.W.hasDictIn K (He.ga K "Program") = true) ∧
    (PySem.W.plainOver K (He.ga K "Program") = true) ∧
    (PySem.W.findIn K (.ref (He.ga K "Program")) "__setattr__" = some (some (.builtin "object.__setattr__"))) ∧
    (PySem.W.makesIn K (He.ga K "Program") = true))
def chk4 (K : PySem.W.Frag) : Bool := decide ((PySem.W.keepIn K (.ref (He.ga K "Program")) = true) ∧
    (PySem.W.findIn K (.ref (He.ga K "Program")) "globals" = some none) ∧
    (PySem.W.findIn K (.ref (He.ga K "Program")) "_tree" = some none) ∧
    (PySem.W.findIn K (.ref (He.ga K "Program")) "_named" = some none) ∧
    (PySem.W.nsIn K mainGlobals "DuplicateName" = some (some (.ref (He.ga K "DuplicateName")))) ∧
    (HeX.excX K (He.ga K "DuplicateName") (.ref (He.ga K "ProgramError") :: PySem.HandSPX.veTail) "ValueError.__new__" = true) ∧
    (PySem.W.findIn K (.ref (He.ga K "DuplicateName")) "__setattr__" = some (some (.builtin "object.__setattr__"))) ∧
    (PySem.W.typeIn K (.ref (He.ga K "DuplicateName")) = some (.type "type")) ∧
    (PySem.W.keepIn K (.ref (He.ga K "DuplicateName")) = true) ∧
    (PySem.W.typeIn K (.ref (He.ma K (He.ga K "DuplicateName") "__init__")) = some (.type "function")) ∧
    (PySem.W.findIn K (.ref (He.ga K "DuplicateName")) "name" = some none) ∧
    (PySem.W.findIn K (.ref (He.ga K "DuplicateName")) "__getattribute__" = some (some (.builtin "BaseException.__getattribute__"))) ∧
    (PySem.W.findIn K (.ref (He.ga K "DuplicateName")) "__getattr__" = some none) ∧
    (PySem.W.findIn K (.ref (He.ga K "DuplicateName")) "__class__" = some (some (.builtin "object.__class__"))) ∧
    (PySem.W.nsIn K mainGlobals "UnknownName" = some (some (.ref (He.ga K "UnknownName")))) ∧
    (HeX.excX K (He.ga K "UnknownName") (.ref (He.ga K "ProgramError") :: PySem.HandSPX.veTail) "ValueError.__new__" = true) ∧
    (PySem.W.findIn K (.ref (He.ga K "UnknownName")) "__setattr__" = some (some (.builtin "object.__setattr__"))) ∧
    (PySem.W.typeIn K (.ref (He.ga K "UnknownName")) = some (.type "type")) ∧
    (PySem.W.keepIn K (.ref (He.ga K "UnknownName")) = true) ∧
    (PySem.W.typeIn K (.ref (He.ma K (He.ga K "UnknownName") "__init__")) = some (.type "function")))
def chk5 (K : PySem.W.Frag) : Bool := decide ((PySem.W.findIn K (.ref (He.ga K "UnknownName")) "name" = some none) ∧
    (PySem.W.findIn K (.ref (He.ga K "UnknownName")) "__getattribute__" = some (some (.builtin "BaseException.__getattribute__"))) ∧
    (PySem.W.findIn K (.ref (He.ga K "UnknownName")) "__getattr__" = some none) ∧
    (PySem.W.findIn K (.ref (He.ga K "UnknownName")) "__class__" = some (some (.builtin "object.__class__"))) ∧
    (PySem.W.nsIn K mainGlobals "WrongArguments" = some (some (.ref (He.ga K "WrongArguments")))) ∧
    (HeX.excX K (He.ga K "WrongArguments") (.ref (He.ga K "ProgramError") :: PySem.HandSPX.veTail) "ValueError.__new__" = true) ∧
    (PySem.W.findIn K (.ref (He.ga K "WrongArguments")) "__setattr__" = some (some (.builtin "object.__setattr__"))) ∧
    (PySem.W.typeIn K (.ref (He.ga K "WrongArguments")) = some (.type "type")) ∧
    (PySem.W.keepIn K (.ref (He.ga K "WrongArguments")) = true) ∧
    (PySem.W.typeIn K (.ref (He.ma K (He.ga K "WrongArguments") "__init__")) = some (.type "function")) ∧
    (PySem.W.findIn K (.ref (He.ga K "WrongArguments")) "place" = some none) ∧
    (PySem.W.findIn K (.ref (He.ga K "WrongArguments")) "__getattribute__" = some (some (.builtin "BaseException.__getattribute__"))) ∧
    (PySem.W.findIn K (.ref (He.ga K "WrongArguments")) "__getattr__" = some none) ∧
    (PySem.W.findIn K (.ref (He.ga K "WrongArguments")) "__class__" = some (some (.builtin "object.__class__"))) ∧
    (PySem.W.nsIn K mainGlobals "InvalidFinally" = some (some (.ref (He.ga K "InvalidFinally")))) ∧
    (HeX.excX K (He.ga K "InvalidFinally") (.ref (He.ga K "ProgramError") :: PySem.HandSPX.veTail) "ValueError.__new__" = true) ∧
    (PySem.W.findIn K (.ref (He.ga K "InvalidFinally")) "__setattr__" = some (some (.builtin "object.__setattr__"))) ∧
    (PySem.W.typeIn K (.ref (He.ga K "InvalidFinally")) = some (.type "type")) ∧
    (PySem.W.keepIn K (.ref (He.ga K "InvalidFinally")) = true) ∧
    (PySem.W.typeIn K (.ref (He.ma K (He.ga K "InvalidFinally") "__init__")) = some (.type "function")))
def chk6 (K : PySem.W.Frag) : Bool := decide ((PySem.W.findIn K (.ref (He.ga K "InvalidFinally")) "place" = some none) ∧
    (PySem.W.findIn K (.ref (He.ga K "InvalidFinally")) "__getattribute__" = some (some (.builtin "BaseException.__getattribute__"))) ∧
    (PySem.W.findIn K (.ref (He.ga K "InvalidFinally")) "__getattr__" = some none) ∧
    (PySem.W.findIn K (.ref (He.ga K "InvalidFinally")) "__class__" = some (some (.builtin "object.__class__"))) ∧
    (PySem.W.nsIn K mainGlobals "ProgramError" = some (some (.ref (He.ga K "ProgramError")))) ∧
    ((PySem.W.clsIn K (He.ga K "ProgramError")).isSome = true) ∧
    (PySem.W.subIn K (.ref (He.ga K "ProgramError")) (.type "BaseException") = some true) ∧
    (PySem.W.typeIn K (.ref (He.ga K "ProgramError")) = some (.type "type")) ∧
    ([He.ga K "DuplicateName", He.ga K "UnknownName", He.ga K "WrongArguments", He.ga K "InvalidFinally", He.ga K "ProgramError"].Nodup) ∧
    (PySem.W.specialIn K (.builtin "object.__class__") "__get__" = some (some (.builtin "getset_descriptor.__get__"))) ∧
    (PySem.W.takesIn K (.builtin "object.__class__") = some true) ∧
    (PySem.W.nsIn K mainGlobals "int" = some none) ∧
    (PySem.W.nsIn K mainGlobals "len" = some none) ∧
    (PySem.W.nsIn K mainGlobals "all" = some none) ∧
    (PySem.W.nsIn K mainGlobals "any" = some none) ∧
    (PySem.W.nsIn K mainGlobals "max" = some none) ∧
    (PySem.W.nsIn K mainGlobals "isinstance" = some none) ∧
    (PySem.W.nsIn K mainGlobals "str" = some none) ∧
    (PySem.W.nsIn K mainGlobals "tuple" = some none) ∧
    (PySem.W.nsIn K mainGlobals "sorted" = some none))
def chk7 (K : PySem.W.Frag) : Bool := decide ((PySem.W.nsIn K mainGlobals "abs" = some none) ∧
    (PySem.W.nsIn K mainGlobals "range" = some none) ∧
    (PySem.W.nsIn K mainGlobals "bool" = some none) ∧
    (PySem.W.nsIn K mainGlobals "list" = some none) ∧
    (PySem.W.nsIn K mainGlobals "sum" = some none) ∧
    (PySem.W.nsIn K mainGlobals "zip" = some none) ∧
    (PySem.W.nsIn K mainGlobals "enumerate" = some none) ∧
    (PySem.W.nsIn K mainGlobals "set" = some none) ∧
    ((He.Fa.str "LETTERS" LET).ok K = true) ∧
    ((He.Fa.str "DIGITS" DIG).ok K = true) ∧
    ((He.Fa.int "MOST_GLOBALS" (4)).ok K = true) ∧
    ((He.Fa.int "MOST_KINDS" (3)).ok K = true) ∧
    ((He.Fa.int "MOST_KEEPS" (4)).ok K = true) ∧
    ((He.Fa.int "MOST_FUNCTIONS" (6)).ok K = true) ∧
    ((He.Fa.int "MOST_PARAMETERS" (3)).ok K = true) ∧
    ((He.Fa.int "MOST_BY_PLACE" (2)).ok K = true) ∧
    ((He.Fa.int "MOST_LOCALS" (3)).ok K = true) ∧
    ((He.Fa.int "MOST_STATEMENTS" (60)).ok K = true) ∧
    ((He.Fa.int "MOST_NESTING" (6)).ok K = true) ∧
    ((He.Fa.int "LARGEST_NUMBER" (999999999999)).ok K = true))
def chk8 (K : PySem.W.Frag) : Bool := decide (((He.Fa.int "MOST_NESTED" (30)).ok K = true) ∧
    (PySem.W.nsIn K mainGlobals "KEYWORDS" = some (some (.ref (He.ga K "KEYWORDS")))) ∧
    (He.tupB K "KEYWORDS" ((kws).map HeX.dvOf) = true) ∧
    (PySem.W.nsIn K mainGlobals "BARRED_FROM_FINALLY" = some (some (.ref (He.ga K "BARRED_FROM_FINALLY")))) ∧
    (He.tupB K "BARRED_FROM_FINALLY" ((bars).map HeX.dvOf) = true) ∧
    (PySem.W.nsIn K mainGlobals "SHAPES" = some (some (.ref (He.ga K "SHAPES")))) ∧
    (HeX.ktB K (He.ga K "SHAPES") "set" [.str "variable", .str "sum"] = true) ∧
    (HeX.ktB K (He.ga K "SHAPES") "input" [.str "variable"] = true) ∧
    (HeX.ktB K (He.ga K "SHAPES") "call" [.str "target", .str "function", .str "args"] = true) ∧
    (HeX.ktB K (He.ga K "SHAPES") "if" [.str "block", .str "block"] = true) ∧
    (HeX.ktB K (He.ga K "SHAPES") "while" [.str "block"] = true) ∧
    (HeX.ktB K (He.ga K "SHAPES") "risk" [.str "kinds"] = true) ∧
    (HeX.ktB K (He.ga K "SHAPES") "raise" [.str "kind"] = true) ∧
    (HeX.ktB K (He.ga K "SHAPES") "try" [.str "block", .str "handlers", .str "block"] = true) ∧
    (HeX.ktB K (He.ga K "SHAPES") "undo" [.str "variables", .str "block"] = true) ∧
    (HeX.ktB K (He.ga K "SHAPES") "with" [.str "made", .str "made", .str "swallowed", .str "block"] = true) ∧
    (HeX.ktB K (He.ga K "SHAPES") "return" [.str "sum"] = true) ∧
    (PySem.W.nsIn K mainGlobals "USES" = some (some (.ref (He.ga K "USES")))) ∧
    (PySem.W.nsIn K (He.ga K "USES") "target" = some (some (.ref (He.ga K "uses_of_target")))) ∧
    (PySem.W.nsIn K (He.ga K "USES") "sum" = some (some (.ref (He.ga K "uses_of_sum")))))
def chk9 (K : PySem.W.Frag) : Bool := decide ((PySem.W.nsIn K (He.ga K "USES") "variables" = some (some (.ref (He.ga K "uses_of_variables")))) ∧
    (PySem.W.nsIn K (He.ga K "USES") "kinds" = some (some (.ref (He.ga K "uses_of_kinds")))) ∧
    (PySem.W.nsIn K (He.ga K "USES") "swallowed" = some (some (.ref (He.ga K "uses_of_kinds")))) ∧
    (PySem.W.nsIn K (He.ga K "USES") "handlers" = some (some (.ref (He.ga K "uses_of_handlers")))) ∧
    (PySem.W.nsIn K (He.ga K "USES") "args" = some (some (.ref (He.ga K "uses_of_args")))) ∧
    (PySem.W.nsIn K (He.ga K "USES") "made" = some (some (.ref (He.ga K "uses_of_made")))) ∧
    (PySem.W.nsIn K (He.ga K "USES") "block" = some none) ∧
    (PySem.W.nsIn K mainGlobals "FORMS" = some (some (.ref (He.ga K "FORMS")))) ∧
    (PySem.W.nsIn K (He.ga K "FORMS") "variable" = some (some (.ref (He.ga K "is_name")))) ∧
    (PySem.W.nsIn K (He.ga K "FORMS") "kind" = some (some (.ref (He.ga K "is_name")))) ∧
    (PySem.W.nsIn K (He.ga K "FORMS") "function" = some (some (.ref (He.ga K "is_name")))) ∧
    (PySem.W.nsIn K (He.ga K "FORMS") "target" = some (some (.ref (He.ga K "is_target")))) ∧
    (PySem.W.nsIn K (He.ga K "FORMS") "sum" = some (some (.ref (He.ga K "is_sum")))) ∧
    (PySem.W.nsIn K (He.ga K "FORMS") "variables" = some (some (.ref (He.ga K "are_some_names")))) ∧
    (PySem.W.nsIn K (He.ga K "FORMS") "kinds" = some (some (.ref (He.ga K "are_some_names")))) ∧
    (PySem.W.nsIn K (He.ga K "FORMS") "swallowed" = some (some (.ref (He.ga K "are_names")))) ∧
    (PySem.W.nsIn K (He.ga K "FORMS") "args" = some (some (.ref (He.ga K "are_args")))) ∧
    (PySem.W.nsIn K (He.ga K "FORMS") "made" = some (some (.ref (He.ga K "is_made")))))
def chk (K : PySem.W.Frag) : Bool := chk0 K && (chk1 K && (chk2 K && (chk3 K && (chk4 K && (chk5 K && (chk6 K && (chk7 K && (chk8 K && (chk9 K)))))))))
def dX_parts_of : HeX.DefX := ⟨fun K => He.ga K "parts_of", "parts_of", "parts_of", defArgs s_parts_of, defBody s_parts_of, defScope s_parts_of, []⟩
def dX_blocks_in : HeX.DefX := ⟨fun K => He.ga K "blocks_in", "blocks_in", "blocks_in", defArgs s_blocks_in, defBody s_blocks_in, defScope s_blocks_in, []⟩
def dX_listed : HeX.DefX := ⟨fun K => He.ga K "listed", "listed", "listed", defArgs s_listed, defBody s_listed, defScope s_listed, []⟩
def dX_calls_in : HeX.DefX := ⟨fun K => He.ga K "calls_in", "calls_in", "calls_in", defArgs s_calls_in, defBody s_calls_in, defScope s_calls_in, []⟩
def dX_sums_in : HeX.DefX := ⟨fun K => He.ga K "sums_in", "sums_in", "sums_in", defArgs s_sums_in, defBody s_sums_in, defScope s_sums_in, []⟩
def dX_assigned_by : HeX.DefX := ⟨fun K => He.ga K "assigned_by", "assigned_by", "assigned_by", defArgs s_assigned_by, defBody s_assigned_by, defScope s_assigned_by, []⟩
def dX_locals_of : HeX.DefX := ⟨fun K => He.ga K "locals_of", "locals_of", "locals_of", defArgs s_locals_of, defBody s_locals_of, defScope s_locals_of, []⟩
def dX_uses_in : HeX.DefX := ⟨fun K => He.ga K "uses_in", "uses_in", "uses_in", defArgs s_uses_in, defBody s_uses_in, defScope s_uses_in, []⟩
def dX_uses_of_target : HeX.DefX := ⟨fun K => He.ga K "uses_of_target", "uses_of_target", "uses_of_target", defArgs s_uses_of_target, defBody s_uses_of_target, defScope s_uses_of_target, []⟩
def dX_uses_of_sum : HeX.DefX := ⟨fun K => He.ga K "uses_of_sum", "uses_of_sum", "uses_of_sum", defArgs s_uses_of_sum, defBody s_uses_of_sum, defScope s_uses_of_sum, []⟩
def dX_uses_of_variables : HeX.DefX := ⟨fun K => He.ga K "uses_of_variables", "uses_of_variables", "uses_of_variables", defArgs s_uses_of_variables, defBody s_uses_of_variables, defScope s_uses_of_variables, []⟩
def dX_uses_of_kinds : HeX.DefX := ⟨fun K => He.ga K "uses_of_kinds", "uses_of_kinds", "uses_of_kinds", defArgs s_uses_of_kinds, defBody s_uses_of_kinds, defScope s_uses_of_kinds, []⟩
def dX_uses_of_handlers : HeX.DefX := ⟨fun K => He.ga K "uses_of_handlers", "uses_of_handlers", "uses_of_handlers", defArgs s_uses_of_handlers, defBody s_uses_of_handlers, defScope s_uses_of_handlers, []⟩
def dX_uses_of_args : HeX.DefX := ⟨fun K => He.ga K "uses_of_args", "uses_of_args", "uses_of_args", defArgs s_uses_of_args, defBody s_uses_of_args, defScope s_uses_of_args, []⟩
def dX_uses_of_made : HeX.DefX := ⟨fun K => He.ga K "uses_of_made", "uses_of_made", "uses_of_made", defArgs s_uses_of_made, defBody s_uses_of_made, defScope s_uses_of_made, []⟩
def dX_check_sizes : HeX.DefX := ⟨fun K => He.ga K "check_sizes", "check_sizes", "check_sizes", defArgs s_check_sizes, defBody s_check_sizes, defScope s_check_sizes, []⟩
def dX_largest : HeX.DefX := ⟨fun K => He.ga K "largest", "largest", "largest", defArgs s_largest, defBody s_largest, defScope s_largest, []⟩
def dX_by_place_in : HeX.DefX := ⟨fun K => He.ga K "by_place_in", "by_place_in", "by_place_in", defArgs s_by_place_in, defBody s_by_place_in, defScope s_by_place_in, []⟩
def dX_depth_of : HeX.DefX := ⟨fun K => He.ga K "depth_of", "depth_of", "depth_of", defArgs s_depth_of, defBody s_depth_of, defScope s_depth_of, []⟩
def dX_numbers_in : HeX.DefX := ⟨fun K => He.ga K "numbers_in", "numbers_in", "numbers_in", defArgs s_numbers_in, defBody s_numbers_in, defScope s_numbers_in, []⟩
def dX_check_names : HeX.DefX := ⟨fun K => He.ga K "check_names", "check_names", "check_names", defArgs s_check_names, defBody s_check_names, defScope s_check_names, []⟩
def dX_own_names : HeX.DefX := ⟨fun K => He.ga K "own_names", "own_names", "own_names", defArgs s_own_names, defBody s_own_names, defScope s_own_names, []⟩
def dX_check_different : HeX.DefX := ⟨fun K => He.ga K "check_different", "check_different", "check_different", defArgs s_check_different, defBody s_check_different, defScope s_check_different, []⟩
def dX_check_known : HeX.DefX := ⟨fun K => He.ga K "check_known", "check_known", "check_known", defArgs s_check_known, defBody s_check_known, defScope s_check_known, []⟩
def dX_check_statement : HeX.DefX := ⟨fun K => He.ga K "check_statement", "check_statement", "check_statement", defArgs s_check_statement, defBody s_check_statement, defScope s_check_statement, []⟩
def dX_are_fitting : HeX.DefX := ⟨fun K => He.ga K "are_fitting", "are_fitting", "are_fitting", defArgs s_are_fitting, defBody s_are_fitting, defScope s_are_fitting, []⟩
def dX_is_barred : HeX.DefX := ⟨fun K => He.ga K "is_barred", "is_barred", "is_barred", defArgs s_is_barred, defBody s_is_barred, defScope s_is_barred, []⟩
def dX_is_integer : HeX.DefX := ⟨fun K => He.ga K "is_integer", "is_integer", "is_integer", defArgs s_is_integer, defBody s_is_integer, defScope s_is_integer, []⟩
def dX_is_word : HeX.DefX := ⟨fun K => He.ga K "is_word", "is_word", "is_word", defArgs s_is_word, defBody s_is_word, defScope s_is_word, []⟩
def dX_is_name : HeX.DefX := ⟨fun K => He.ga K "is_name", "is_name", "is_name", defArgs s_is_name, defBody s_is_name, defScope s_is_name, []⟩
def dX_is_tree : HeX.DefX := ⟨fun K => He.ga K "is_tree", "is_tree", "is_tree", defArgs s_is_tree, defBody s_is_tree, defScope s_is_tree, []⟩
def dX_is_parted : HeX.DefX := ⟨fun K => He.ga K "is_parted", "is_parted", "is_parted", defArgs s_is_parted, defBody s_is_parted, defScope s_is_parted, []⟩
def dX_are_all : HeX.DefX := ⟨fun K => He.ga K "are_all", "are_all", "are_all", defArgs s_are_all, defBody s_are_all, defScope s_are_all, []⟩
def dX_are_names : HeX.DefX := ⟨fun K => He.ga K "are_names", "are_names", "are_names", defArgs s_are_names, defBody s_are_names, defScope s_are_names, []⟩
def dX_are_some_names : HeX.DefX := ⟨fun K => He.ga K "are_some_names", "are_some_names", "are_some_names", defArgs s_are_some_names, defBody s_are_some_names, defScope s_are_some_names, []⟩
def dX_is_keep : HeX.DefX := ⟨fun K => He.ga K "is_keep", "is_keep", "is_keep", defArgs s_is_keep, defBody s_is_keep, defScope s_is_keep, []⟩
def dX_is_sum : HeX.DefX := ⟨fun K => He.ga K "is_sum", "is_sum", "is_sum", defArgs s_is_sum, defBody s_is_sum, defScope s_is_sum, []⟩
def dX_is_term : HeX.DefX := ⟨fun K => He.ga K "is_term", "is_term", "is_term", defArgs s_is_term, defBody s_is_term, defScope s_is_term, []⟩
def dX_is_function : HeX.DefX := ⟨fun K => He.ga K "is_function", "is_function", "is_function", defArgs s_is_function, defBody s_is_function, defScope s_is_function, []⟩
def dX_is_param : HeX.DefX := ⟨fun K => He.ga K "is_param", "is_param", "is_param", defArgs s_is_param, defBody s_is_param, defScope s_is_param, []⟩
def dX_is_block : HeX.DefX := ⟨fun K => He.ga K "is_block", "is_block", "is_block", defArgs s_is_block, defBody s_is_block, defScope s_is_block, []⟩
def dX_is_statement : HeX.DefX := ⟨fun K => He.ga K "is_statement", "is_statement", "is_statement", defArgs s_is_statement, defBody s_is_statement, defScope s_is_statement, []⟩
def dX_is_part : HeX.DefX := ⟨fun K => He.ga K "is_part", "is_part", "is_part", defArgs s_is_part, defBody s_is_part, defScope s_is_part, []⟩
def dX_is_handler : HeX.DefX := ⟨fun K => He.ga K "is_handler", "is_handler", "is_handler", defArgs s_is_handler, defBody s_is_handler, defScope s_is_handler, []⟩
def dX_is_target : HeX.DefX := ⟨fun K => He.ga K "is_target", "is_target", "is_target", defArgs s_is_target, defBody s_is_target, defScope s_is_target, []⟩
def dX_is_arg : HeX.DefX := ⟨fun K => He.ga K "is_arg", "is_arg", "is_arg", defArgs s_is_arg, defBody s_is_arg, defScope s_is_arg, []⟩
def dX_are_args : HeX.DefX := ⟨fun K => He.ga K "are_args", "are_args", "are_args", defArgs s_are_args, defBody s_are_args, defScope s_are_args, []⟩
def dX_is_made : HeX.DefX := ⟨fun K => He.ga K "is_made", "is_made", "is_made", defArgs s_is_made, defBody s_is_made, defScope s_is_made, []⟩
def dX_Program___init__ : HeX.DefX := ⟨fun K => He.ma K (He.ga K "Program") "__init__", "__init__", "Program.__init__", defArgs s_Program___init__, defBody s_Program___init__, defScope s_Program___init__, []⟩
def dX_named_functions : HeX.DefX := ⟨fun K => He.ga K "named_functions", "named_functions", "named_functions", defArgs s_named_functions, defBody s_named_functions, defScope s_named_functions, []⟩
def dX__law_pool : HeX.DefX := ⟨fun K => He.ga K "_law_pool", "_law_pool", "_law_pool", defArgs s__law_pool, defBody s__law_pool, defScope s__law_pool, []⟩
def dX__law_mixed : HeX.DefX := ⟨fun K => He.ga K "_law_mixed", "_law_mixed", "_law_mixed", defArgs s__law_mixed, defBody s__law_mixed, defScope s__law_mixed, []⟩
def dX__law_draw : HeX.DefX := ⟨fun K => He.ga K "_law_draw", "_law_draw", "_law_draw", defArgs s__law_draw, defBody s__law_draw, defScope s__law_draw, []⟩
def dX__law_names : HeX.DefX := ⟨fun K => He.ga K "_law_names", "_law_names", "_law_names", defArgs s__law_names, defBody s__law_names, defScope s__law_names, []⟩
def dX_DuplicateName___init__ : HeX.DefX := ⟨fun K => He.ma K (He.ga K "DuplicateName") "__init__", "__init__", "DuplicateName.__init__", defArgs s_DuplicateName___init__, defBody s_DuplicateName___init__, defScope s_DuplicateName___init__, []⟩
def dX_UnknownName___init__ : HeX.DefX := ⟨fun K => He.ma K (He.ga K "UnknownName") "__init__", "__init__", "UnknownName.__init__", defArgs s_UnknownName___init__, defBody s_UnknownName___init__, defScope s_UnknownName___init__, []⟩
def dX_WrongArguments___init__ : HeX.DefX := ⟨fun K => He.ma K (He.ga K "WrongArguments") "__init__", "__init__", "WrongArguments.__init__", defArgs s_WrongArguments___init__, defBody s_WrongArguments___init__, defScope s_WrongArguments___init__, []⟩
def dX_InvalidFinally___init__ : HeX.DefX := ⟨fun K => He.ma K (He.ga K "InvalidFinally") "__init__", "__init__", "InvalidFinally.__init__", defArgs s_InvalidFinally___init__, defBody s_InvalidFinally___init__, defScope s_InvalidFinally___init__, []⟩
def dX__law_parts : HeX.DefX := ⟨fun K => He.ga K "_law_parts", "_law_parts", "_law_parts", defArgs s__law_parts, defBody s__law_parts, defScope s__law_parts, []⟩
def dX__law_size : HeX.DefX := ⟨fun K => He.ga K "_law_size", "_law_size", "_law_size", defArgs s__law_size, defBody s__law_size, defScope s__law_size, []⟩
def dX__law_numbered : HeX.DefX := ⟨fun K => He.ga K "_law_numbered", "_law_numbered", "_law_numbered", defArgs s__law_numbered, defBody s__law_numbered, defScope s__law_numbered, []⟩
def dX__law_own_names : HeX.DefX := ⟨fun K => He.ga K "_law_own_names", "_law_own_names", "_law_own_names", defArgs s__law_own_names, defBody s__law_own_names, defScope s__law_own_names, []⟩
def dX__law_pick : HeX.DefX := ⟨fun K => He.ga K "_law_pick", "_law_pick", "_law_pick", defArgs s__law_pick, defBody s__law_pick, defScope s__law_pick, []⟩
def dX__law_sum : HeX.DefX := ⟨fun K => He.ga K "_law_sum", "_law_sum", "_law_sum", defArgs s__law_sum, defBody s__law_sum, defScope s__law_sum, []⟩
def dX__law_call : HeX.DefX := ⟨fun K => He.ga K "_law_call", "_law_call", "_law_call", defArgs s__law_call, defBody s__law_call, defScope s__law_call, []⟩
def dX__law_piece : HeX.DefX := ⟨fun K => He.ga K "_law_piece", "_law_piece", "_law_piece", defArgs s__law_piece, defBody s__law_piece, defScope s__law_piece, []⟩
def dX__law_twice : HeX.DefX := ⟨fun K => He.ga K "_law_twice", "_law_twice", "_law_twice", defArgs s__law_twice, defBody s__law_twice, defScope s__law_twice, []⟩
def dX__law_words_of : HeX.DefX := ⟨fun K => He.ga K "_law_words_of", "_law_words_of", "_law_words_of", defArgs s__law_words_of, defBody s__law_words_of, defScope s__law_words_of, []⟩
def dX__law_of_calls : HeX.DefX := ⟨fun K => He.ga K "_law_of_calls", "_law_of_calls", "_law_of_calls", defArgs s__law_of_calls, defBody s__law_of_calls, defScope s__law_of_calls, []⟩
def dX__law_errors : HeX.DefX := ⟨fun K => He.ga K "_law_errors", "_law_errors", "_law_errors", defArgs s__law_errors, defBody s__law_errors, defScope s__law_errors, []⟩
def dX__law_due : HeX.DefX := ⟨fun K => He.ga K "_law_due", "_law_due", "_law_due", defArgs s__law_due, defBody s__law_due, defScope s__law_due, []⟩
def dX__law_told : HeX.DefX := ⟨fun K => He.ga K "_law_told", "_law_told", "_law_told", defArgs s__law_told, defBody s__law_told, defScope s__law_told, []⟩
def dX_law : HeX.DefX := ⟨fun K => He.ga K "law", "law", "law", defArgs s_law, defBody s_law, defScope s_law, []⟩
def fnX0 : List HeX.DefX := [dX_parts_of, dX_blocks_in, dX_listed, dX_calls_in, dX_sums_in, dX_assigned_by, dX_locals_of, dX_uses_in, dX_uses_of_target, dX_uses_of_sum, dX_uses_of_variables, dX_uses_of_kinds, dX_uses_of_handlers, dX_uses_of_args, dX_uses_of_made, dX_check_sizes, dX_largest, dX_by_place_in, dX_depth_of, dX_numbers_in]
def fnX1 : List HeX.DefX := [dX_check_names, dX_own_names, dX_check_different, dX_check_known, dX_check_statement, dX_are_fitting, dX_is_barred, dX_is_integer, dX_is_word, dX_is_name, dX_is_tree, dX_is_parted, dX_are_all, dX_are_names, dX_are_some_names, dX_is_keep, dX_is_sum, dX_is_term, dX_is_function, dX_is_param]
def fnX2 : List HeX.DefX := [dX_is_block, dX_is_statement, dX_is_part, dX_is_handler, dX_is_target, dX_is_arg, dX_are_args, dX_is_made, dX_Program___init__, dX_named_functions, dX__law_pool, dX__law_mixed, dX__law_draw, dX__law_names, dX_DuplicateName___init__, dX_UnknownName___init__, dX_WrongArguments___init__, dX_InvalidFinally___init__, dX__law_parts, dX__law_size]
def fnX3 : List HeX.DefX := [dX__law_numbered, dX__law_own_names, dX__law_pick, dX__law_sum, dX__law_call, dX__law_piece, dX__law_twice, dX__law_words_of, dX__law_of_calls, dX__law_errors, dX__law_due, dX__law_told, dX_law]
def fnsX : List HeX.DefX := fnX0 ++ (fnX1 ++ (fnX2 ++ (fnX3)))
def tabL : List HeX.TabX := [(fun K => He.ga K "SHAPES", ["set", "input", "call", "if", "while", "risk", "raise", "try", "undo", "with", "return"]), (fun K => He.ga K "USES", ["target", "sum", "variables", "kinds", "swallowed", "handlers", "args", "made"]), (fun K => He.ga K "FORMS", ["variable", "kind", "function", "target", "sum", "variables", "kinds", "swallowed", "args", "made"])]
def nmX0 : List PySem.Str := ["_wall", "ProgramError", "InvalidText", "InvalidSyntax", "InvalidTree", "DuplicateName", "UnknownName", "WrongArguments", "InvalidFinally", "TooLarge", "UnknownFunction", "SHAPES", "parts_of", "blocks_in", "listed", "calls_in", "sums_in", "assigned_by", "locals_of", "uses_in", "uses_of_target", "uses_of_sum", "uses_of_variables", "uses_of_kinds", "uses_of_handlers", "uses_of_args", "uses_of_made", "USES", "MOST_GLOBALS", "MOST_KINDS"]
def nmX1 : List PySem.Str := ["MOST_KEEPS", "MOST_FUNCTIONS", "MOST_PARAMETERS", "MOST_BY_PLACE", "MOST_LOCALS", "MOST_STATEMENTS", "MOST_NESTING", "LARGEST_NUMBER", "BARRED_FROM_FINALLY", "check_sizes", "largest", "by_place_in", "depth_of", "numbers_in", "check_names", "own_names", "check_different", "check_known", "check_statement", "are_fitting", "is_barred", "is_integer", "LETTERS", "DIGITS", "SIGNS", "BLANKS", "KEYWORDS", "NAME", "NUMBER", "WRONG"]
def nmX2 : List PySem.Str := ["END", "is_word", "is_number", "kind_of", "run_end", "tokens_of", "Tokens", "MOST_DIGITS", "MOST_NESTED", "is_name", "parse", "read_declared", "read_function", "read_param", "read_listed", "read_names", "read_block", "read_statement", "read_named", "read_call_to", "read_call", "read_arg", "read_risk", "read_raise", "read_return", "read_if", "read_while", "read_undo", "read_try", "read_handler"]
def nmX3 : List PySem.Str := ["read_with", "PLAIN", "NESTING", "read_expression", "read_sign", "read_term", "read_number", "is_tree", "is_parted", "are_all", "are_names", "are_some_names", "is_keep", "is_sum", "is_term", "is_function", "is_param", "is_block", "is_statement", "is_part", "is_handler", "is_target", "is_arg", "are_args", "is_made", "FORMS", "Program", "named_functions", "_law_pool", "_law_mixed"]
def nmX4 : List PySem.Str := ["_law_draw", "_law_names", "_law_expression", "_law_parts", "_law_size", "_law_numbered", "_law_own_names", "_law_callees", "_law_reached", "_law_pick", "_law_sum", "_law_call", "_law_piece", "_law_twice", "_law_words_of", "_law_of_calls", "_law_errors", "_law_due", "_law_told"]
def nmL : List PySem.Str := nmX0 ++ (nmX1 ++ (nmX2 ++ (nmX3 ++ (nmX4))))
abbrev R : PySem.W.OpenRow := PySem.W.OpenLaw.row PySem.Challenge.rw_allornothing_k10_errors_of_names
abbrev hk : PySem.W.Hook := HeX.hookX 6 chk fnsX tabL
/-- what the checks look at, behind the run -/
def kOf (s : PySem.W.SharedT) : PySem.W.Frag := He.frG (HandSHeadRun.getT s) (HeX.asL (HandSHeadRun.getT s) 6 [mainGlobals])
open PySem.W in
theorem rl0 (w : World) (os : OsState) : (HandSHeadRun.endF (HandSHeadRun.stepQ (HandSHeadRun.denQ HandSHeadRun.tabQ) R.prog (World.withFollow w "special-get-raises" false)) 14000 R.prog (World.withFollow w "special-get-raises" false) os).map (fun s => HandSHeadRun.looksF R.prog (boot_heap (World.withFollow w "special-get-raises" false).params) s.abs) = some true := by kernel_rfl
open PySem.W in
theorem rs0 (w : World) (os : OsState) : (HandSHeadRun.endF (HandSHeadRun.stepQ (HandSHeadRun.denQ HandSHeadRun.tabQ) R.prog (World.withFollow w "special-get-raises" false)) 14000 R.prog (World.withFollow w "special-get-raises" false) os).map (fun s => HandSHeadRun.seenQ (PySem.W.view R.prog [148]) nmL (PySem.importedModules R.prog.main.body) (fun s => PySem.W.xlAt (PySem.W.view R.prog [148]) [] s && PySem.W.recOk R.toRowW.records s) s.abs) = some (PySem.W.openGood (PySem.W.view R.prog [148]) nmL) := by kernel_rfl
open PySem.W in
theorem rc0_0 (w : World) (os : OsState) : (HandSHeadRun.endF (HandSHeadRun.stepQ (HandSHeadRun.denQ HandSHeadRun.tabQ) R.prog (World.withFollow w "special-get-raises" false)) 14000 R.prog (World.withFollow w "special-get-raises" false) os).map (fun s => (chk0 (kOf s), chk1 (kOf s), chk2 (kOf s), chk3 (kOf s), chk4 (kOf s), chk5 (kOf s), chk6 (kOf s), chk7 (kOf s), chk8 (kOf s), chk9 (kOf s))) = some (true, true, true, true, true, true, true, true, true, true) := by kernel_rfl
open PySem.W in
theorem rd0_0 (w : World) (os : OsState) : (HandSHeadRun.endF (HandSHeadRun.stepQ (HandSHeadRun.denQ HandSHeadRun.tabQ) R.prog (World.withFollow w "special-get-raises" false)) 14000 R.prog (World.withFollow w "special-get-raises" false) os).map (fun s => (((fnX0.all fun d => d.ok (kOf s)), fnX0.map fun d => HeX.fnX (kOf s) (d.at_ (kOf s))), ((fnX1.all fun d => d.ok (kOf s)), fnX1.map fun d => HeX.fnX (kOf s) (d.at_ (kOf s))), ((fnX2.all fun d => d.ok (kOf s)), fnX2.map fun d => HeX.fnX (kOf s) (d.at_ (kOf s))), ((fnX3.all fun d => d.ok (kOf s)), fnX3.map fun d => HeX.fnX (kOf s) (d.at_ (kOf s))))) = some ((true, fnX0.map HeX.DefX.val), (true, fnX1.map HeX.DefX.val), (true, fnX2.map HeX.DefX.val), (true, fnX3.map HeX.DefX.val)) := by kernel_rfl
open PySem.W in
theorem rt0 (w : World) (os : OsState) : (HandSHeadRun.endF (HandSHeadRun.stepQ (HandSHeadRun.denQ HandSHeadRun.tabQ) R.prog (World.withFollow w "special-get-raises" false)) 14000 R.prog (World.withFollow w "special-get-raises" false) os).map (fun s => tabL.map fun t => He.dicW (kOf s) (t.1 (kOf s))) = some (tabL.map fun t => some (He.keysIn (World.withFollow w "special-get-raises" false).params t.2)) := by kernel_rfl
open PySem.W in
theorem run0 (w : World) : HandSHeadRun.RunEq R (PySem.W.view R.prog [148]) hk (HeX.obX 6 chk fnsX tabL) 14000 nmL (World.withFollow w "special-get-raises" false) := by
  intro os
  obtain ⟨s, hs, hl⟩ := Option.map_eq_some_iff.mp (rl0 w os)
  have h_rs0 := rs0 w os
  rw [hs] at h_rs0
  replace h_rs0 := Option.some.inj h_rs0
  have h_rc0_0 := rc0_0 w os
  rw [hs] at h_rc0_0
  replace h_rc0_0 := Option.some.inj h_rc0_0
  have h_rd0_0 := rd0_0 w os
  rw [hs] at h_rd0_0
  replace h_rd0_0 := Option.some.inj h_rd0_0
  have h_rt0 := rt0 w os
  rw [hs] at h_rt0
  replace h_rt0 := Option.some.inj h_rt0
  have c0 : chk0 (kOf s) = true := congrArg (fun z => z.1) h_rc0_0
  have c1 : chk1 (kOf s) = true := congrArg (fun z => z.2.1) h_rc0_0
  have c2 : chk2 (kOf s) = true := congrArg (fun z => z.2.2.1) h_rc0_0
  have c3 : chk3 (kOf s) = true := congrArg (fun z => z.2.2.2.1) h_rc0_0
  have c4 : chk4 (kOf s) = true := congrArg (fun z => z.2.2.2.2.1) h_rc0_0
  have c5 : chk5 (kOf s) = true := congrArg (fun z => z.2.2.2.2.2.1) h_rc0_0
  have c6 : chk6 (kOf s) = true := congrArg (fun z => z.2.2.2.2.2.2.1) h_rc0_0
  have c7 : chk7 (kOf s) = true := congrArg (fun z => z.2.2.2.2.2.2.2.1) h_rc0_0
  have c8 : chk8 (kOf s) = true := congrArg (fun z => z.2.2.2.2.2.2.2.2.1) h_rc0_0
  have c9 : chk9 (kOf s) = true := congrArg (fun z => z.2.2.2.2.2.2.2.2.2) h_rc0_0
  have d0 := congrArg (fun z => (z.1).1) h_rd0_0
  have e0 := congrArg (fun z => (z.1).2) h_rd0_0
  have d1 := congrArg (fun z => (z.2.1).1) h_rd0_0
  have e1 := congrArg (fun z => (z.2.1).2) h_rd0_0
  have d2 := congrArg (fun z => (z.2.2.1).1) h_rd0_0
  have e2 := congrArg (fun z => (z.2.2.1).2) h_rd0_0
  have d3 := congrArg (fun z => (z.2.2.2).1) h_rd0_0
  have e3 := congrArg (fun z => (z.2.2.2).2) h_rd0_0
  have ck : chk (kOf s) = true := by
    unfold chk
    rw [c0, c1, c2, c3, c4, c5, c6, c7, c8, c9]
    rfl
  have dk : (fnsX.all fun d => d.ok (kOf s)) = true := by
    unfold fnsX
    simp only [List.all_append, Bool.and_eq_true]
    exact ⟨d0, d1, d2, d3⟩
  have ek : (fnsX.map fun d => HeX.fnX (kOf s) (d.at_ (kOf s))) = fnsX.map HeX.DefX.val := by
    unfold fnsX
    simp only [List.map_append]
    exact congr (congrArg (fun a b => a ++ b) e0) (congr (congrArg (fun a b => a ++ b) e1) (congr (congrArg (fun a b => a ++ b) e2) (e3)))
  have ob : HeX.obX 6 chk fnsX tabL s = HeX.valX fnsX tabL (World.withFollow w "special-get-raises" false) := by
    show (chk (kOf s) && fnsX.all fun d => d.ok (kOf s), fnsX.map fun d => HeX.fnX (kOf s) (d.at_ (kOf s)), tabL.map fun t => He.dicW (kOf s) (t.1 (kOf s))) = _
    rw [ck, dk, ek]
    exact congrArg (fun z => (true && true, fnsX.map HeX.DefX.val, z)) h_rt0
  rw [hs]
  show some (_, _, _) = some _
  rw [hl, ob]
  exact congrArg (fun z => some (true, z, HeX.valX fnsX tabL (World.withFollow w "special-get-raises" false))) h_rs0
open PySem.W in
theorem rl1 (w : World) (os : OsState) : (HandSHeadRun.endF (HandSHeadRun.stepQ (HandSHeadRun.denQ HandSHeadRun.tabQ) R.prog (World.withFollow w "special-get-raises" true)) 14000 R.prog (World.withFollow w "special-get-raises" true) os).map (fun s => HandSHeadRun.looksF R.prog (boot_heap (World.withFollow w "special-get-raises" true).params) s.abs) = some true := by kernel_rfl
open PySem.W in
theorem rs1 (w : World) (os : OsState) : (HandSHeadRun.endF (HandSHeadRun.stepQ (HandSHeadRun.denQ HandSHeadRun.tabQ) R.prog (World.withFollow w "special-get-raises" true)) 14000 R.prog (World.withFollow w "special-get-raises" true) os).map (fun s => HandSHeadRun.seenQ (PySem.W.view R.prog [148]) nmL (PySem.importedModules R.prog.main.body) (fun s => PySem.W.xlAt (PySem.W.view R.prog [148]) [] s && PySem.W.recOk R.toRowW.records s) s.abs) = some (PySem.W.openGood (PySem.W.view R.prog [148]) nmL) := by kernel_rfl
open PySem.W in
theorem rc0_1 (w : World) (os : OsState) : (HandSHeadRun.endF (HandSHeadRun.stepQ (HandSHeadRun.denQ HandSHeadRun.tabQ) R.prog (World.withFollow w "special-get-raises" true)) 14000 R.prog (World.withFollow w "special-get-raises" true) os).map (fun s => (chk0 (kOf s), chk1 (kOf s), chk2 (kOf s), chk3 (kOf s), chk4 (kOf s), chk5 (kOf s), chk6 (kOf s), chk7 (kOf s), chk8 (kOf s), chk9 (kOf s))) = some (true, true, true, true, true, true, true, true, true, true) := by kernel_rfl
open PySem.W in
theorem rd0_1 (w : World) (os : OsState) : (HandSHeadRun.endF (HandSHeadRun.stepQ (HandSHeadRun.denQ HandSHeadRun.tabQ) R.prog (World.withFollow w "special-get-raises" true)) 14000 R.prog (World.withFollow w "special-get-raises" true) os).map (fun s => (((fnX0.all fun d => d.ok (kOf s)), fnX0.map fun d => HeX.fnX (kOf s) (d.at_ (kOf s))), ((fnX1.all fun d => d.ok (kOf s)), fnX1.map fun d => HeX.fnX (kOf s) (d.at_ (kOf s))), ((fnX2.all fun d => d.ok (kOf s)), fnX2.map fun d => HeX.fnX (kOf s) (d.at_ (kOf s))), ((fnX3.all fun d => d.ok (kOf s)), fnX3.map fun d => HeX.fnX (kOf s) (d.at_ (kOf s))))) = some ((true, fnX0.map HeX.DefX.val), (true, fnX1.map HeX.DefX.val), (true, fnX2.map HeX.DefX.val), (true, fnX3.map HeX.DefX.val)) := by kernel_rfl
open PySem.W in
theorem rt1 (w : World) (os : OsState) : (HandSHeadRun.endF (HandSHeadRun.stepQ (HandSHeadRun.denQ HandSHeadRun.tabQ) R.prog (World.withFollow w "special-get-raises" true)) 14000 R.prog (World.withFollow w "special-get-raises" true) os).map (fun s => tabL.map fun t => He.dicW (kOf s) (t.1 (kOf s))) = some (tabL.map fun t => some (He.keysIn (World.withFollow w "special-get-raises" true).params t.2)) := by kernel_rfl
open PySem.W in
theorem run1 (w : World) : HandSHeadRun.RunEq R (PySem.W.view R.prog [148]) hk (HeX.obX 6 chk fnsX tabL) 14000 nmL (World.withFollow w "special-get-raises" true) := by
  intro os
  obtain ⟨s, hs, hl⟩ := Option.map_eq_some_iff.mp (rl1 w os)
  have h_rs1 := rs1 w os
  rw [hs] at h_rs1
  replace h_rs1 := Option.some.inj h_rs1
  have h_rc0_1 := rc0_1 w os
  rw [hs] at h_rc0_1
  replace h_rc0_1 := Option.some.inj h_rc0_1
  have h_rd0_1 := rd0_1 w os
  rw [hs] at h_rd0_1
  replace h_rd0_1 := Option.some.inj h_rd0_1
  have h_rt1 := rt1 w os
  rw [hs] at h_rt1
  replace h_rt1 := Option.some.inj h_rt1
  have c0 : chk0 (kOf s) = true := congrArg (fun z => z.1) h_rc0_1
  have c1 : chk1 (kOf s) = true := congrArg (fun z => z.2.1) h_rc0_1
  have c2 : chk2 (kOf s) = true := congrArg (fun z => z.2.2.1) h_rc0_1
  have c3 : chk3 (kOf s) = true := congrArg (fun z => z.2.2.2.1) h_rc0_1
  have c4 : chk4 (kOf s) = true := congrArg (fun z => z.2.2.2.2.1) h_rc0_1
  have c5 : chk5 (kOf s) = true := congrArg (fun z => z.2.2.2.2.2.1) h_rc0_1
  have c6 : chk6 (kOf s) = true := congrArg (fun z => z.2.2.2.2.2.2.1) h_rc0_1
  have c7 : chk7 (kOf s) = true := congrArg (fun z => z.2.2.2.2.2.2.2.1) h_rc0_1
  have c8 : chk8 (kOf s) = true := congrArg (fun z => z.2.2.2.2.2.2.2.2.1) h_rc0_1
  have c9 : chk9 (kOf s) = true := congrArg (fun z => z.2.2.2.2.2.2.2.2.2) h_rc0_1
  have d0 := congrArg (fun z => (z.1).1) h_rd0_1
  have e0 := congrArg (fun z => (z.1).2) h_rd0_1
  have d1 := congrArg (fun z => (z.2.1).1) h_rd0_1
  have e1 := congrArg (fun z => (z.2.1).2) h_rd0_1
  have d2 := congrArg (fun z => (z.2.2.1).1) h_rd0_1
  have e2 := congrArg (fun z => (z.2.2.1).2) h_rd0_1
  have d3 := congrArg (fun z => (z.2.2.2).1) h_rd0_1
  have e3 := congrArg (fun z => (z.2.2.2).2) h_rd0_1
  have ck : chk (kOf s) = true := by
    unfold chk
    rw [c0, c1, c2, c3, c4, c5, c6, c7, c8, c9]
    rfl
  have dk : (fnsX.all fun d => d.ok (kOf s)) = true := by
    unfold fnsX
    simp only [List.all_append, Bool.and_eq_true]
    exact ⟨d0, d1, d2, d3⟩
  have ek : (fnsX.map fun d => HeX.fnX (kOf s) (d.at_ (kOf s))) = fnsX.map HeX.DefX.val := by
    unfold fnsX
    simp only [List.map_append]
    exact congr (congrArg (fun a b => a ++ b) e0) (congr (congrArg (fun a b => a ++ b) e1) (congr (congrArg (fun a b => a ++ b) e2) (e3)))
  have ob : HeX.obX 6 chk fnsX tabL s = HeX.valX fnsX tabL (World.withFollow w "special-get-raises" true) := by
    show (chk (kOf s) && fnsX.all fun d => d.ok (kOf s), fnsX.map fun d => HeX.fnX (kOf s) (d.at_ (kOf s)), tabL.map fun t => He.dicW (kOf s) (t.1 (kOf s))) = _
    rw [ck, dk, ek]
    exact congrArg (fun z => (true && true, fnsX.map HeX.DefX.val, z)) h_rt1
  rw [hs]
  show some (_, _, _) = some _
  rw [hl, ob]
  exact congrArg (fun z => some (true, z, HeX.valX fnsX tabL (World.withFollow w "special-get-raises" true))) h_rs1
theorem run (w : World) : HandSHeadRun.RunEq R (PySem.W.view R.prog [148]) hk (HeX.obX 6 chk fnsX tabL) 14000 nmL w := PySem.W.byRow2 "special-get-raises" run0 run1 w
theorem facts {P : Program} {w : World} {K : PySem.W.Frag} {h : Heap} {mg : Str → Option Value} {fa : Addr} (X : K.In h) (G : h.Ns mainGlobals mg) (hfa : mg ("law" : Str) = some (.ref fa)) (c : HeX.SaysX chk fnsX tabL w K) :
    ∃ fd : FuncData, (∀ (s : Shared) (v : Value), BindsTo s fd ⟨[v], []⟩ [("_law_script", v)]) ∧ ∀ base : Heap, K.In base → base.Ns mainGlobals mg → FnOk P w K mg base CX0 60 fa fd ["_law_script"] (spLaw K) := by
  obtain ⟨d_parts_of, D_parts_of⟩ := c.def_ 0 (d := dX_parts_of) rfl
  obtain ⟨d_blocks_in, D_blocks_in⟩ := c.def_ 1 (d := dX_blocks_in) rfl
  obtain ⟨d_listed, D_listed⟩ := c.def_ 2 (d := dX_listed) rfl
  obtain ⟨d_calls_in, D_calls_in⟩ := c.def_ 3 (d := dX_calls_in) rfl
  obtain ⟨d_sums_in, D_sums_in⟩ := c.def_ 4 (d := dX_sums_in) rfl
  obtain ⟨d_assigned_by, D_assigned_by⟩ := c.def_ 5 (d := dX_assigned_by) rfl
  obtain ⟨d_locals_of, D_locals_of⟩ := c.def_ 6 (d := dX_locals_of) rfl
  obtain ⟨d_uses_in, D_uses_in⟩ := c.def_ 7 (d := dX_uses_in) rfl
  obtain ⟨d_uses_of_target, D_uses_of_target⟩ := c.def_ 8 (d := dX_uses_of_target) rfl
  obtain ⟨d_uses_of_sum, D_uses_of_sum⟩ := c.def_ 9 (d := dX_uses_of_sum) rfl
  obtain ⟨d_uses_of_variables, D_uses_of_variables⟩ := c.def_ 10 (d := dX_uses_of_variables) rfl
  obtain ⟨d_uses_of_kinds, D_uses_of_kinds⟩ := c.def_ 11 (d := dX_uses_of_kinds) rfl
  obtain ⟨d_uses_of_handlers, D_uses_of_handlers⟩ := c.def_ 12 (d := dX_uses_of_handlers) rfl
  obtain ⟨d_uses_of_args, D_uses_of_args⟩ := c.def_ 13 (d := dX_uses_of_args) rfl
  obtain ⟨d_uses_of_made, D_uses_of_made⟩ := c.def_ 14 (d := dX_uses_of_made) rfl
  obtain ⟨d_check_sizes, D_check_sizes⟩ := c.def_ 15 (d := dX_check_sizes) rfl
  obtain ⟨d_largest, D_largest⟩ := c.def_ 16 (d := dX_largest) rfl
  obtain ⟨d_by_place_in, D_by_place_in⟩ := c.def_ 17 (d := dX_by_place_in) rfl
  obtain ⟨d_depth_of, D_depth_of⟩ := c.def_ 18 (d := dX_depth_of) rfl
  obtain ⟨d_numbers_in, D_numbers_in⟩ := c.def_ 19 (d := dX_numbers_in) rfl
  obtain ⟨d_check_names, D_check_names⟩ := c.def_ 20 (d := dX_check_names) rfl
  obtain ⟨d_own_names, D_own_names⟩ := c.def_ 21 (d := dX_own_names) rfl
  obtain ⟨d_check_different, D_check_different⟩ := c.def_ 22 (d := dX_check_different) rfl
  obtain ⟨d_check_known, D_check_known⟩ := c.def_ 23 (d := dX_check_known) rfl
  obtain ⟨d_check_statement, D_check_statement⟩ := c.def_ 24 (d := dX_check_statement) rfl
  obtain ⟨d_are_fitting, D_are_fitting⟩ := c.def_ 25 (d := dX_are_fitting) rfl
  obtain ⟨d_is_barred, D_is_barred⟩ := c.def_ 26 (d := dX_is_barred) rfl
  obtain ⟨d_is_integer, D_is_integer⟩ := c.def_ 27 (d := dX_is_integer) rfl
  obtain ⟨d_is_word, D_is_word⟩ := c.def_ 28 (d := dX_is_word) rfl
  obtain ⟨d_is_name, D_is_name⟩ := c.def_ 29 (d := dX_is_name) rfl
  obtain ⟨d_is_tree, D_is_tree⟩ := c.def_ 30 (d := dX_is_tree) rfl
  obtain ⟨d_is_parted, D_is_parted⟩ := c.def_ 31 (d := dX_is_parted) rfl
  obtain ⟨d_are_all, D_are_all⟩ := c.def_ 32 (d := dX_are_all) rfl
  obtain ⟨d_are_names, D_are_names⟩ := c.def_ 33 (d := dX_are_names) rfl
  obtain ⟨d_are_some_names, D_are_some_names⟩ := c.def_ 34 (d := dX_are_some_names) rfl
  obtain ⟨d_is_keep, D_is_keep⟩ := c.def_ 35 (d := dX_is_keep) rfl
  obtain ⟨d_is_sum, D_is_sum⟩ := c.def_ 36 (d := dX_is_sum) rfl
  obtain ⟨d_is_term, D_is_term⟩ := c.def_ 37 (d := dX_is_term) rfl
  obtain ⟨d_is_function, D_is_function⟩ := c.def_ 38 (d := dX_is_function) rfl
  obtain ⟨d_is_param, D_is_param⟩ := c.def_ 39 (d := dX_is_param) rfl
  obtain ⟨d_is_block, D_is_block⟩ := c.def_ 40 (d := dX_is_block) rfl
  obtain ⟨d_is_statement, D_is_statement⟩ := c.def_ 41 (d := dX_is_statement) rfl
  obtain ⟨d_is_part, D_is_part⟩ := c.def_ 42 (d := dX_is_part) rfl
  obtain ⟨d_is_handler, D_is_handler⟩ := c.def_ 43 (d := dX_is_handler) rfl
  obtain ⟨d_is_target, D_is_target⟩ := c.def_ 44 (d := dX_is_target) rfl
  obtain ⟨d_is_arg, D_is_arg⟩ := c.def_ 45 (d := dX_is_arg) rfl
  obtain ⟨d_are_args, D_are_args⟩ := c.def_ 46 (d := dX_are_args) rfl
  obtain ⟨d_is_made, D_is_made⟩ := c.def_ 47 (d := dX_is_made) rfl
  obtain ⟨d_Program___init__, D_Program___init__⟩ := c.def_ 48 (d := dX_Program___init__) rfl
  obtain ⟨d_named_functions, D_named_functions⟩ := c.def_ 49 (d := dX_named_functions) rfl
  obtain ⟨d__law_pool, D__law_pool⟩ := c.def_ 50 (d := dX__law_pool) rfl
  obtain ⟨d__law_mixed, D__law_mixed⟩ := c.def_ 51 (d := dX__law_mixed) rfl
  obtain ⟨d__law_draw, D__law_draw⟩ := c.def_ 52 (d := dX__law_draw) rfl
  obtain ⟨d__law_names, D__law_names⟩ := c.def_ 53 (d := dX__law_names) rfl
  obtain ⟨d_DuplicateName___init__, D_DuplicateName___init__⟩ := c.def_ 54 (d := dX_DuplicateName___init__) rfl
  obtain ⟨d_UnknownName___init__, D_UnknownName___init__⟩ := c.def_ 55 (d := dX_UnknownName___init__) rfl
  obtain ⟨d_WrongArguments___init__, D_WrongArguments___init__⟩ := c.def_ 56 (d := dX_WrongArguments___init__) rfl
  obtain ⟨d_InvalidFinally___init__, D_InvalidFinally___init__⟩ := c.def_ 57 (d := dX_InvalidFinally___init__) rfl
  obtain ⟨d__law_parts, D__law_parts⟩ := c.def_ 58 (d := dX__law_parts) rfl
  obtain ⟨d__law_size, D__law_size⟩ := c.def_ 59 (d := dX__law_size) rfl
  obtain ⟨d__law_numbered, D__law_numbered⟩ := c.def_ 60 (d := dX__law_numbered) rfl
  obtain ⟨d__law_own_names, D__law_own_names⟩ := c.def_ 61 (d := dX__law_own_names) rfl
  obtain ⟨d__law_pick, D__law_pick⟩ := c.def_ 62 (d := dX__law_pick) rfl
  obtain ⟨d__law_sum, D__law_sum⟩ := c.def_ 63 (d := dX__law_sum) rfl
  obtain ⟨d__law_call, D__law_call⟩ := c.def_ 64 (d := dX__law_call) rfl
  obtain ⟨d__law_piece, D__law_piece⟩ := c.def_ 65 (d := dX__law_piece) rfl
  obtain ⟨d__law_twice, D__law_twice⟩ := c.def_ 66 (d := dX__law_twice) rfl
  obtain ⟨d__law_words_of, D__law_words_of⟩ := c.def_ 67 (d := dX__law_words_of) rfl
  obtain ⟨d__law_of_calls, D__law_of_calls⟩ := c.def_ 68 (d := dX__law_of_calls) rfl
  obtain ⟨d__law_errors, D__law_errors⟩ := c.def_ 69 (d := dX__law_errors) rfl
  obtain ⟨d__law_due, D__law_due⟩ := c.def_ 70 (d := dX__law_due) rfl
  obtain ⟨d__law_told, D__law_told⟩ := c.def_ 71 (d := dX__law_told) rfl
  obtain ⟨d_law, D_law⟩ := c.def_ 72 (d := dX_law) rfl
  have k := c.ok_
  obtain ⟨k0, k⟩ := He.ba k
  have e0 : (PySem.W.nsIn K mainGlobals "parts_of" = some (some (.ref (He.ga K "parts_of")))) ∧ (PySem.W.nsIn K mainGlobals "blocks_in" = some (some (.ref (He.ga K "blocks_in")))) ∧ (PySem.W.nsIn K mainGlobals "listed" = some (some (.ref (He.ga K "listed")))) ∧ (PySem.W.nsIn K mainGlobals "calls_in" = some (some (.ref (He.ga K "calls_in")))) ∧ (PySem.W.nsIn K mainGlobals "sums_in" = some (some (.ref (He.ga K "sums_in")))) ∧ (PySem.W.nsIn K mainGlobals "assigned_by" = some (some (.ref (He.ga K "assigned_by")))) ∧ (PySem.W.nsIn K mainGlobals "locals_of" = some (some (.ref (He.ga K "locals_of")))) ∧ (PySem.W.nsIn K mainGlobals "uses_in" = some (some (.ref (He.ga K "uses_in")))) ∧ (PySem.W.nsIn K mainGlobals "uses_of_target" = some (some (.ref (He.ga K "uses_of_target")))) ∧ (PySem.W.nsIn K mainGlobals "uses_of_sum" = some (some (.ref (He.ga K "uses_of_sum")))) ∧ (PySem.W.nsIn K mainGlobals "uses_of_variables" = some (some (.ref (He.ga K "uses_of_variables")))) ∧ (PySem.W.nsIn K mainGlobals "uses_of_kinds" = some (some (.ref (He.ga K "uses_of_kinds")))) ∧ (PySem.W.nsIn K mainGlobals "uses_of_handlers" = some (some (.ref (He.ga K "uses_of_handlers")))) ∧ (PySem.W.nsIn K mainGlobals "uses_of_args" = some (some (.ref (He.ga K "uses_of_args")))) ∧ (PySem.W.nsIn K mainGlobals "uses_of_made" = some (some (.ref (He.ga K "uses_of_made")))) ∧ (PySem.W.nsIn K mainGlobals "check_sizes" = some (some (.ref (He.ga K "check_sizes")))) ∧ (PySem.W.nsIn K mainGlobals "largest" = some (some (.ref (He.ga K "largest")))) ∧ (PySem.W.nsIn K mainGlobals "by_place_in" = some (some (.ref (He.ga K "by_place_in")))) ∧ (PySem.W.nsIn K mainGlobals "depth_of" = some (some (.ref (He.ga K "depth_of")))) ∧ (PySem.W.nsIn K mainGlobals "numbers_in" = some (some (.ref (He.ga K "numbers_in")))) := of_decide_eq_true k0
  obtain ⟨q0, q1, q2, q3, q4, q5, q6, q7, q8, q9, q10, q11, q12, q13, q14, q15, q16, q17, q18, q19⟩ := e0
  obtain ⟨k1, k⟩ := He.ba k
  have e1 : (PySem.W.nsIn K mainGlobals "check_names" = some (some (.ref (He.ga K "check_names")))) ∧ (PySem.W.nsIn K mainGlobals "own_names" = some (some (.ref (He.ga K "own_names")))) ∧ (PySem.W.nsIn K mainGlobals "check_different" = some (some (.ref (He.ga K "check_different")))) ∧ (PySem.W.nsIn K mainGlobals "check_known" = some (some (.ref (He.ga K "check_known")))) ∧ (PySem.W.nsIn K mainGlobals "check_statement" = some (some (.ref (He.ga K "check_statement")))) ∧ (PySem.W.nsIn K mainGlobals "are_fitting" = some (some (.ref (He.ga K "are_fitting")))) ∧ (PySem.W.nsIn K mainGlobals "is_barred" = some (some (.ref (He.ga K "is_barred")))) ∧ (PySem.W.nsIn K mainGlobals "is_integer" = some (some (.ref (He.ga K "is_integer")))) ∧ (PySem.W.nsIn K mainGlobals "is_word" = some (some (.ref (He.ga K "is_word")))) ∧ (PySem.W.nsIn K mainGlobals "is_name" = some (some (.ref (He.ga K "is_name")))) ∧ (PySem.W.nsIn K mainGlobals "is_tree" = some (some (.ref (He.ga K "is_tree")))) ∧ (PySem.W.nsIn K mainGlobals "is_parted" = some (some (.ref (He.ga K "is_parted")))) ∧ (PySem.W.nsIn K mainGlobals "are_all" = some (some (.ref (He.ga K "are_all")))) ∧ (PySem.W.nsIn K mainGlobals "are_names" = some (some (.ref (He.ga K "are_names")))) ∧ (PySem.W.nsIn K mainGlobals "are_some_names" = some (some (.ref (He.ga K "are_some_names")))) ∧ (PySem.W.nsIn K mainGlobals "is_keep" = some (some (.ref (He.ga K "is_keep")))) ∧ (PySem.W.nsIn K mainGlobals "is_sum" = some (some (.ref (He.ga K "is_sum")))) ∧ (PySem.W.nsIn K mainGlobals "is_term" = some (some (.ref (He.ga K "is_term")))) ∧ (PySem.W.nsIn K mainGlobals "is_function" = some (some (.ref (He.ga K "is_function")))) ∧ (PySem.W.nsIn K mainGlobals "is_param" = some (some (.ref (He.ga K "is_param")))) := of_decide_eq_true k1
  obtain ⟨q20, q21, q22, q23, q24, q25, q26, q27, q28, q29, q30, q31, q32, q33, q34, q35, q36, q37, q38, q39⟩ := e1
  obtain ⟨k2, k⟩ := He.ba k
  have e2 : (PySem.W.nsIn K mainGlobals "is_block" = some (some (.ref (He.ga K "is_block")))) ∧ (PySem.W.nsIn K mainGlobals "is_statement" = some (some (.ref (He.ga K "is_statement")))) ∧ (PySem.W.nsIn K mainGlobals "is_part" = some (some (.ref (He.ga K "is_part")))) ∧ (PySem.W.nsIn K mainGlobals "is_handler" = some (some (.ref (He.ga K "is_handler")))) ∧ (PySem.W.nsIn K mainGlobals "is_target" = some (some (.ref (He.ga K "is_target")))) ∧ (PySem.W.nsIn K mainGlobals "is_arg" = some (some (.ref (He.ga K "is_arg")))) ∧ (PySem.W.nsIn K mainGlobals "are_args" = some (some (.ref (He.ga K "are_args")))) ∧ (PySem.W.nsIn K mainGlobals "is_made" = some (some (.ref (He.ga K "is_made")))) ∧ (PySem.W.findIn K (.ref (He.ga K "Program")) "__init__" = some (some (.ref (He.ma K (He.ga K "Program") "__init__")))) ∧ (PySem.W.isFn K (.ref (He.ma K (He.ga K "Program") "__init__")) = true) ∧ (PySem.W.nsIn K mainGlobals "named_functions" = some (some (.ref (He.ga K "named_functions")))) ∧ (PySem.W.nsIn K mainGlobals "_law_pool" = some (some (.ref (He.ga K "_law_pool")))) ∧ (PySem.W.nsIn K mainGlobals "_law_mixed" = some (some (.ref (He.ga K "_law_mixed")))) ∧ (PySem.W.nsIn K mainGlobals "_law_draw" = some (some (.ref (He.ga K "_law_draw")))) ∧ (PySem.W.nsIn K mainGlobals "_law_names" = some (some (.ref (He.ga K "_law_names")))) ∧ (PySem.W.findIn K (.ref (He.ga K "DuplicateName")) "__init__" = some (some (.ref (He.ma K (He.ga K "DuplicateName") "__init__")))) ∧ (PySem.W.findIn K (.ref (He.ga K "UnknownName")) "__init__" = some (some (.ref (He.ma K (He.ga K "UnknownName") "__init__")))) ∧ (PySem.W.findIn K (.ref (He.ga K "WrongArguments")) "__init__" = some (some (.ref (He.ma K (He.ga K "WrongArguments") "__init__")))) ∧ (PySem.W.findIn K (.ref (He.ga K "InvalidFinally")) "__init__" = some (some (.ref (He.ma K (He.ga K "InvalidFinally") "__init__")))) ∧ (PySem.W.nsIn K mainGlobals "_law_parts" = some (some (.ref (He.ga K "_law_parts")))) := of_decide_eq_true k2
  obtain ⟨q40, q41, q42, q43, q44, q45, q46, q47, q48, q49, q50, q51, q52, q53, q54, q55, q56, q57, q58, q59⟩ := e2
  obtain ⟨k3, k⟩ := He.ba k
  have e3 : (PySem.W.nsIn K mainGlobals "_law_size" = some (some (.ref (He.ga K "_law_size")))) ∧ (PySem.W.nsIn K mainGlobals "_law_numbered" = some (some (.ref (He.ga K "_law_numbered")))) ∧ (PySem.W.nsIn K mainGlobals "_law_own_names" = some (some (.ref (He.ga K "_law_own_names")))) ∧ (PySem.W.nsIn K mainGlobals "_law_pick" = some (some (.ref (He.ga K "_law_pick")))) ∧ (PySem.W.nsIn K mainGlobals "_law_sum" = some (some (.ref (He.ga K "_law_sum")))) ∧ (PySem.W.nsIn K mainGlobals "_law_call" = some (some (.ref (He.ga K "_law_call")))) ∧ (PySem.W.nsIn K mainGlobals "_law_piece" = some (some (.ref (He.ga K "_law_piece")))) ∧ (PySem.W.nsIn K mainGlobals "_law_twice" = some (some (.ref (He.ga K "_law_twice")))) ∧ (PySem.W.nsIn K mainGlobals "_law_words_of" = some (some (.ref (He.ga K "_law_words_of")))) ∧ (PySem.W.nsIn K mainGlobals "_law_of_calls" = some (some (.ref (He.ga K "_law_of_calls")))) ∧ (PySem.W.nsIn K mainGlobals "_law_errors" = some (some (.ref (He.ga K "_law_errors")))) ∧ (PySem.W.nsIn K mainGlobals "_law_due" = some (some (.ref (He.ga K "_law_due")))) ∧ (PySem.W.nsIn K mainGlobals "_law_told" = some (some (.ref (He.ga K "_law_told")))) ∧ (PySem.W.nsIn K mainGlobals "law" = some (some (.ref (He.ga K "law")))) ∧ (PySem.W.nsIn K mainGlobals "Program" = some (some (.ref (He.ga K "Program")))) ∧ (PySem.W.plainGet K (He.ga K "Program") Str.empty = true) ∧ (PySem.W.hasDictIn K (He.ga K "Program") = true) ∧ (PySem.W.plainOver K (He.ga K "Program") = true) ∧ (PySem.W.findIn K (.ref (He.ga K "Program")) "__setattr__" = some (some (.builtin "object.__setattr__"))) ∧ (PySem.W.makesIn K (He.ga K "Program") = true) := of_decide_eq_true k3
  obtain ⟨q60, q61, q62, q63, q64, q65, q66, q67, q68, q69, q70, q71, q72, q73, q74, q75, q76, q77, q78, q79⟩ := e3
  obtain ⟨k4, k⟩ := He.ba k
  have e4 : (PySem.W.keepIn K (.ref (He.ga K "Program")) = true) ∧ (PySem.W.findIn K (.ref (He.ga K "Program")) "globals" = some none) ∧ (PySem.W.findIn K (.ref (He.ga K "Program")) "_tree" = some none) ∧ (PySem.W.findIn K (.ref (He.ga K "Program")) "_named" = some none) ∧ (PySem.W.nsIn K mainGlobals "DuplicateName" = some (some (.ref (He.ga K "DuplicateName")))) ∧ (HeX.excX K (He.ga K "DuplicateName") (.ref (He.ga K "ProgramError") :: PySem.HandSPX.veTail) "ValueError.__new__" = true) ∧ (PySem.W.findIn K (.ref (He.ga K "DuplicateName")) "__setattr__" = some (some (.builtin "object.__setattr__"))) ∧ (PySem.W.typeIn K (.ref (He.ga K "DuplicateName")) = some (.type "type")) ∧ (PySem.W.keepIn K (.ref (He.ga K "DuplicateName")) = true) ∧ (PySem.W.typeIn K (.ref (He.ma K (He.ga K "DuplicateName") "__init__")) = some (.type "function")) ∧ (PySem.W.findIn K (.ref (He.ga K "DuplicateName")) "name" = some none) ∧ (PySem.W.findIn K (.ref (He.ga K "DuplicateName")) "__getattribute__" = some (some (.builtin "BaseException.__getattribute__"))) ∧ (PySem.W.findIn K (.ref (He.ga K "DuplicateName")) "__getattr__" = some none) ∧ (PySem.W.findIn K (.ref (He.ga K "DuplicateName")) "__class__" = some (some (.builtin "object.__class__"))) ∧ (PySem.W.nsIn K mainGlobals "UnknownName" = some (some (.ref (He.ga K "UnknownName")))) ∧ (HeX.excX K (He.ga K "UnknownName") (.ref (He.ga K "ProgramError") :: PySem.HandSPX.veTail) "ValueError.__new__" = true) ∧ (PySem.W.findIn K (.ref (He.ga K "UnknownName")) "__setattr__" = some (some (.builtin "object.__setattr__"))) ∧ (PySem.W.typeIn K (.ref (He.ga K "UnknownName")) = some (.type "type")) ∧ (PySem.W.keepIn K (.ref (He.ga K "UnknownName")) = true) ∧ (PySem.W.typeIn K (.ref (He.ma K (He.ga K "UnknownName") "__init__")) = some (.type "function")) := of_decide_eq_true k4
  obtain ⟨q80, q81, q82, q83, q84, q85, q86, q87, q88, q89, q90, q91, q92, q93, q94, q95, q96, q97, q98, q99⟩ := e4
  obtain ⟨k5, k⟩ := He.ba k
  have e5 : (PySem.W.findIn K (.ref (He.ga K "UnknownName")) "name" = some none) ∧ (PySem.W.findIn K (.ref (He.ga K "UnknownName")) "__getattribute__" = some (some (.builtin "BaseException.__getattribute__"))) ∧ (PySem.W.findIn K (.ref (He.ga K "UnknownName")) "__getattr__" = some none) ∧ (PySem.W.findIn K (.ref (He.ga K "UnknownName")) "__class__" = some (some (.builtin "object.__class__"))) ∧ (PySem.W.nsIn K mainGlobals "WrongArguments" = some (some (.ref (He.ga K "WrongArguments")))) ∧ (HeX.excX K (He.ga K "WrongArguments") (.ref (He.ga K "ProgramError") :: PySem.HandSPX.veTail) "ValueError.__new__" = true) ∧ (PySem.W.findIn K (.ref (He.ga K "WrongArguments")) "__setattr__" = some (some (.builtin "object.__setattr__"))) ∧ (PySem.W.typeIn K (.ref (He.ga K "WrongArguments")) = some (.type "type")) ∧ (PySem.W.keepIn K (.ref (He.ga K "WrongArguments")) = true) ∧ (PySem.W.typeIn K (.ref (He.ma K (He.ga K "WrongArguments") "__init__")) = some (.type "function")) ∧ (PySem.W.findIn K (.ref (He.ga K "WrongArguments")) "place" = some none) ∧ (PySem.W.findIn K (.ref (He.ga K "WrongArguments")) "__getattribute__" = some (some (.builtin "BaseException.__getattribute__"))) ∧ (PySem.W.findIn K (.ref (He.ga K "WrongArguments")) "__getattr__" = some none) ∧ (PySem.W.findIn K (.ref (He.ga K "WrongArguments")) "__class__" = some (some (.builtin "object.__class__"))) ∧ (PySem.W.nsIn K mainGlobals "InvalidFinally" = some (some (.ref (He.ga K "InvalidFinally")))) ∧ (HeX.excX K (He.ga K "InvalidFinally") (.ref (He.ga K "ProgramError") :: PySem.HandSPX.veTail) "ValueError.__new__" = true) ∧ (PySem.W.findIn K (.ref (He.ga K "InvalidFinally")) "__setattr__" = some (some (.builtin "object.__setattr__"))) ∧ (PySem.W.typeIn K (.ref (He.ga K "InvalidFinally")) = some (.type "type")) ∧ (PySem.W.keepIn K (.ref (He.ga K "InvalidFinally")) = true) ∧ (PySem.W.typeIn K (.ref (He.ma K (He.ga K "InvalidFinally") "__init__")) = some (.type "function")) := of_decide_eq_true k5
  obtain ⟨q100, q101, q102, q103, q104, q105, q106, q107, q108, q109, q110, q111, q112, q113, q114, q115, q116, q117, q118, q119⟩ := e5
  obtain ⟨k6, k⟩ := He.ba k
  have e6 : (PySem.W.findIn K (.ref (He.ga K "InvalidFinally")) "place" = some none) ∧ (PySem.W.findIn K (.ref (He.ga K "InvalidFinally")) "__getattribute__" = some (some (.builtin "BaseException.__getattribute__"))) ∧ (PySem.W.findIn K (.ref (He.ga K "InvalidFinally")) "__getattr__" = some none) ∧ (PySem.W.findIn K (.ref (He.ga K "InvalidFinally")) "__class__" = some (some (.builtin "object.__class__"))) ∧ (PySem.W.nsIn K mainGlobals "ProgramError" = some (some (.ref (He.ga K "ProgramError")))) ∧ ((PySem.W.clsIn K (He.ga K "ProgramError")).isSome = true) ∧ (PySem.W.subIn K (.ref (He.ga K "ProgramError")) (.type "BaseException") = some true) ∧ (PySem.W.typeIn K (.ref (He.ga K "ProgramError")) = some (.type "type")) ∧ ([He.ga K "DuplicateName", He.ga K "UnknownName", He.ga K "WrongArguments", He.ga K "InvalidFinally", He.ga K "ProgramError"].Nodup) ∧ (PySem.W.specialIn K (.builtin "object.__class__") "__get__" = some (some (.builtin "getset_descriptor.__get__"))) ∧ (PySem.W.takesIn K (.builtin "object.__class__") = some true) ∧ (PySem.W.nsIn K mainGlobals "int" = some none) ∧ (PySem.W.nsIn K mainGlobals "len" = some none) ∧ (PySem.W.nsIn K mainGlobals "all" = some none) ∧ (PySem.W.nsIn K mainGlobals "any" = some none) ∧ (PySem.W.nsIn K mainGlobals "max" = some none) ∧ (PySem.W.nsIn K mainGlobals "isinstance" = some none) ∧ (PySem.W.nsIn K mainGlobals "str" = some none) ∧ (PySem.W.nsIn K mainGlobals "tuple" = some none) ∧ (PySem.W.nsIn K mainGlobals "sorted" = some none) := of_decide_eq_true k6
  obtain ⟨q120, q121, q122, q123, q124, q125, q126, q127, q128, q129, q130, q131, q132, q133, q134, q135, q136, q137, q138, q139⟩ := e6
  obtain ⟨k7, k⟩ := He.ba k
  have e7 : (PySem.W.nsIn K mainGlobals "abs" = some none) ∧ (PySem.W.nsIn K mainGlobals "range" = some none) ∧ (PySem.W.nsIn K mainGlobals "bool" = some none) ∧ (PySem.W.nsIn K mainGlobals "list" = some none) ∧ (PySem.W.nsIn K mainGlobals "sum" = some none) ∧ (PySem.W.nsIn K mainGlobals "zip" = some none) ∧ (PySem.W.nsIn K mainGlobals "enumerate" = some none) ∧ (PySem.W.nsIn K mainGlobals "set" = some none) ∧ ((He.Fa.str "LETTERS" LET).ok K = true) ∧ ((He.Fa.str "DIGITS" DIG).ok K = true) ∧ ((He.Fa.int "MOST_GLOBALS" (4)).ok K = true) ∧ ((He.Fa.int "MOST_KINDS" (3)).ok K = true) ∧ ((He.Fa.int "MOST_KEEPS" (4)).ok K = true) ∧ ((He.Fa.int "MOST_FUNCTIONS" (6)).ok K = true) ∧ ((He.Fa.int "MOST_PARAMETERS" (3)).ok K = true) ∧ ((He.Fa.int "MOST_BY_PLACE" (2)).ok K = true) ∧ ((He.Fa.int "MOST_LOCALS" (3)).ok K = true) ∧ ((He.Fa.int "MOST_STATEMENTS" (60)).ok K = true) ∧ ((He.Fa.int "MOST_NESTING" (6)).ok K = true) ∧ ((He.Fa.int "LARGEST_NUMBER" (999999999999)).ok K = true) := of_decide_eq_true k7
  obtain ⟨q140, q141, q142, q143, q144, q145, q146, q147, q148, q149, q150, q151, q152, q153, q154, q155, q156, q157, q158, q159⟩ := e7
  obtain ⟨k8, k⟩ := He.ba k
  have e8 : ((He.Fa.int "MOST_NESTED" (30)).ok K = true) ∧ (PySem.W.nsIn K mainGlobals "KEYWORDS" = some (some (.ref (He.ga K "KEYWORDS")))) ∧ (He.tupB K "KEYWORDS" ((kws).map HeX.dvOf) = true) ∧ (PySem.W.nsIn K mainGlobals "BARRED_FROM_FINALLY" = some (some (.ref (He.ga K "BARRED_FROM_FINALLY")))) ∧ (He.tupB K "BARRED_FROM_FINALLY" ((bars).map HeX.dvOf) = true) ∧ (PySem.W.nsIn K mainGlobals "SHAPES" = some (some (.ref (He.ga K "SHAPES")))) ∧ (HeX.ktB K (He.ga K "SHAPES") "set" [.str "variable", .str "sum"] = true) ∧ (HeX.ktB K (He.ga K "SHAPES") "input" [.str "variable"] = true) ∧ (HeX.ktB K (He.ga K "SHAPES") "call" [.str "target", .str "function", .str "args"] = true) ∧ (HeX.ktB K (He.ga K "SHAPES") "if" [.str "block", .str "block"] = true) ∧ (HeX.ktB K (He.ga K "SHAPES") "while" [.str "block"] = true) ∧ (HeX.ktB K (He.ga K "SHAPES") "risk" [.str "kinds"] = true) ∧ (HeX.ktB K (He.ga K "SHAPES") "raise" [.str "kind"] = true) ∧ (HeX.ktB K (He.ga K "SHAPES") "try" [.str "block", .str "handlers", .str "block"] = true) ∧ (HeX.ktB K (He.ga K "SHAPES") "undo" [.str "variables", .str "block"] = true) ∧ (HeX.ktB K (He.ga K "SHAPES") "with" [.str "made", .str "made", .str "swallowed", .str "block"] = true) ∧ (HeX.ktB K (He.ga K "SHAPES") "return" [.str "sum"] = true) ∧ (PySem.W.nsIn K mainGlobals "USES" = some (some (.ref (He.ga K "USES")))) ∧ (PySem.W.nsIn K (He.ga K "USES") "target" = some (some (.ref (He.ga K "uses_of_target")))) ∧ (PySem.W.nsIn K (He.ga K "USES") "sum" = some (some (.ref (He.ga K "uses_of_sum")))) := of_decide_eq_true k8
  obtain ⟨q160, q161, q162, q163, q164, q165, q166, q167, q168, q169, q170, q171, q172, q173, q174, q175, q176, q177, q178, q179⟩ := e8
  have e9 : (PySem.W.nsIn K (He.ga K "USES") "variables" = some (some (.ref (He.ga K "uses_of_variables")))) ∧ (PySem.W.nsIn K (He.ga K "USES") "kinds" = some (some (.ref (He.ga K "uses_of_kinds")))) ∧ (PySem.W.nsIn K (He.ga K "USES") "swallowed" = some (some (.ref (He.ga K "uses_of_kinds")))) ∧ (PySem.W.nsIn K (He.ga K "USES") "handlers" = some (some (.ref (He.ga K "uses_of_handlers")))) ∧ (PySem.W.nsIn K (He.ga K "USES") "args" = some (some (.ref (He.ga K "uses_of_args")))) ∧ (PySem.W.nsIn K (He.ga K "USES") "made" = some (some (.ref (He.ga K "uses_of_made")))) ∧ (PySem.W.nsIn K (He.ga K "USES") "block" = some none) ∧ (PySem.W.nsIn K mainGlobals "FORMS" = some (some (.ref (He.ga K "FORMS")))) ∧ (PySem.W.nsIn K (He.ga K "FORMS") "variable" = some (some (.ref (He.ga K "is_name")))) ∧ (PySem.W.nsIn K (He.ga K "FORMS") "kind" = some (some (.ref (He.ga K "is_name")))) ∧ (PySem.W.nsIn K (He.ga K "FORMS") "function" = some (some (.ref (He.ga K "is_name")))) ∧ (PySem.W.nsIn K (He.ga K "FORMS") "target" = some (some (.ref (He.ga K "is_target")))) ∧ (PySem.W.nsIn K (He.ga K "FORMS") "sum" = some (some (.ref (He.ga K "is_sum")))) ∧ (PySem.W.nsIn K (He.ga K "FORMS") "variables" = some (some (.ref (He.ga K "are_some_names")))) ∧ (PySem.W.nsIn K (He.ga K "FORMS") "kinds" = some (some (.ref (He.ga K "are_some_names")))) ∧ (PySem.W.nsIn K (He.ga K "FORMS") "swallowed" = some (some (.ref (He.ga K "are_names")))) ∧ (PySem.W.nsIn K (He.ga K "FORMS") "args" = some (some (.ref (He.ga K "are_args")))) ∧ (PySem.W.nsIn K (He.ga K "FORMS") "made" = some (some (.ref (He.ga K "is_made")))) := of_decide_eq_true k
  obtain ⟨q180, q181, q182, q183, q184, q185, q186, q187, q188, q189, q190, q191, q192, q193, q194, q195, q196, q197⟩ := e9
  have kD_SHAPES := c.tab 0 (t := (fun K => He.ga K "SHAPES", ["set", "input", "call", "if", "while", "risk", "raise", "try", "undo", "with", "return"])) rfl
  have kD_USES := c.tab 1 (t := (fun K => He.ga K "USES", ["target", "sum", "variables", "kinds", "swallowed", "handlers", "args", "made"])) rfl
  have kD_FORMS := c.tab 2 (t := (fun K => He.ga K "FORMS", ["variable", "kind", "function", "target", "sum", "variables", "kinds", "swallowed", "args", "made"])) rfl
  have e := hfa.symm.trans (PySem.W.mg_of X G q73)
  cases e
  have F_parts_of : Fun K "parts_of" "parts_of" s_parts_of (He.ga K "parts_of") d_parts_of := HeX.fun_of D_parts_of
  have b_parts_of := F_parts_of.binds (ps := ["statement"]) fun _ _ _ _ _ _ us hl => match us, hl with | [_], _ => rfl
  have F_blocks_in : Fun K "blocks_in" "blocks_in" s_blocks_in (He.ga K "blocks_in") d_blocks_in := HeX.fun_of D_blocks_in
  have b_blocks_in := F_blocks_in.binds (ps := ["statement"]) fun _ _ _ _ _ _ us hl => match us, hl with | [_], _ => rfl
  have F_listed : Fun K "listed" "listed" s_listed (He.ga K "listed") d_listed := HeX.fun_of D_listed
  have b_listed := F_listed.binds (ps := ["block"]) fun _ _ _ _ _ _ us hl => match us, hl with | [_], _ => rfl
  have F_calls_in : Fun K "calls_in" "calls_in" s_calls_in (He.ga K "calls_in") d_calls_in := HeX.fun_of D_calls_in
  have b_calls_in := F_calls_in.binds (ps := ["statement"]) fun _ _ _ _ _ _ us hl => match us, hl with | [_], _ => rfl
  have F_sums_in : Fun K "sums_in" "sums_in" s_sums_in (He.ga K "sums_in") d_sums_in := HeX.fun_of D_sums_in
  have b_sums_in := F_sums_in.binds (ps := ["statement"]) fun _ _ _ _ _ _ us hl => match us, hl with | [_], _ => rfl
  have F_assigned_by : Fun K "assigned_by" "assigned_by" s_assigned_by (He.ga K "assigned_by") d_assigned_by := HeX.fun_of D_assigned_by
  have b_assigned_by := F_assigned_by.binds (ps := ["statement"]) fun _ _ _ _ _ _ us hl => match us, hl with | [_], _ => rfl
  have F_locals_of : Fun K "locals_of" "locals_of" s_locals_of (He.ga K "locals_of") d_locals_of := HeX.fun_of D_locals_of
  have b_locals_of := F_locals_of.binds (ps := ["shared", "function"]) fun _ _ _ _ _ _ us hl => match us, hl with | [_, _], _ => rfl
  have F_uses_in : Fun K "uses_in" "uses_in" s_uses_in (He.ga K "uses_in") d_uses_in := HeX.fun_of D_uses_in
  have b_uses_in := F_uses_in.binds (ps := ["statement"]) fun _ _ _ _ _ _ us hl => match us, hl with | [_], _ => rfl
  have F_uses_of_target : Fun K "uses_of_target" "uses_of_target" s_uses_of_target (He.ga K "uses_of_target") d_uses_of_target := HeX.fun_of D_uses_of_target
  have b_uses_of_target := F_uses_of_target.binds (ps := ["part"]) fun _ _ _ _ _ _ us hl => match us, hl with | [_], _ => rfl
  have F_uses_of_sum : Fun K "uses_of_sum" "uses_of_sum" s_uses_of_sum (He.ga K "uses_of_sum") d_uses_of_sum := HeX.fun_of D_uses_of_sum
  have b_uses_of_sum := F_uses_of_sum.binds (ps := ["part"]) fun _ _ _ _ _ _ us hl => match us, hl with | [_], _ => rfl
  have F_uses_of_variables : Fun K "uses_of_variables" "uses_of_variables" s_uses_of_variables (He.ga K "uses_of_variables") d_uses_of_variables := HeX.fun_of D_uses_of_variables
  have b_uses_of_variables := F_uses_of_variables.binds (ps := ["part"]) fun _ _ _ _ _ _ us hl => match us, hl with | [_], _ => rfl
  have F_uses_of_kinds : Fun K "uses_of_kinds" "uses_of_kinds" s_uses_of_kinds (He.ga K "uses_of_kinds") d_uses_of_kinds := HeX.fun_of D_uses_of_kinds
  have b_uses_of_kinds := F_uses_of_kinds.binds (ps := ["part"]) fun _ _ _ _ _ _ us hl => match us, hl with | [_], _ => rfl
  have F_uses_of_handlers : Fun K "uses_of_handlers" "uses_of_handlers" s_uses_of_handlers (He.ga K "uses_of_handlers") d_uses_of_handlers := HeX.fun_of D_uses_of_handlers
  have b_uses_of_handlers := F_uses_of_handlers.binds (ps := ["part"]) fun _ _ _ _ _ _ us hl => match us, hl with | [_], _ => rfl
  have F_uses_of_args : Fun K "uses_of_args" "uses_of_args" s_uses_of_args (He.ga K "uses_of_args") d_uses_of_args := HeX.fun_of D_uses_of_args
  have b_uses_of_args := F_uses_of_args.binds (ps := ["part"]) fun _ _ _ _ _ _ us hl => match us, hl with | [_], _ => rfl
  have F_uses_of_made : Fun K "uses_of_made" "uses_of_made" s_uses_of_made (He.ga K "uses_of_made") d_uses_of_made := HeX.fun_of D_uses_of_made
  have b_uses_of_made := F_uses_of_made.binds (ps := ["part"]) fun _ _ _ _ _ _ us hl => match us, hl with | [_], _ => rfl
  have F_check_sizes : Fun K "check_sizes" "check_sizes" s_check_sizes (He.ga K "check_sizes") d_check_sizes := HeX.fun_of D_check_sizes
  have b_check_sizes := F_check_sizes.binds (ps := ["tree"]) fun _ _ _ _ _ _ us hl => match us, hl with | [_], _ => rfl
  have F_largest : Fun K "largest" "largest" s_largest (He.ga K "largest") d_largest := HeX.fun_of D_largest
  have b_largest := F_largest.binds (ps := ["numbers"]) fun _ _ _ _ _ _ us hl => match us, hl with | [_], _ => rfl
  have F_by_place_in : Fun K "by_place_in" "by_place_in" s_by_place_in (He.ga K "by_place_in") d_by_place_in := HeX.fun_of D_by_place_in
  have b_by_place_in := F_by_place_in.binds (ps := ["params"]) fun _ _ _ _ _ _ us hl => match us, hl with | [_], _ => rfl
  have F_depth_of : Fun K "depth_of" "depth_of" s_depth_of (He.ga K "depth_of") d_depth_of := HeX.fun_of D_depth_of
  have b_depth_of := F_depth_of.binds (ps := ["block"]) fun _ _ _ _ _ _ us hl => match us, hl with | [_], _ => rfl
  have F_numbers_in : Fun K "numbers_in" "numbers_in" s_numbers_in (He.ga K "numbers_in") d_numbers_in := HeX.fun_of D_numbers_in
  have b_numbers_in := F_numbers_in.binds (ps := ["tree"]) fun _ _ _ _ _ _ us hl => match us, hl with | [_], _ => rfl
  have F_check_names : Fun K "check_names" "check_names" s_check_names (He.ga K "check_names") d_check_names := HeX.fun_of D_check_names
  have b_check_names := F_check_names.binds (ps := ["tree"]) fun _ _ _ _ _ _ us hl => match us, hl with | [_], _ => rfl
  have F_own_names : Fun K "own_names" "own_names" s_own_names (He.ga K "own_names") d_own_names := HeX.fun_of D_own_names
  have b_own_names := F_own_names.binds (ps := ["variables", "function"]) fun _ _ _ _ _ _ us hl => match us, hl with | [_, _], _ => rfl
  have F_check_different : Fun K "check_different" "check_different" s_check_different (He.ga K "check_different") d_check_different := HeX.fun_of D_check_different
  have b_check_different := F_check_different.binds (ps := ["names"]) fun _ _ _ _ _ _ us hl => match us, hl with | [_], _ => rfl
  have F_check_known : Fun K "check_known" "check_known" s_check_known (He.ga K "check_known") d_check_known := HeX.fun_of D_check_known
  have b_check_known := F_check_known.binds (ps := ["names", "known"]) fun _ _ _ _ _ _ us hl => match us, hl with | [_, _], _ => rfl
  have F_check_statement : Fun K "check_statement" "check_statement" s_check_statement (He.ga K "check_statement") d_check_statement := HeX.fun_of D_check_statement
  have b_check_statement := F_check_statement.binds (ps := ["place", "statement", "known", "params"]) fun _ _ _ _ _ _ us hl => match us, hl with | [_, _, _, _], _ => rfl
  have F_are_fitting : Fun K "are_fitting" "are_fitting" s_are_fitting (He.ga K "are_fitting") d_are_fitting := HeX.fun_of D_are_fitting
  have b_are_fitting := F_are_fitting.binds (ps := ["args", "params"]) fun _ _ _ _ _ _ us hl => match us, hl with | [_, _], _ => rfl
  have F_is_barred : Fun K "is_barred" "is_barred" s_is_barred (He.ga K "is_barred") d_is_barred := HeX.fun_of D_is_barred
  have b_is_barred := F_is_barred.binds (ps := ["block"]) fun _ _ _ _ _ _ us hl => match us, hl with | [_], _ => rfl
  have F_is_integer : Fun K "is_integer" "is_integer" s_is_integer (He.ga K "is_integer") d_is_integer := HeX.fun_of D_is_integer
  have b_is_integer := F_is_integer.binds (ps := ["value"]) fun _ _ _ _ _ _ us hl => match us, hl with | [_], _ => rfl
  have F_is_word : Fun K "is_word" "is_word" s_is_word (He.ga K "is_word") d_is_word := HeX.fun_of D_is_word
  have b_is_word := F_is_word.binds (ps := ["text"]) fun _ _ _ _ _ _ us hl => match us, hl with | [_], _ => rfl
  have F_is_name : Fun K "is_name" "is_name" s_is_name (He.ga K "is_name") d_is_name := HeX.fun_of D_is_name
  have b_is_name := F_is_name.binds (ps := ["value"]) fun _ _ _ _ _ _ us hl => match us, hl with | [_], _ => rfl
  have F_is_tree : Fun K "is_tree" "is_tree" s_is_tree (He.ga K "is_tree") d_is_tree := HeX.fun_of D_is_tree
  have b_is_tree := F_is_tree.binds (ps := ["value"]) fun _ _ _ _ _ _ us hl => match us, hl with | [_], _ => rfl
  have F_is_parted : Fun K "is_parted" "is_parted" s_is_parted (He.ga K "is_parted") d_is_parted := HeX.fun_of D_is_parted
  have b_is_parted := F_is_parted.binds (ps := ["value", "parts"]) fun _ _ _ _ _ _ us hl => match us, hl with | [_, _], _ => rfl
  have F_are_all : Fun K "are_all" "are_all" s_are_all (He.ga K "are_all") d_are_all := HeX.fun_of D_are_all
  have b_are_all := F_are_all.binds (ps := ["value", "is_one"]) fun _ _ _ _ _ _ us hl => match us, hl with | [_, _], _ => rfl
  have F_are_names : Fun K "are_names" "are_names" s_are_names (He.ga K "are_names") d_are_names := HeX.fun_of D_are_names
  have b_are_names := F_are_names.binds (ps := ["value"]) fun _ _ _ _ _ _ us hl => match us, hl with | [_], _ => rfl
  have F_are_some_names : Fun K "are_some_names" "are_some_names" s_are_some_names (He.ga K "are_some_names") d_are_some_names := HeX.fun_of D_are_some_names
  have b_are_some_names := F_are_some_names.binds (ps := ["value"]) fun _ _ _ _ _ _ us hl => match us, hl with | [_], _ => rfl
  have F_is_keep : Fun K "is_keep" "is_keep" s_is_keep (He.ga K "is_keep") d_is_keep := HeX.fun_of D_is_keep
  have b_is_keep := F_is_keep.binds (ps := ["value"]) fun _ _ _ _ _ _ us hl => match us, hl with | [_], _ => rfl
  have F_is_sum : Fun K "is_sum" "is_sum" s_is_sum (He.ga K "is_sum") d_is_sum := HeX.fun_of D_is_sum
  have b_is_sum := F_is_sum.binds (ps := ["value"]) fun _ _ _ _ _ _ us hl => match us, hl with | [_], _ => rfl
  have F_is_term : Fun K "is_term" "is_term" s_is_term (He.ga K "is_term") d_is_term := HeX.fun_of D_is_term
  have b_is_term := F_is_term.binds (ps := ["value"]) fun _ _ _ _ _ _ us hl => match us, hl with | [_], _ => rfl
  have F_is_function : Fun K "is_function" "is_function" s_is_function (He.ga K "is_function") d_is_function := HeX.fun_of D_is_function
  have b_is_function := F_is_function.binds (ps := ["value"]) fun _ _ _ _ _ _ us hl => match us, hl with | [_], _ => rfl
  have F_is_param : Fun K "is_param" "is_param" s_is_param (He.ga K "is_param") d_is_param := HeX.fun_of D_is_param
  have b_is_param := F_is_param.binds (ps := ["value"]) fun _ _ _ _ _ _ us hl => match us, hl with | [_], _ => rfl
  have F_is_block : Fun K "is_block" "is_block" s_is_block (He.ga K "is_block") d_is_block := HeX.fun_of D_is_block
  have b_is_block := F_is_block.binds (ps := ["value", "depth"]) fun _ _ _ _ _ _ us hl => match us, hl with | [_, _], _ => rfl
  have F_is_statement : Fun K "is_statement" "is_statement" s_is_statement (He.ga K "is_statement") d_is_statement := HeX.fun_of D_is_statement
  have b_is_statement := F_is_statement.binds (ps := ["value", "depth"]) fun _ _ _ _ _ _ us hl => match us, hl with | [_, _], _ => rfl
  have F_is_part : Fun K "is_part" "is_part" s_is_part (He.ga K "is_part") d_is_part := HeX.fun_of D_is_part
  have b_is_part := F_is_part.binds (ps := ["sort", "part", "depth"]) fun _ _ _ _ _ _ us hl => match us, hl with | [_, _, _], _ => rfl
  have F_is_handler : Fun K "is_handler" "is_handler" s_is_handler (He.ga K "is_handler") d_is_handler := HeX.fun_of D_is_handler
  have b_is_handler := F_is_handler.binds (ps := ["value", "depth"]) fun _ _ _ _ _ _ us hl => match us, hl with | [_, _], _ => rfl
  have F_is_target : Fun K "is_target" "is_target" s_is_target (He.ga K "is_target") d_is_target := HeX.fun_of D_is_target
  have b_is_target := F_is_target.binds (ps := ["value"]) fun _ _ _ _ _ _ us hl => match us, hl with | [_], _ => rfl
  have F_is_arg : Fun K "is_arg" "is_arg" s_is_arg (He.ga K "is_arg") d_is_arg := HeX.fun_of D_is_arg
  have b_is_arg := F_is_arg.binds (ps := ["value"]) fun _ _ _ _ _ _ us hl => match us, hl with | [_], _ => rfl
  have F_are_args : Fun K "are_args" "are_args" s_are_args (He.ga K "are_args") d_are_args := HeX.fun_of D_are_args
  have b_are_args := F_are_args.binds (ps := ["value"]) fun _ _ _ _ _ _ us hl => match us, hl with | [_], _ => rfl
  have F_is_made : Fun K "is_made" "is_made" s_is_made (He.ga K "is_made") d_is_made := HeX.fun_of D_is_made
  have b_is_made := F_is_made.binds (ps := ["value"]) fun _ _ _ _ _ _ us hl => match us, hl with | [_], _ => rfl
  have F_Program___init__ : Fun K "__init__" "Program.__init__" s_Program___init__ (He.ma K (He.ga K "Program") "__init__") d_Program___init__ := HeX.fun_of D_Program___init__
  have b_Program___init__ := F_Program___init__.binds (ps := ["self", "tree"]) fun _ _ _ _ _ _ us hl => match us, hl with | [_, _], _ => rfl
  have F_named_functions : Fun K "named_functions" "named_functions" s_named_functions (He.ga K "named_functions") d_named_functions := HeX.fun_of D_named_functions
  have b_named_functions := F_named_functions.binds (ps := ["tree"]) fun _ _ _ _ _ _ us hl => match us, hl with | [_], _ => rfl
  have F__law_pool : Fun K "_law_pool" "_law_pool" s__law_pool (He.ga K "_law_pool") d__law_pool := HeX.fun_of D__law_pool
  have b__law_pool := F__law_pool.binds (ps := ["_law_script"]) fun _ _ _ _ _ _ us hl => match us, hl with | [_], _ => rfl
  have F__law_mixed : Fun K "_law_mixed" "_law_mixed" s__law_mixed (He.ga K "_law_mixed") d__law_mixed := HeX.fun_of D__law_mixed
  have b__law_mixed := F__law_mixed.binds (ps := ["_law_number", "_law_count", "_law_many"]) fun _ _ _ _ _ _ us hl => match us, hl with | [_, _, _], _ => rfl
  have F__law_draw : Fun K "_law_draw" "_law_draw" s__law_draw (He.ga K "_law_draw") d__law_draw := HeX.fun_of D__law_draw
  have b__law_draw := F__law_draw.binds (ps := ["_law_pool_here", "_law_many"]) fun _ _ _ _ _ _ us hl => match us, hl with | [_, _], _ => rfl
  have F__law_names : Fun K "_law_names" "_law_names" s__law_names (He.ga K "_law_names") d__law_names := HeX.fun_of D__law_names
  have b__law_names := F__law_names.binds (ps := ["_law_pool_here"]) fun _ _ _ _ _ _ us hl => match us, hl with | [_], _ => rfl
  have F_DuplicateName___init__ : Fun K "__init__" "DuplicateName.__init__" s_DuplicateName___init__ (He.ma K (He.ga K "DuplicateName") "__init__") d_DuplicateName___init__ := HeX.fun_of D_DuplicateName___init__
  have b_DuplicateName___init__ := F_DuplicateName___init__.binds (ps := ["self", "name"]) fun _ _ _ _ _ _ us hl => match us, hl with | [_, _], _ => rfl
  have F_UnknownName___init__ : Fun K "__init__" "UnknownName.__init__" s_UnknownName___init__ (He.ma K (He.ga K "UnknownName") "__init__") d_UnknownName___init__ := HeX.fun_of D_UnknownName___init__
  have b_UnknownName___init__ := F_UnknownName___init__.binds (ps := ["self", "name"]) fun _ _ _ _ _ _ us hl => match us, hl with | [_, _], _ => rfl
  have F_WrongArguments___init__ : Fun K "__init__" "WrongArguments.__init__" s_WrongArguments___init__ (He.ma K (He.ga K "WrongArguments") "__init__") d_WrongArguments___init__ := HeX.fun_of D_WrongArguments___init__
  have b_WrongArguments___init__ := F_WrongArguments___init__.binds (ps := ["self", "place"]) fun _ _ _ _ _ _ us hl => match us, hl with | [_, _], _ => rfl
  have F_InvalidFinally___init__ : Fun K "__init__" "InvalidFinally.__init__" s_InvalidFinally___init__ (He.ma K (He.ga K "InvalidFinally") "__init__") d_InvalidFinally___init__ := HeX.fun_of D_InvalidFinally___init__
  have b_InvalidFinally___init__ := F_InvalidFinally___init__.binds (ps := ["self", "place"]) fun _ _ _ _ _ _ us hl => match us, hl with | [_, _], _ => rfl
  have F__law_parts : Fun K "_law_parts" "_law_parts" s__law_parts (He.ga K "_law_parts") d__law_parts := HeX.fun_of D__law_parts
  have b__law_parts := F__law_parts.binds (ps := ["_law_statement"]) fun _ _ _ _ _ _ us hl => match us, hl with | [_], _ => rfl
  have F__law_size : Fun K "_law_size" "_law_size" s__law_size (He.ga K "_law_size") d__law_size := HeX.fun_of D__law_size
  have b__law_size := F__law_size.binds (ps := ["_law_block"]) fun _ _ _ _ _ _ us hl => match us, hl with | [_], _ => rfl
  have F__law_numbered : Fun K "_law_numbered" "_law_numbered" s__law_numbered (He.ga K "_law_numbered") d__law_numbered := HeX.fun_of D__law_numbered
  have b__law_numbered := F__law_numbered.binds (ps := ["_law_block", "_law_first"]) fun _ _ _ _ _ _ us hl => match us, hl with | [_, _], _ => rfl
  have F__law_own_names : Fun K "_law_own_names" "_law_own_names" s__law_own_names (He.ga K "_law_own_names") d__law_own_names := HeX.fun_of D__law_own_names
  have b__law_own_names := F__law_own_names.binds (ps := ["_law_tree", "_law_function"]) fun _ _ _ _ _ _ us hl => match us, hl with | [_, _], _ => rfl
  have F__law_pick : Fun K "_law_pick" "_law_pick" s__law_pick (He.ga K "_law_pick") d__law_pick := HeX.fun_of D__law_pick
  have b__law_pick := F__law_pick.binds (ps := ["_law_pool_here", "_law_words"]) fun _ _ _ _ _ _ us hl => match us, hl with | [_, _], _ => rfl
  have F__law_sum : Fun K "_law_sum" "_law_sum" s__law_sum (He.ga K "_law_sum") d__law_sum := HeX.fun_of D__law_sum
  have b__law_sum := F__law_sum.binds (ps := ["_law_pool_here", "_law_words"]) fun _ _ _ _ _ _ us hl => match us, hl with | [_, _], _ => rfl
  have F__law_call : Fun K "_law_call" "_law_call" s__law_call (He.ga K "_law_call") d__law_call := HeX.fun_of D__law_call
  have b__law_call := F__law_call.binds (ps := ["_law_pool_here", "_law_words"]) fun _ _ _ _ _ _ us hl => match us, hl with | [_, _], _ => rfl
  have F__law_piece : Fun K "_law_piece" "_law_piece" s__law_piece (He.ga K "_law_piece") d__law_piece := HeX.fun_of D__law_piece
  have b__law_piece := F__law_piece.binds (ps := ["_law_pool_here", "_law_words", "_law_depth"]) fun _ _ _ _ _ _ us hl => match us, hl with | [_, _, _], _ => rfl
  have F__law_twice : Fun K "_law_twice" "_law_twice" s__law_twice (He.ga K "_law_twice") d__law_twice := HeX.fun_of D__law_twice
  have b__law_twice := F__law_twice.binds (ps := ["_law_words"]) fun _ _ _ _ _ _ us hl => match us, hl with | [_], _ => rfl
  have F__law_words_of : Fun K "_law_words_of" "_law_words_of" s__law_words_of (He.ga K "_law_words_of") d__law_words_of := HeX.fun_of D__law_words_of
  have b__law_words_of := F__law_words_of.binds (ps := ["_law_args"]) fun _ _ _ _ _ _ us hl => match us, hl with | [_], _ => rfl
  have F__law_of_calls : Fun K "_law_of_calls" "_law_of_calls" s__law_of_calls (He.ga K "_law_of_calls") d__law_of_calls := HeX.fun_of D__law_of_calls
  have b__law_of_calls := F__law_of_calls.binds (ps := ["_law_tree", "_law_variables", "_law_place", "_law_calls"]) fun _ _ _ _ _ _ us hl => match us, hl with | [_, _, _, _], _ => rfl
  have F__law_errors : Fun K "_law_errors" "_law_errors" s__law_errors (He.ga K "_law_errors") d__law_errors := HeX.fun_of D__law_errors
  have b__law_errors := F__law_errors.binds (ps := ["_law_tree", "_law_variables", "_law_place", "_law_statement"]) fun _ _ _ _ _ _ us hl => match us, hl with | [_, _, _, _], _ => rfl
  have F__law_due : Fun K "_law_due" "_law_due" s__law_due (He.ga K "_law_due") d__law_due := HeX.fun_of D__law_due
  have b__law_due := F__law_due.binds (ps := ["_law_tree"]) fun _ _ _ _ _ _ us hl => match us, hl with | [_], _ => rfl
  have F__law_told : Fun K "_law_told" "_law_told" s__law_told (He.ga K "_law_told") d__law_told := HeX.fun_of D__law_told
  have b__law_told := F__law_told.binds (ps := ["_law_tree"]) fun _ _ _ _ _ _ us hl => match us, hl with | [_], _ => rfl
  have F_law : Fun K "law" "law" s_law (He.ga K "law") d_law := HeX.fun_of D_law
  obtain ⟨_, _, _, _, _, _, _, _, _, _, _, _, _, _, xl_DuplicateName⟩ := HeX.excX_ok q85
  obtain ⟨_, _, _, _, _, _, _, _, _, _, _, _, _, _, xl_UnknownName⟩ := HeX.excX_ok q95
  obtain ⟨_, _, _, _, _, _, _, _, _, _, _, _, _, _, xl_WrongArguments⟩ := HeX.excX_ok q105
  obtain ⟨_, _, _, _, _, _, _, _, _, _, _, _, _, _, xl_InvalidFinally⟩ := HeX.excX_ok q115
  have T : Txt K mg { f_parts_of := He.ga K "parts_of", f_parts_of_d := d_parts_of, f_blocks_in := He.ga K "blocks_in", f_blocks_in_d := d_blocks_in, f_listed := He.ga K "listed", f_listed_d := d_listed, f_calls_in := He.ga K "calls_in", f_calls_in_d := d_calls_in, f_sums_in := He.ga K "sums_in", f_sums_in_d := d_sums_in, f_assigned_by := He.ga K "assigned_by", f_assigned_by_d := d_assigned_by, f_locals_of := He.ga K "locals_of", f_locals_of_d := d_locals_of, f_uses_in := He.ga K "uses_in", f_uses_in_d := d_uses_in, f_uses_of_target := He.ga K "uses_of_target", f_uses_of_target_d := d_uses_of_target, f_uses_of_sum := He.ga K "uses_of_sum", f_uses_of_sum_d := d_uses_of_sum, f_uses_of_variables := He.ga K "uses_of_variables", f_uses_of_variables_d := d_uses_of_variables, f_uses_of_kinds := He.ga K "uses_of_kinds", f_uses_of_kinds_d := d_uses_of_kinds, f_uses_of_handlers := He.ga K "uses_of_handlers", f_uses_of_handlers_d := d_uses_of_handlers, f_uses_of_args := He.ga K "uses_of_args", f_uses_of_args_d := d_uses_of_args, f_uses_of_made := He.ga K "uses_of_made", f_uses_of_made_d := d_uses_of_made, f_check_sizes := He.ga K "check_sizes", f_check_sizes_d := d_check_sizes, f_largest := He.ga K "largest", f_largest_d := d_largest, f_by_place_in := He.ga K "by_place_in", f_by_place_in_d := d_by_place_in, f_depth_of := He.ga K "depth_of", f_depth_of_d := d_depth_of, f_numbers_in := He.ga K "numbers_in", f_numbers_in_d := d_numbers_in, f_check_names := He.ga K "check_names", f_check_names_d := d_check_names, f_own_names := He.ga K "own_names", f_own_names_d := d_own_names, f_check_different := He.ga K "check_different", f_check_different_d := d_check_different, f_check_known := He.ga K "check_known", f_check_known_d := d_check_known, f_check_statement := He.ga K "check_statement", f_check_statement_d := d_check_statement, f_are_fitting := He.ga K "are_fitting", f_are_fitting_d := d_are_fitting, f_is_barred := He.ga K "is_barred", f_is_barred_d := d_is_barred, f_is_integer := He.ga K "is_integer", f_is_integer_d := d_is_integer, f_is_word := He.ga K "is_word", f_is_word_d := d_is_word, f_is_name := He.ga K "is_name", f_is_name_d := d_is_name, f_is_tree := He.ga K "is_tree", f_is_tree_d := d_is_tree, f_is_parted := He.ga K "is_parted", f_is_parted_d := d_is_parted, f_are_all := He.ga K "are_all", f_are_all_d := d_are_all, f_are_names := He.ga K "are_names", f_are_names_d := d_are_names, f_are_some_names := He.ga K "are_some_names", f_are_some_names_d := d_are_some_names, f_is_keep := He.ga K "is_keep", f_is_keep_d := d_is_keep, f_is_sum := He.ga K "is_sum", f_is_sum_d := d_is_sum, f_is_term := He.ga K "is_term", f_is_term_d := d_is_term, f_is_function := He.ga K "is_function", f_is_function_d := d_is_function, f_is_param := He.ga K "is_param", f_is_param_d := d_is_param, f_is_block := He.ga K "is_block", f_is_block_d := d_is_block, f_is_statement := He.ga K "is_statement", f_is_statement_d := d_is_statement, f_is_part := He.ga K "is_part", f_is_part_d := d_is_part, f_is_handler := He.ga K "is_handler", f_is_handler_d := d_is_handler, f_is_target := He.ga K "is_target", f_is_target_d := d_is_target, f_is_arg := He.ga K "is_arg", f_is_arg_d := d_is_arg, f_are_args := He.ga K "are_args", f_are_args_d := d_are_args, f_is_made := He.ga K "is_made", f_is_made_d := d_is_made, f_Program___init__ := He.ma K (He.ga K "Program") "__init__", f_Program___init___d := d_Program___init__, f_named_functions := He.ga K "named_functions", f_named_functions_d := d_named_functions, f__law_pool := He.ga K "_law_pool", f__law_pool_d := d__law_pool, f__law_mixed := He.ga K "_law_mixed", f__law_mixed_d := d__law_mixed, f__law_draw := He.ga K "_law_draw", f__law_draw_d := d__law_draw, f__law_names := He.ga K "_law_names", f__law_names_d := d__law_names, f_DuplicateName___init__ := He.ma K (He.ga K "DuplicateName") "__init__", f_DuplicateName___init___d := d_DuplicateName___init__, f_UnknownName___init__ := He.ma K (He.ga K "UnknownName") "__init__", f_UnknownName___init___d := d_UnknownName___init__, f_WrongArguments___init__ := He.ma K (He.ga K "WrongArguments") "__init__", f_WrongArguments___init___d := d_WrongArguments___init__, f_InvalidFinally___init__ := He.ma K (He.ga K "InvalidFinally") "__init__", f_InvalidFinally___init___d := d_InvalidFinally___init__, f__law_parts := He.ga K "_law_parts", f__law_parts_d := d__law_parts, f__law_size := He.ga K "_law_size", f__law_size_d := d__law_size, f__law_numbered := He.ga K "_law_numbered", f__law_numbered_d := d__law_numbered, f__law_own_names := He.ga K "_law_own_names", f__law_own_names_d := d__law_own_names, f__law_pick := He.ga K "_law_pick", f__law_pick_d := d__law_pick, f__law_sum := He.ga K "_law_sum", f__law_sum_d := d__law_sum, f__law_call := He.ga K "_law_call", f__law_call_d := d__law_call, f__law_piece := He.ga K "_law_piece", f__law_piece_d := d__law_piece, f__law_twice := He.ga K "_law_twice", f__law_twice_d := d__law_twice, f__law_words_of := He.ga K "_law_words_of", f__law_words_of_d := d__law_words_of, f__law_of_calls := He.ga K "_law_of_calls", f__law_of_calls_d := d__law_of_calls, f__law_errors := He.ga K "_law_errors", f__law_errors_d := d__law_errors, f__law_due := He.ga K "_law_due", f__law_due_d := d__law_due, f__law_told := He.ga K "_law_told", f__law_told_d := d__law_told, f_law := He.ga K "law", f_law_d := d_law, c_Program := He.ga K "Program", c_DuplicateName := He.ga K "DuplicateName", c_UnknownName := He.ga K "UnknownName", c_WrongArguments := He.ga K "WrongArguments", c_InvalidFinally := He.ga K "InvalidFinally", c_ProgramError := He.ga K "ProgramError", t_KEYWORDS := He.ga K "KEYWORDS", t_BARRED_FROM_FINALLY := He.ga K "BARRED_FROM_FINALLY" } := {
    F_parts_of := F_parts_of,
    b_parts_of := b_parts_of,
    g_parts_of := PySem.W.mg_of X G q0,
    F_blocks_in := F_blocks_in,
    b_blocks_in := b_blocks_in,
    g_blocks_in := PySem.W.mg_of X G q1,
    F_listed := F_listed,
    b_listed := b_listed,
    g_listed := PySem.W.mg_of X G q2,
    F_calls_in := F_calls_in,
    b_calls_in := b_calls_in,
    g_calls_in := PySem.W.mg_of X G q3,
    F_sums_in := F_sums_in,
    b_sums_in := b_sums_in,
    g_sums_in := PySem.W.mg_of X G q4,
    F_assigned_by := F_assigned_by,
    b_assigned_by := b_assigned_by,
    g_assigned_by := PySem.W.mg_of X G q5,
    F_locals_of := F_locals_of,
    b_locals_of := b_locals_of,
    g_locals_of := PySem.W.mg_of X G q6,
    F_uses_in := F_uses_in,
    b_uses_in := b_uses_in,
    g_uses_in := PySem.W.mg_of X G q7,
    F_uses_of_target := F_uses_of_target,
    b_uses_of_target := b_uses_of_target,
    g_uses_of_target := PySem.W.mg_of X G q8,
    F_uses_of_sum := F_uses_of_sum,
    b_uses_of_sum := b_uses_of_sum,
    g_uses_of_sum := PySem.W.mg_of X G q9,
    F_uses_of_variables := F_uses_of_variables,
    b_uses_of_variables := b_uses_of_variables,
    g_uses_of_variables := PySem.W.mg_of X G q10,
    F_uses_of_kinds := F_uses_of_kinds,
    b_uses_of_kinds := b_uses_of_kinds,
    g_uses_of_kinds := PySem.W.mg_of X G q11,
    F_uses_of_handlers := F_uses_of_handlers,
    b_uses_of_handlers := b_uses_of_handlers,
    g_uses_of_handlers := PySem.W.mg_of X G q12,
    F_uses_of_args := F_uses_of_args,
    b_uses_of_args := b_uses_of_args,
    g_uses_of_args := PySem.W.mg_of X G q13,
    F_uses_of_made := F_uses_of_made,
    b_uses_of_made := b_uses_of_made,
    g_uses_of_made := PySem.W.mg_of X G q14,
    F_check_sizes := F_check_sizes,
    b_check_sizes := b_check_sizes,
    g_check_sizes := PySem.W.mg_of X G q15,
    F_largest := F_largest,
    b_largest := b_largest,
    g_largest := PySem.W.mg_of X G q16,
    F_by_place_in := F_by_place_in,
    b_by_place_in := b_by_place_in,
    g_by_place_in := PySem.W.mg_of X G q17,
    F_depth_of := F_depth_of,
    b_depth_of := b_depth_of,
    g_depth_of := PySem.W.mg_of X G q18,
    F_numbers_in := F_numbers_in,
    b_numbers_in := b_numbers_in,
    g_numbers_in := PySem.W.mg_of X G q19,
    F_check_names := F_check_names,
    b_check_names := b_check_names,
    g_check_names := PySem.W.mg_of X G q20,
    F_own_names := F_own_names,
    b_own_names := b_own_names,
    g_own_names := PySem.W.mg_of X G q21,
    F_check_different := F_check_different,
    b_check_different := b_check_different,
    g_check_different := PySem.W.mg_of X G q22,
    F_check_known := F_check_known,
    b_check_known := b_check_known,
    g_check_known := PySem.W.mg_of X G q23,
    F_check_statement := F_check_statement,
    b_check_statement := b_check_statement,
    g_check_statement := PySem.W.mg_of X G q24,
    F_are_fitting := F_are_fitting,
    b_are_fitting := b_are_fitting,
    g_are_fitting := PySem.W.mg_of X G q25,
    F_is_barred := F_is_barred,
    b_is_barred := b_is_barred,
    g_is_barred := PySem.W.mg_of X G q26,
    F_is_integer := F_is_integer,
    b_is_integer := b_is_integer,
    g_is_integer := PySem.W.mg_of X G q27,
    F_is_word := F_is_word,
    b_is_word := b_is_word,
    g_is_word := PySem.W.mg_of X G q28,
    F_is_name := F_is_name,
    b_is_name := b_is_name,
    g_is_name := PySem.W.mg_of X G q29,
    F_is_tree := F_is_tree,
    b_is_tree := b_is_tree,
    g_is_tree := PySem.W.mg_of X G q30,
    F_is_parted := F_is_parted,
    b_is_parted := b_is_parted,
    g_is_parted := PySem.W.mg_of X G q31,
    F_are_all := F_are_all,
    b_are_all := b_are_all,
    g_are_all := PySem.W.mg_of X G q32,
    F_are_names := F_are_names,
    b_are_names := b_are_names,
    g_are_names := PySem.W.mg_of X G q33,
    F_are_some_names := F_are_some_names,
    b_are_some_names := b_are_some_names,
    g_are_some_names := PySem.W.mg_of X G q34,
    F_is_keep := F_is_keep,
    b_is_keep := b_is_keep,
    g_is_keep := PySem.W.mg_of X G q35,
    F_is_sum := F_is_sum,
    b_is_sum := b_is_sum,
    g_is_sum := PySem.W.mg_of X G q36,
    F_is_term := F_is_term,
    b_is_term := b_is_term,
    g_is_term := PySem.W.mg_of X G q37,
    F_is_function := F_is_function,
    b_is_function := b_is_function,
    g_is_function := PySem.W.mg_of X G q38,
    F_is_param := F_is_param,
    b_is_param := b_is_param,
    g_is_param := PySem.W.mg_of X G q39,
    F_is_block := F_is_block,
    b_is_block := b_is_block,
    g_is_block := PySem.W.mg_of X G q40,
    F_is_statement := F_is_statement,
    b_is_statement := b_is_statement,
    g_is_statement := PySem.W.mg_of X G q41,
    F_is_part := F_is_part,
    b_is_part := b_is_part,
    g_is_part := PySem.W.mg_of X G q42,
    F_is_handler := F_is_handler,
    b_is_handler := b_is_handler,
    g_is_handler := PySem.W.mg_of X G q43,
    F_is_target := F_is_target,
    b_is_target := b_is_target,
    g_is_target := PySem.W.mg_of X G q44,
    F_is_arg := F_is_arg,
    b_is_arg := b_is_arg,
    g_is_arg := PySem.W.mg_of X G q45,
    F_are_args := F_are_args,
    b_are_args := b_are_args,
    g_are_args := PySem.W.mg_of X G q46,
    F_is_made := F_is_made,
    b_is_made := b_is_made,
    g_is_made := PySem.W.mg_of X G q47,
    F_Program___init__ := F_Program___init__,
    b_Program___init__ := b_Program___init__,
    mk_Program := ⟨q79, q48, q49, q80⟩,
    F_named_functions := F_named_functions,
    b_named_functions := b_named_functions,
    g_named_functions := PySem.W.mg_of X G q50,
    F__law_pool := F__law_pool,
    b__law_pool := b__law_pool,
    g__law_pool := PySem.W.mg_of X G q51,
    F__law_mixed := F__law_mixed,
    b__law_mixed := b__law_mixed,
    g__law_mixed := PySem.W.mg_of X G q52,
    F__law_draw := F__law_draw,
    b__law_draw := b__law_draw,
    g__law_draw := PySem.W.mg_of X G q53,
    F__law_names := F__law_names,
    b__law_names := b__law_names,
    g__law_names := PySem.W.mg_of X G q54,
    F_DuplicateName___init__ := F_DuplicateName___init__,
    b_DuplicateName___init__ := b_DuplicateName___init__,
    e_DuplicateName := ⟨⟨_, _, _, _, _, _, _, _, _, _, _, _, _, _, _, _, _, _, _, PySem.F.excBase_ValueError, PySem.ErrB.mro_ve, xl_DuplicateName⟩, q86, q87, q88, q55, q89, q90, q91, q92, q93⟩,
    s_DuplicateName := fun x => L2E.sub_of xl_DuplicateName x,
    F_UnknownName___init__ := F_UnknownName___init__,
    b_UnknownName___init__ := b_UnknownName___init__,
    e_UnknownName := ⟨⟨_, _, _, _, _, _, _, _, _, _, _, _, _, _, _, _, _, _, _, PySem.F.excBase_ValueError, PySem.ErrB.mro_ve, xl_UnknownName⟩, q96, q97, q98, q56, q99, q100, q101, q102, q103⟩,
    s_UnknownName := fun x => L2E.sub_of xl_UnknownName x,
    F_WrongArguments___init__ := F_WrongArguments___init__,
    b_WrongArguments___init__ := b_WrongArguments___init__,
    e_WrongArguments := ⟨⟨_, _, _, _, _, _, _, _, _, _, _, _, _, _, _, _, _, _, _, PySem.F.excBase_ValueError, PySem.ErrB.mro_ve, xl_WrongArguments⟩, q106, q107, q108, q57, q109, q110, q111, q112, q113⟩,
    s_WrongArguments := fun x => L2E.sub_of xl_WrongArguments x,
    F_InvalidFinally___init__ := F_InvalidFinally___init__,
    b_InvalidFinally___init__ := b_InvalidFinally___init__,
    e_InvalidFinally := ⟨⟨_, _, _, _, _, _, _, _, _, _, _, _, _, _, _, _, _, _, _, PySem.F.excBase_ValueError, PySem.ErrB.mro_ve, xl_InvalidFinally⟩, q116, q117, q118, q58, q119, q120, q121, q122, q123⟩,
    s_InvalidFinally := fun x => L2E.sub_of xl_InvalidFinally x,
    F__law_parts := F__law_parts,
    b__law_parts := b__law_parts,
    g__law_parts := PySem.W.mg_of X G q59,
    F__law_size := F__law_size,
    b__law_size := b__law_size,
    g__law_size := PySem.W.mg_of X G q60,
    F__law_numbered := F__law_numbered,
    b__law_numbered := b__law_numbered,
    g__law_numbered := PySem.W.mg_of X G q61,
    F__law_own_names := F__law_own_names,
    b__law_own_names := b__law_own_names,
    g__law_own_names := PySem.W.mg_of X G q62,
    F__law_pick := F__law_pick,
    b__law_pick := b__law_pick,
    g__law_pick := PySem.W.mg_of X G q63,
    F__law_sum := F__law_sum,
    b__law_sum := b__law_sum,
    g__law_sum := PySem.W.mg_of X G q64,
    F__law_call := F__law_call,
    b__law_call := b__law_call,
    g__law_call := PySem.W.mg_of X G q65,
    F__law_piece := F__law_piece,
    b__law_piece := b__law_piece,
    g__law_piece := PySem.W.mg_of X G q66,
    F__law_twice := F__law_twice,
    b__law_twice := b__law_twice,
    g__law_twice := PySem.W.mg_of X G q67,
    F__law_words_of := F__law_words_of,
    b__law_words_of := b__law_words_of,
    g__law_words_of := PySem.W.mg_of X G q68,
    F__law_of_calls := F__law_of_calls,
    b__law_of_calls := b__law_of_calls,
    g__law_of_calls := PySem.W.mg_of X G q69,
    F__law_errors := F__law_errors,
    b__law_errors := b__law_errors,
    g__law_errors := PySem.W.mg_of X G q70,
    F__law_due := F__law_due,
    b__law_due := b__law_due,
    g__law_due := PySem.W.mg_of X G q71,
    F__law_told := F__law_told,
    b__law_told := b__law_told,
    g__law_told := PySem.W.mg_of X G q72,
    F_law := F_law,
    g_law := PySem.W.mg_of X G q73,
    cl_Program := ⟨q75, q76, q77, q78⟩,
    mg_Program := PySem.W.mg_of X G q74,
    n_Program_globals := q81,
    n_Program__tree := q82,
    n_Program__named := q83,
    mg_DuplicateName := PySem.W.mg_of X G q84,
    mg_UnknownName := PySem.W.mg_of X G q94,
    mg_WrongArguments := PySem.W.mg_of X G q104,
    mg_InvalidFinally := PySem.W.mg_of X G q114,
    mg_ProgramError := PySem.W.mg_of X G q124,
    rd := ⟨q129, q130⟩,
    pe := ⟨q125, q126, q127⟩,
    nd := q128,
    int := PySem.W.mg_none_of X G q131,
    len := PySem.W.mg_none_of X G q132,
    all := PySem.W.mg_none_of X G q133,
    any := PySem.W.mg_none_of X G q134,
    max := PySem.W.mg_none_of X G q135,
    isinstance := PySem.W.mg_none_of X G q136,
    str := PySem.W.mg_none_of X G q137,
    tuple := PySem.W.mg_none_of X G q138,
    sorted := PySem.W.mg_none_of X G q139,
    abs := PySem.W.mg_none_of X G q140,
    range := PySem.W.mg_none_of X G q141,
    bool := PySem.W.mg_none_of X G q142,
    list := PySem.W.mg_none_of X G q143,
    sum := PySem.W.mg_none_of X G q144,
    zip := PySem.W.mg_none_of X G q145,
    enumerate := PySem.W.mg_none_of X G q146,
    set := PySem.W.mg_none_of X G q147,
    g_LETTERS := He.str_ok X G q148,
    g_DIGITS := He.str_ok X G q149,
    g_MOST_GLOBALS := He.int_ok X G q150,
    g_MOST_KINDS := He.int_ok X G q151,
    g_MOST_KEEPS := He.int_ok X G q152,
    g_MOST_FUNCTIONS := He.int_ok X G q153,
    g_MOST_PARAMETERS := He.int_ok X G q154,
    g_MOST_BY_PLACE := He.int_ok X G q155,
    g_MOST_LOCALS := He.int_ok X G q156,
    g_MOST_STATEMENTS := He.int_ok X G q157,
    g_MOST_NESTING := He.int_ok X G q158,
    g_LARGEST_NUMBER := He.int_ok X G q159,
    g_MOST_NESTED := He.int_ok X G q160,
    g_KEYWORDS := PySem.W.mg_of X G q161,
    q_KEYWORDS := fun H => HeX.tup_of (by rfl) (He.tupB_ok q162 H),
    g_BARRED_FROM_FINALLY := PySem.W.mg_of X G q163,
    q_BARRED_FROM_FINALLY := fun H => HeX.tup_of (by rfl) (He.tupB_ok q164 H) }
  have b := FunD.bindsA (ps := ["_law_script"]) D_law fun _ _ _ _ _ _ us hl => match us, hl with | [_], _ => rfl
  exact ⟨_, fun s v => b s [v] rfl, fun base _ _ => ok_law T (tS := He.ga K "SHAPES") (tU := He.ga K "USES") (tF := He.ga K "FORMS") ⟨PySem.W.mg_of X G q165, PySem.W.mg_of X G q177, PySem.W.mg_of X G q187, kD_SHAPES, kD_USES, kD_FORMS, HeX.kt_of (by rfl) q166, HeX.kt_of (by rfl) q167, HeX.kt_of (by rfl) q168, HeX.kt_of (by rfl) q169, HeX.kt_of (by rfl) q170, HeX.kt_of (by rfl) q171, HeX.kt_of (by rfl) q172, HeX.kt_of (by rfl) q173, HeX.kt_of (by rfl) q174, HeX.kt_of (by rfl) q175, HeX.kt_of (by rfl) q176, q178, q179, q180, q181, q182, q183, q184, q185, q186, q188, q189, q190, q191, q192, q193, q194, q195, q196, q197⟩⟩
end K10
open PySem PySem.W PySem.Calls PyProof.Rows
set_option maxRecDepth 100000 in
set_option maxHeartbeats 0 in
theorem PySem.Challenge.cw_allornothing_k10_errors_of_names_holds : PySem.Challenge.rw_allornothing_k10_errors_of_names.Holds := by
  w_on; o_law
  refine HandSHeadRun.head_any (r := OpenLaw.row PySem.Challenge.rw_allornothing_k10_errors_of_names) (q := view (OpenLaw.row PySem.Challenge.rw_allornothing_k10_errors_of_names).prog [148]) (H := K10.hk) (ob := HeX.obX 6 K10.chk K10.fnsX K10.tabL) (M := 14000) (loose := K10.nmL) (d := HandSHeadRun.topDef (OpenLaw.row PySem.Challenge.rw_allornothing_k10_errors_of_names).prog 148) (kwd := []) HeX.obX_eq
    (by kernel_rfl) (fun s => by kernel_rfl) K10.run (by kernel_rfl) (by kernel_rfl) (by kernel_rfl) (by rfl) (by first | assumption | decide +kernel) (by decide +kernel) ⟨rfl, rfl, rfl, rfl, rfl, by decide +kernel⟩ ?hw ?hc
  case hw => w_witness2
  case hc =>
    refine L2.walk_ofE (l := PySem.Challenge.rw_allornothing_k10_errors_of_names) (n := 63) (k := 60) (x := "_law_script") (CX := L2.CX0) rfl (by decide) (by kernel_rfl) ⟨rfl, by decide, by decide⟩ ?F (fun _ _ _ _ z => z)
    intro w mg fa h Y G hmg0
    obtain ⟨K, KX, c⟩ := Y
    have hmg : mg ("law" : PySem.Str) = some (.ref fa) := by
      have e : (HandSHeadRun.topDef (OpenLaw.row PySem.Challenge.rw_allornothing_k10_errors_of_names).prog 148).name = ("law" : PySem.Str) := by kernel_rfl
      rw [← e]
      exact hmg0
    obtain ⟨fd, hb, hF⟩ := K10.facts (P := (PySem.Challenge.rw_allornothing_k10_errors_of_names).prog) (w := w) KX G hmg c
    exact ⟨K, fd, K10.spLaw K, KX, hb, fun H a ns hl _ hS => ⟨a, ns, rfl, hS, hl, fun _ => rfl⟩, hF⟩
#print axioms PySem.Challenge.cw_allornothing_k10_errors_of_names_holds
