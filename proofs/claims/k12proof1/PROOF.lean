import PyProof.Rows.All
import Wide.All
import OpenK.AllK
import Wide.FinOn
import PyProof.ExcClass
import KE.KExcInit
import KE.KFromBytes
import KE.KExcIs
import KE.KxIndex
import HandS.ExcInit
import HandS.ExcInitHot
import HandS.ExcField
import HandS.ExcIs
import HandS.ExcCtx
import HandS.HotCalls
import HandS.Comp
import HandS.ForMost
import HandS.Wide
import HandS.Steps
import HandS.IsInst
import HandS.More
import HandS.Walk
import HandS.WordsExc
import PySem.Challenge.RW_allornothing_k12_classes_of_errors
set_option Elab.async false
set_option linter.all false
set_option maxRecDepth 100000
set_option maxHeartbeats 8000000
/-! own error classes over any built-in base (KeyError makes its objects by LookupError's __new__): what is asked of the bases in the mro is asked one by one -/
namespace PySem
namespace ErrB
open PySem.W PySem.Calls PyProof.Rows PySem.HandSPX
/-- the bases behind an own class -/
structure Mro (B : String) (bm : List Value) : Prop where
  hB : bm.contains (.type B) = true
  hA : bm.contains (.type "AttributeError") = false
  hN : bm.contains (.type "NameError") = false
  hO : bm.contains (.type "object") = true
  hE : bm.contains (.type "BaseException") = true
  ps : ∀ self : Value, refuseLoop self "__setattr__" bm = pure ()
section
variable {prog : Program} {w : World} {A : Around} {E : Value → Shared → Prop} {R : Result → Shared → Prop} {h : Heap} {g : Array GenState} {d : Drawn} {t : Nat} {os : OsState}
variable {nm q : Str} {C N : Addr} {bs bm bmB : List Value} {hdct : Bool} {sn : List Str} {sub : List Value} {ab : Bool} {col : Option Bool} {dd : Option Addr} {k0 k1 k2 k3 k5 : Option Value} {B newId initId : String}
theorem check_newM {M : Model} (F : ExcBaseFacts B newId initId bmB) (m : Mro B bm) {rest : List Value} {Q : Unit → Shared → Prop}
    (hC : h.get? C = some (excClassObj nm q C N bs bm hdct sn sub ab col dd k0 k1 k2 k3 k5 newId)) (hq : Q () ⟨h, g, d, t, os⟩) : wpAny M A (checkBuiltinCall newId ⟨.ref C :: rest, []⟩) Q E ⟨h, g, d, t, os⟩ := by
  have hcont : (Value.ref C :: bm).contains (.type B) = true := by rw [List.contains_cons, m.hB, Bool.or_true]
  have hstar := F.noStar
  simp only [checkBuiltinCall, F.newKind, F.newSplit, F.newRow]
  repeat (first | refine wpAny_loadPart_at hC ?_ | (refine wpAny_isSubtype_exc hC ?_; rw [hcont]) | refine wpAny_staticBase_exc hC ?_ | refine wpAny_madeBy_exc hC ?_ | simp only [bne_self_eq_false, Bool.false_eq_true, if_false] | wp_step)
  exact hq
theorem newM (F : ExcBaseFacts B newId initId bmB) (m : Mro B bm) {rest : List Value}
    (hC : h.get? C = some (excClassObj nm q C N bs bm hdct sn sub ab col dd k0 k1 k2 k3 k5 newId))
    (hq : R (.ok (.ret (.ref (h.objs.size + 1)))) ⟨(h.push (W.kdv_tup rest)).push (excO C h.objs.size), g, d, t, os⟩) (hrest : rest.length ≤ sizeLine) :
    codeAny (model prog w) A (.builtin newId ⟨.ref C :: rest, []⟩) R ⟨h, g, d, t, os⟩ := by
  have hends := F.ends
  have hcB : (Value.ref C :: bm).contains (.type B) = true := by rw [List.contains_cons, m.hB, Bool.or_true]
  have hcA : (Value.ref C :: bm).contains (.type "AttributeError") = false := by rw [List.contains_cons, m.hA]; rfl
  have hcN : (Value.ref C :: bm).contains (.type "NameError") = false := by rw [List.contains_cons, m.hN]; rfl
  refine codeAny_builtinAt F.entry ?_
  unfold Builtin.«BaseException.__new__»
  refine wpAt_bind ?_
  show wpAt _ _ _ (stack >>= _) _ _ _
  refine wpAt_bind (wpAt_stack fun p below => wpAt_of_wpAny ?_)
  wp_walk
  refine wpAt_of_wpAny ?_
  rw [F.owner]
  repeat (first | with_reducible refine wpAny_madeHere_exc F.canon hC ?_ | with_reducible refine wpAny_loadPart_at hC ?_ | (with_reducible refine wpAny_isSubtype_exc hC ?_; first | rw [hcB] | rw [hcA] | rw [hcN]) | wp_step)
  show R _ _
  rw [Heap.size_push]
  exact hq
theorem type_callM (F : ExcBaseFacts B newId initId bmB) (m : Mro B bm) {rest : List Value} {fI : Addr} {Q : Fin → Shared → Prop}
    (hC : h.get? C = some (excClassObj nm q C N bs bm hdct sn sub ab col dd k0 k1 k2 k3 k5 newId))
    (hi : W.Looks (model prog w) h (typeLookup (.ref C) "__init__") (some (.ref fI))) (hb : ∀ self, W.Looks (model prog w) h (bindSpecial (.ref fI) self) (.ref fI, [self])) (hrest : rest.length ≤ sizeLine)
    (hq : codeAny (model prog w) A (.call (.ref fI) ⟨.ref (h.objs.size + 1) :: rest, []⟩)
      (fun r s' => match r with | .ok (.ret v) => v = .none ∧ Q (.done (.ret (.ref (h.objs.size + 1)))) s' | .ok _ => False | .error e => E e s')
      ⟨(h.push (W.kdv_tup rest)).push (excO C h.objs.size), g, d, t, os⟩) :
    wpAny (model prog w) A (Builtin.«type.__call__» ⟨.ref C :: rest, []⟩) Q E ⟨h, g, d, t, os⟩ := by
  repeat (first | with_reducible refine wpAny_loadPart_at hC ?_ | with_reducible refine wpAny_madeBy_exc hC ?_ | wp_step)
  refine codeAny_call_builtin_code (Code.quiet_builtin _ F.quiet) (check_newM F m hC ?_)
  refine newM F m hC ?_ hrest
  show wpAny _ _ _ _ _ _
  have k : ∀ b o, h.get? b = some o → ((h.push (W.kdv_tup rest)).push (excO C h.objs.size)).get? b = some o := fun b o e => Heap.get?_push_of_some _ (Heap.get?_push_of_some _ e)
  have hC₁ := k _ _ hC
  have hget : ((h.push (W.kdv_tup rest)).push (excO C h.objs.size)).get? (h.objs.size + 1) = some (excO C h.objs.size) := by heap_get
  have hcC : (Value.ref C :: bm).contains (.ref C) = true := by simp
  have i1 := hi.keeps k
  have b1 := (hb (.ref (h.objs.size + 1))).keeps k
  unfold isInstance
  repeat (first | with_reducible refine wpAny_loadPart_at hget ?_ | (with_reducible refine wpAny_isSubtype_exc hC₁ ?_; rw [hcC]) | wp_step)
  show wpAny _ _ (typeLookup (.ref C) _) _ _ _
  refine i1.at ?_
  refine wpAny_holding (wpAny_bind (b1.at ?_))
  refine wpAny_bind (wpAny_call (codeAny_mono hq fun r s' z => ?_))
  rcases r with e | (v | _ | _ | _) <;> first | exact z | exact z.elim | skip
  obtain ⟨rfl, z⟩ := z
  first
    | exact wpAny_pure (wpAny_pure z)
    | (wp_walk; exact z)
theorem callM (F : ExcBaseFacts B newId initId bmB) (m : Mro B bm) {rest : List Value} {fI : Addr}
    (hC : h.get? C = some (excClassObj nm q C N bs bm hdct sn sub ab col dd k0 k1 k2 k3 k5 newId))
    (hi : W.Looks (model prog w) h (typeLookup (.ref C) "__init__") (some (.ref fI))) (hb : ∀ self, W.Looks (model prog w) h (bindSpecial (.ref fI) self) (.ref fI, [self])) (hrest : rest.length ≤ sizeLine)
    (hq : codeAny (model prog w) (A.under (.builtin "type.__call__" ⟨.ref C :: rest, []⟩)) (.call (.ref fI) ⟨.ref (h.objs.size + 1) :: rest, []⟩) (W.InitBack (h.objs.size + 1) R)
      ⟨(h.push (W.kdv_tup rest)).push (excO C h.objs.size), g, d, t, os⟩) :
    codeAny (model prog w) A (.call (.ref C) ⟨rest, []⟩) R ⟨h, g, d, t, os⟩ := by
  have f1 := tc_lookup
  have f2 := tc_bind (.ref C)
  have hTy : (⟨h, g, d, t, os⟩ : Shared).TypeIs (.ref C) "type" := ⟨_, hC, rfl⟩
  refine codeAny_of_tree ?_
  show wpAny _ _ (callAny (.ref C) _) _ _ _
  repeat (any_goals (first | assumption | with_reducible refine wpAny_loadPart_at hC ?_ | wp_step))
  refine ⟨rfl, ?_⟩
  refine codeAny_call_builtin_at (Code.quiet_builtin _ (by decide +kernel)) entry_typeCall (wpAny_check_type_call_sub hC (type_callM F m hC hi hb hrest ?_))
  refine codeAny_mono hq fun r s' z => ?_
  rcases r with e | (v | _ | _ | _) <;> exact z
end
abbrev tKey : List Value := [.type "KeyError", .type "LookupError", .type "Exception", .type "BaseException", .type "object"]
abbrev tRun : List Value := [.type "RuntimeError", .type "Exception", .type "BaseException", .type "object"]
theorem mro_ve {p : Addr} : Mro "ValueError" (.ref p :: veTail) :=
  ⟨by rw [List.contains_cons]; rfl, by rw [List.contains_cons]; rfl, by rw [List.contains_cons]; rfl, by rw [List.contains_cons]; rfl, by rw [List.contains_cons]; rfl, fun self => by rw [refuseLoop_ref]; exact F.store_ValueError.passes self⟩
theorem mro_key : Mro "LookupError" tKey := ⟨by decide +kernel, by decide +kernel, by decide +kernel, by decide +kernel, by decide +kernel, fun self => by kernel_rfl⟩
theorem mro_run : Mro "RuntimeError" tRun := ⟨by decide +kernel, by decide +kernel, by decide +kernel, by decide +kernel, by decide +kernel, fun self => by kernel_rfl⟩
section
open Builtin Builtin.ObjectAttr
variable {prog : Program} {w : World} {A : Around} {E : Value → Shared → Prop} {R : Result → Shared → Prop} {hp : Heap} {g : Array GenState} {d : Drawn} {t : Nat} {os : OsState}
/-- the first field of such an object -/
theorem osaM {K : W.Frag} {name : Str} {tk : Tok} {v : Value} {x C : Addr} {fv : Array Value} {cd : ClassData} {B : String} {bm : List Value}
    (X : K.In hp) (hx : hp.get? x = some { cls := .ref C, data := .fields fv }) (hcd : W.clsIn K C = some cd) (hmro : cd.mro = .ref C :: bm) (m : Mro B bm) (hh : cd.hasDict = true) (ha : W.findIn K (.ref C) name = some none)
    (hq : ∀ h' tk' dx, (∀ b o, b ≠ x → hp.get? b = some o → h'.get? b = some o) → hp.objs.size ≤ dx → dx ≠ x → h'.get? x = some { cls := .ref C, dict := some dx, data := .fields fv } →
      h'.Ns1 dx (fun y => if y = name then some v else none) → R (.ok (.ret .none)) ⟨h', g, d, tk', os⟩) :
    codeAny (model prog w) A (.call (.builtin "object.__setattr__") ⟨[.ref x, .str name tk, v], []⟩) R ⟨hp, g, d, t, os⟩ := by
  have I : W.InstAt hp x { cls := .ref C, data := .fields fv } C none := ⟨hx, rfl, rfl, trivial⟩
  have SF := F.store_object
  have ne : cd.mro.isEmpty = false := by rw [hmro]; rfl
  have hob : cd.mro.contains (.type "object") = true := by rw [hmro, List.contains_cons, m.hO, Bool.or_true]
  have hxs : x ≠ hp.objs.size := Nat.ne_of_lt (Heap.lt_size hx)
  have sub : W.Looks (model prog w) hp (isInstance (.ref x) (.type "object")) true := I.type.andThen (W.looks_mroIn X (by unfold W.mroIn; rw [hcd, Option.bind_some, if_neg (by rw [ne]; decide), hob]))
  refine codeAny_call_builtin SF.slot.plain SF.entry (@W.check_slot (model prog w) _ _ ⟨hp, g, d, t, os⟩ "object.__setattr__" "object" "__setattr__" (.ref x) [.str name tk, v] [] _ SF.kind SF.split sub (SF.args (.ref x) (.str name tk) v) ?_)
  have hmr : W.Looks (model prog w) hp (mroOf (.ref C)) cd.mro := (W.looks_clsIn X hcd).andThen .now
  have L3 : W.Looks (model prog w) hp (storeTaker? none) none := .now
  have hcls : W.Looks (model prog w) hp (classData C) cd := W.looks_clsIn X hcd
  rw [W.osa_eq, refuse_eq]
  refine wpAny_bind (wpAny_bind (I.type.at (wpAny_bind (hmr.at ?_))))
  rw [hmro, refuseLoop_ref, m.ps]
  refine wpAny_pure (wpAny_bind (I.type.at (wpAny_bind ((W.looks_findIn X ha).at (wpAny_bind (L3.at ?_))))))
  show wpAny _ _ (storeInOwnDict (.ref x) (.ref C) (.str name tk) name v false) _ _ _
  obtain ⟨nm, bs, mro, ns, qn, hd, sn, sb, ab, col, del⟩ := cd
  dsimp only at hh
  subst hh
  unfold storeInOwnDict ownDictForStores
  repeat (first | with_reducible refine store_in_new ?_ ?_ | with_reducible refine wpAny_loadPart_at hx ?_ | with_reducible refine hcls.at ?_ | wp_step)
  · exact ⟨_, #[], _, (Heap.get?_update_ne _ _ _ _ hxs.symm).trans (Heap.get?_push_at rfl rfl), rfl, fun e he => absurd he (by simp), fun _ => rfl⟩
  · intro h' tk' hn' hs
    have hx₁ : (hp.push { cls := .type "dict", data := .dict #[] }).get? x = some { cls := .ref C, data := .fields fv } := Heap.get?_push_of_some _ hx
    refine hq h' tk' hp.objs.size (fun b o hb ho => ?_) (Nat.le_refl _) hxs.symm ?_ hn'
    · exact (hs.2 b (Nat.ne_of_lt (Heap.lt_size ho))).trans ((Heap.get?_update_ne _ _ _ _ hb).trans (Heap.get?_push_of_some _ ho))
    · exact (hs.2 x hxs).trans (Heap.get?_update_self _ hx₁ rfl)
end
end ErrB
end PySem

namespace L2E
open PySem PySem.Spec PyProof.Rows L2 PySem.ErrB
/-- an own error class: its object, its own __init__, its one field -/
structure ErrC (K : PySem.W.Frag) (C fI : Addr) (f : Str) : Prop where
  base : ∃ (B newId initId : String) (bmB bm : List Value) (nm q : Str) (N : Addr) (bs : List Value) (sn : List Str) (sub : List Value) (ab : Bool) (col : Option Bool) (dd : Option Addr) (k0 k1 k2 k3 k5 : Option Value),
    ExcBaseFacts B newId initId bmB ∧ Mro B bm ∧ K.lookup C = some (excClassObj nm q C N bs bm true sn sub ab col dd k0 k1 k2 k3 k5 newId)
  sa : PySem.W.findIn K (.ref C) "__setattr__" = some (some (.builtin "object.__setattr__"))
  ty : PySem.W.typeIn K (.ref C) = some (.type "type")
  kp : PySem.W.keepIn K (.ref C) = true
  ini : PySem.W.findIn K (.ref C) "__init__" = some (some (.ref fI))
  tin : PySem.W.typeIn K (.ref fI) = some (.type "function")
  nf : PySem.W.findIn K (.ref C) f = some none
  ga : PySem.W.findIn K (.ref C) "__getattribute__" = some (some (.builtin "BaseException.__getattribute__"))
  gg : PySem.W.findIn K (.ref C) "__getattr__" = some none
  ha : PySem.W.findIn K (.ref C) "__class__" = some (some (.builtin "object.__class__"))
section
variable {K : PySem.W.Frag} {C fI : Addr} {f : Str}
theorem ErrC.cls (T : ErrC K C fI f) : ∃ (cd : ClassData) (B : String) (bm : List Value), PySem.W.clsIn K C = some cd ∧ cd.mro = .ref C :: bm ∧ Mro B bm ∧ cd.hasDict = true := by
  obtain ⟨B, newId, initId, bmB, bm, nm, q, N, bs, sn, sub, ab, col, dd, k0, k1, k2, k3, k5, F, m, hC⟩ := T.base
  exact ⟨{ name := nm, bases := bs, mro := .ref C :: bm, ns := N, qualname := q, hasDict := true, slotNames := sn, subclasses := sub, abstract := ab, collection := col, hasDel := false }, B, bm, by unfold PySem.W.clsIn; rw [hC] <;> rfl, rfl, m, rfl⟩
theorem ErrC.mro (T : ErrC K C fI f) : ∃ (B : String) (bm : List Value), Mro B bm ∧ ∀ x : Value, PySem.W.mroIn K C x = some ((Value.ref C :: bm).contains x) := by
  obtain ⟨cd, B, bm, hc, hm, m, _⟩ := T.cls
  refine ⟨B, bm, m, fun x => ?_⟩
  unfold PySem.W.mroIn
  rw [hc, Option.bind_some, hm]
  rfl
theorem ErrC.sub (T : ErrC K C fI f) : PySem.W.subIn K (.ref C) (.type "BaseException") = some true := by
  obtain ⟨B, bm, m, h⟩ := T.mro
  show PySem.W.mroIn K C _ = _
  rw [h, List.contains_cons, m.hE, Bool.or_true]
theorem ErrC.dict (T : ErrC K C fI f) : PySem.W.hasDictIn K C = true := by
  obtain ⟨cd, B, bm, hc, hm, m, hd⟩ := T.cls
  unfold PySem.W.hasDictIn
  rw [hc]
  exact hd
theorem ErrC.xfC (T : ErrC K C fI f) : XfC K C := ⟨T.ga, T.gg, T.sub, T.dict⟩
end
section
variable {X : Cx} {pins : List (Addr × Obj)} {σ : L2.St} {H : Hp} {s : Shared} {a C fI dx : Addr} {f : Str} {y : V} {u : Value} {Q : Unit → Shared → Prop} {E : Value → Shared → Prop} {A : Around}
/-- self.f = y, the first one -/
theorem ostE (T : ErrC X.K C fI f) (I : Inv X pins σ H s) (e : H a = some (exo a C none)) (ry : RelV y u)
    (h : ∀ dx s', H dx = none → dx ≠ a → Inv X pins σ (upd (upd H dx (exd dx [(f, y)])) a (exo a C (some dx))) s' → Q () s') : wpAny (model X.prog X.w) A (setAttr (.ref a) f u) Q E s := by
  obtain ⟨cd, B, bm, hcl, hm, m, hd⟩ := T.cls
  obtain ⟨t1, ho⟩ := exo_at I.hok e
  obtain ⟨hp, g, d, t, os⟩ := s
  refine PySem.W.set_plain I.kIn (ox := { cls := .ref C, dict := none, data := .fields #[.ref t1, .none, .none, .none, .bool false, .none] }) (od := none) ⟨ho, rfl, rfl, trivial⟩ T.sa ?_
  refine PySem.ErrB.osaM I.kIn ho hcl hm m hd T.nf (fun h' tk' dx k dn dne hx hn => ?_)
  have hnd : H dx = none := I.hok.fresh dn
  have old : ∀ {b : Addr} {o : Obj}, hp.get? b = some o → b ≠ dx := fun {b o} q => Nat.ne_of_lt (Nat.lt_of_lt_of_le (Heap.lt_size q) dn)
  have off : ∀ {b : Addr}, H b = none → b ≠ a := fun {b} n z => by
    rw [z, e] at n
    cases n
  have at_ : ∀ {b : Addr} {o : HO}, H b = some o → o ≠ exo a C none → upd (upd H dx (exd dx [(f, y)])) a (exo a C (some dx)) b = some o := fun {b o} q n => by
    rw [upd_ne (at_ne e q fun z => n z.symm), upd_ne (ne_of_none q hnd)]
    exact q
  have Un1 : Un X.fs [] H (upd (upd H dx (exd dx [(f, y)])) a (exo a C (some dx))) hp h' := {
    keep := fun b o q n _ _ => k b o (off n) q
    slot := fun b o q n _ _ => ⟨o.slots, k b o (off n) q⟩
    free := fun b o q n _ => by rw [upd_ne (off n), upd_ne (old q)]; exact n
    there := fun b o q _ => by
      by_cases hb : b = a
      · exact ⟨_, by rw [hb]; exact hx⟩
      · exact ⟨o, k b o hb q⟩
    tups := fun b xs q => at_ q fun z => exo_tup z.symm
    frzs := fun b o v q => at_ q fun z => exo_frz z.symm
    tbls := fun b ps q => ⟨#[], by rw [at_ q fun z => exo_tbl z.symm]; simp⟩ }
  refine h dx _ hnd dne (I.un (t' := tk') Un1 fun b o q => ?_)
  by_cases hb : b = a
  · subst hb
    rw [upd_same] at q
    cases q
    exact exo_ok hx
  · rw [upd_ne hb] at q
    by_cases hd : b = dx
    · subst hd
      rw [upd_same] at q
      cases q
      exact exd_ok hn (relO_put (fs := []) ry fun g => True.intro)
    · rw [upd_ne hd] at q
      exact (I.hok b o q).stay (fun c v hc z => k c v (by
          rcases hc with hc | hc
          · rw [hc]
            exact hb
          · exact at_ne e hc exo_own) z)
        (fun c hc => at_ hc fun z => exo_own z.symm) (fun c xs hc => at_ hc fun z => exo_tup z.symm)
end
/-- self.f = e within the __init__ of an error of the class at C -/
def tOstE (K : PySem.W.Frag) (C fI : Addr) (f : Str) (to te : TE) : TS := fun D σ H => te σ H fun y H1 => to σ H1 fun x H2 => ∃ a : Addr, x = .ref a ∧ H2 a = some (exo a C none) ∧ ∀ dx, H2 dx = none → dx ≠ a → D.nx σ (upd (upd H2 dx (exd dx [(f, y)])) a (exo a C (some dx)))
theorem ps_ostE {X : Cx} {C fI : Addr} {o e : Expr} {to te : TE} {f : Str} {p' pos : Pos} (T : ErrC X.K C fI f) (ho : PE X o to) (he : PE X e te) (hs : swapsWith e (some (.Attribute o f p')) pos.line X.env = pure false := by rfl) : PS X (.Assign [.Attribute o f p'] e pos) (tOstE X.K C fI f to te) := by
  refine ⟨fun pins s σ H D I h => ?_⟩
  refine plainObj_wpAny_Assign_Attribute (thn (he.run pins s σ H _ I h) fun v s1 ⟨y, H1, I1, r1, q1⟩ => thn (ho.run pins s1 σ H1 _ I1 q1) fun u s2 ⟨x, H2, I2, r2, a, ex, ea, q⟩ => ?_) hs
  subst ex
  obtain rfl : u = Value.ref a := r2
  exact ostE T I2 ea r1 fun dx s' n ne J => ⟨σ, _, J, q dx n ne⟩
/-- the promise of the __init__ of an error -/
def spErr (C : Addr) (f : Str) : Sp := fun vs H Q _ => ∃ (a : Addr) (v : V), vs = [.ref a, v] ∧ H a = some (exo a C none) ∧ ∀ dx, H dx = none → dx ≠ a → Q .non (upd (upd H dx (exd dx [(f, v)])) a (exo a C (some dx)))
theorem made_eq {H : Hp} {a C dx : Addr} {f : Str} {v : V} (na : H a = none) : upd (del (upd (upd (upd H a (exo a C none)) dx (exd dx [(f, v)])) a (exo a C (some dx))) a) dx (.xd [(f, v)]) = upd H dx (.xd [(f, v)]) := by
  funext b
  by_cases hd : b = dx
  · rw [hd, upd_same, upd_same]
  · rw [upd_ne hd, upd_ne hd]
    by_cases hb : b = a
    · rw [hb, del_same, na]
    · rw [del_ne hb, upd_ne hb, upd_ne hd, upd_ne hb]
/-- C(e) made, its context None -/
def tMkE (C : Addr) (f : Str) (ta : TA) : L2.St → Hp → XK → Prop := fun σ H Q => ta σ H fun vs H1 => ∃ v, vs = [v] ∧ ∀ d, H1 d = none → Q (.ref C) (some d) (upd H1 d (.xd [(f, v)]))
theorem pmk_err {X : Cx} {CX : CXT} {x : Str} {C fI : Addr} {f : Str} {k : Nat} {fd : FuncData} {ps : List Str} {e : Expr} {es : List Expr} {ta : TA} {p pos : Pos} (T : ErrC X.K C fI f)
    (F1 : FnOk X.prog X.w X.K X.mg X.base CX k fI fd ps (spErr C f)) (hr : Room (k + 1) X.A) (hb : Binds X.K fd ps []) (hx : Passes CX X (fun _ _ _ => False)) (hg : Gl X x) (hm : X.mg x = some (.ref C)) (ha : PA X (e :: es) ta)
    (hdb : (x == ("__debug__" : Str)) = false := by decide) (hs : starEach (e :: es) X.env = (false, eval e X.env) :: starEach es X.env := by rfl) (hpl : (backTo pos (starEach es X.env)).any (·.1) = false := by rfl) :
    L2N.PMk X (.Call (.Name x p) (e :: es) [] pos) (tMkE C f ta) := by
  intro pins s σ H Q I h
  obtain ⟨B, newId, initId, bmB, bm, nm, q, N, bs, sn, sub, ab, col, dd, k0, k1, k2, k3, k5, FB, m, hC⟩ := T.base
  refine wpAny_Call_Name_kw (ld_glob I hg hm ?_ hdb)
  refine PySem.W.callWith_K (h₀ := X.base) I.ok.mod.kin T.kp (thn (ha.run pos pins s σ H _ I h) fun us s1 ⟨vs, H1, I1, r1, v, ev, q1⟩ => ⟨I1.kIn, ?_⟩) hs hpl
  subst ev
  show wpAny _ _ (call (.ref C) us) _ _ _
  obtain ⟨hp, g, dr, tk, os⟩ := s1
  have hsz : hp.objs.size ≤ hp.objs.size + 1 := Nat.le_succ _
  have hn : H1 (hp.objs.size + 1) = none := I1.hok.fresh hsz
  have hus : us.length = 1 := (Paired.length r1).symm
  have kk : ∀ b o, hp.get? b = some o → ((hp.push (PySem.W.kdv_tup us)).push (PySem.HandSPX.excO C hp.objs.size)).get? b = some o := fun b o e => Heap.get?_push_of_some _ (Heap.get?_push_of_some _ e)
  have hget : ((hp.push (PySem.W.kdv_tup us)).push (PySem.HandSPX.excO C hp.objs.size)).get? (hp.objs.size + 1) = some (PySem.HandSPX.excO C hp.objs.size) := by heap_get
  have I2 : Inv X pins σ (upd H1 (hp.objs.size + 1) (exo (hp.objs.size + 1) C none)) ⟨(hp.push (PySem.W.kdv_tup us)).push (PySem.HandSPX.excO C hp.objs.size), g, dr, tk, os⟩ := I1.laid (t' := tk) kk hsz (exo_ok hget)
  have hq : spErr C f [V.ref (hp.objs.size + 1), v] (upd H1 (hp.objs.size + 1) (exo (hp.objs.size + 1) C none))
      (fun w H2 => w = .non ∧ ∃ d, H1 d = none ∧ d ≠ hp.objs.size + 1 ∧ H2 = upd (upd (upd H1 (hp.objs.size + 1) (exo (hp.objs.size + 1) C none)) d (exd d [(f, v)])) (hp.objs.size + 1) (exo (hp.objs.size + 1) C (some d))) (fun _ _ _ => False) :=
    ⟨_, v, rfl, upd_same, fun d hd ne => ⟨rfl, d, by rw [upd_ne ne] at hd; exact hd, ne, rfl⟩⟩
  have r2 : Vals [V.ref (hp.objs.size + 1), v] (Value.ref (hp.objs.size + 1) :: us) := .cons rfl r1
  have hl : (Value.ref (hp.objs.size + 1) :: us ++ []).length = ps.length := by
    rw [← F1.len _ _ _ _ hq, List.append_nil, List.length_cons, hus]
    rfl
  have b2 := hb _ (Value.ref (hp.objs.size + 1) :: us) I2.kIn hl
  rw [List.append_nil] at b2
  refine wpAny_call (PySem.ErrB.callM FB m (I1.kIn _ _ hC) (PySem.W.looks_findIn I1.kIn T.ini) (fun self => PySem.W.bind_fn I1.kIn self T.tin) (by rw [hus, sizeLine_eq]; omega)
    (codeAny_mono (F1.run _ X.stack _ _ ⟨Value.ref (hp.objs.size + 1) :: us, []⟩ (Value.ref (hp.objs.size + 1) :: us) _ _ (fun _ _ _ => False) (hr.make C us []) (I2.env0.make C us []) b2 r2 hq) fun r s' hq' => ?_))
  cases r with
  | error er => exact hx pins σ _ _ er s' I2 hq'
  | ok fl =>
    cases fl with
    | ret u =>
      obtain ⟨w, H2, os2, bare2, un2, hok2, rv, ew, d, hd, hda, eH⟩ := hq'
      subst ew eH
      obtain ⟨h2, g2, d2, t2, os'⟩ := s'
      obtain ⟨t0, G, J, kG, ge, hoe, na⟩ := mk_end0 (d2 := d2) (t2 := t2) (d := d) (fs := [(f, v)]) I1 hsz kk un2 hok2 os2 bare2 upd_same (by rw [upd_ne hda, upd_same]) hd
      refine ⟨rv, hp.objs.size + 1, _, _, ⟨G, g2, d2, t2, os'⟩, _, .ref C, some d, rfl, J, kG, ge, hoe, ⟨rfl, rfl, fun vs hv => ?_⟩, rfl, rfl, na, rfl, bare2, raises_own T.sub T.ty, ?_⟩
      · cases hv
        rfl
      · rw [made_eq hn]
        exact q1 d hd
    | next => exact False.elim hq'
    | brk => exact False.elim hq'
    | cont => exact False.elim hq'
/-! ### isinstance of an exception at hand -/
/-- the world's part of it -/
structure ClsRd (K : PySem.W.Frag) : Prop where
  hn : PySem.W.specialIn K (.builtin "object.__class__") "__get__" = some (some (.builtin "getset_descriptor.__get__"))
  ht : PySem.W.takesIn K (.builtin "object.__class__") = some true
/-- isinstance(e, c), e the exception at a, of the class at D, its dict at dd -/
def rIsX (K : PySem.W.Frag) (D a dd : Addr) : List V → Hp → VK → Prop := fun xs H Q => ∃ (c : V) (cv : Value) (b : Bool) (fs : List (Str × V)), xs = [.ref a, c] ∧ (∀ u, RelV c u → u = cv) ∧ PySem.W.kitOne K (.ref D) cv = some b ∧ H dd = some (.xd fs) ∧ Q (.bl b) H
theorem call_isX {X : Cx} {a D fI dd : Addr} {f : Str} {oe : Obj} (T : ErrC X.K D fI f) (R : ClsRd X.K) (hp : (a, oe) ∈ X.pn) (hz : Zc (.ref D) (some dd) oe) (hf : ∃ vs, oe.data = .fields vs) : CallR X (.builtin "isinstance") (rIsX X.K D a dd) := by
  intro pins s σ H xs us Q I r h
  obtain ⟨c, cv, b, fs, rfl, hcv, e, ed, q⟩ := h
  cases r with
  | cons rx rr =>
    cases rr with
    | cons rt rr =>
      cases rr
      cases rx
      have ec := hcv _ rt
      subst ec
      obtain ⟨hget, _⟩ := I.pin (a, oe) (List.mem_append.mpr (.inl hp))
      have hx : ObjOk X.prog X.w H s.heap dd (.xd fs) := I.hok dd _ ed
      obtain ⟨mA, hns, hr⟩ := hx
      obtain ⟨od, ho, hl⟩ := lookIn_ns hns
      obtain ⟨vs, hd⟩ := hf
      have J : PySem.W.InstAt s.heap a oe D (some od) := ⟨hget, hz.1, by unfold PySem.W.notCls; rw [hd] <;> rfl, by rw [hz.2]; exact ho⟩
      obtain ⟨cd, B, bm, hc, hm, m, hdd⟩ := T.cls
      have hmro : PySem.W.mroIn X.K D (.type "object") = some true := by
        obtain ⟨B, bm, m, hh⟩ := T.mro
        rw [hh, List.contains_cons, m.hO, Bool.or_true]
      exact PySem.W.kia_one (PySem.W.kitx_exc (by rw [hc]; rfl) T.ga T.gg T.sub T.ha R.hn R.ht hmro) I.kIn J e (fun z => nomatch z) fun tk => ⟨.bl b, H, I.kept (t' := tk) fun _ _ z => z, rfl, q⟩
/-! ### one class against another -/
theorem ErrC.sub_ref {K : PySem.W.Frag} {C fI : Addr} {f : Str} (T : ErrC K C fI f) (x : Value) : ∃ (B : String) (bm : List Value), Mro B bm ∧ PySem.W.subIn K (.ref C) x = some ((Value.ref C :: bm).contains x) := by
  obtain ⟨B, bm, m, h⟩ := T.mro
  exact ⟨B, bm, m, h x⟩
theorem sub_of {K : PySem.W.Frag} {C : Addr} {bm : List Value} {newId : String} {nm q : Str} {N : Addr} {bs : List Value} {hd : Bool} {sn : List Str} {sub : List Value} {ab : Bool} {col : Option Bool} {dd : Option Addr} {k0 k1 k2 k3 k5 : Option Value}
    (hC : K.lookup C = some (excClassObj nm q C N bs bm hd sn sub ab col dd k0 k1 k2 k3 k5 newId)) (x : Value) : PySem.W.subIn K (.ref C) x = some ((Value.ref C :: bm).contains x) := by
  show PySem.W.mroIn K C x = _
  unfold PySem.W.mroIn PySem.W.clsIn
  rw [hC]
  rfl
/-- a class that a clause may name -/
structure ClsP (K : PySem.W.Frag) (C : Addr) : Prop where
  is : (PySem.W.clsIn K C).isSome = true
  sb : PySem.W.subIn K (.ref C) (.type "BaseException") = some true
  ty : PySem.W.typeIn K (.ref C) = some (.type "type")
theorem ErrC.clsP {K : PySem.W.Frag} {C fI : Addr} {f : Str} (T : ErrC K C fI f) : ClsP K C := by
  obtain ⟨cd, B, bm, hc, _⟩ := T.cls
  exact ⟨by rw [hc]; rfl, T.sub, T.ty⟩
theorem ClsP.kit {K : PySem.W.Frag} {C : Addr} {cls : Value} {b : Bool} (p : ClsP K C) (h : PySem.W.subIn K cls (.ref C) = some b) : PySem.W.kitCls K cls (.ref C) = some b := by
  have e : ((PySem.W.clsIn K C).isSome && PySem.W.typeIn K (.ref C) == some (.type "type")) = true := by rw [p.is, p.ty] <;> rfl
  show (if ((PySem.W.clsIn K C).isSome && PySem.W.typeIn K (.ref C) == some (.type "type")) = true then PySem.W.subIn K cls (.ref C) else none) = some b
  rw [if_pos e]
  exact h
theorem ClsP.exm {K : PySem.W.Frag} {C : Addr} {cls : Value} {b : Bool} (p : ClsP K C) (h : PySem.W.subIn K cls (.ref C) = some b) : PySem.W.exmOne K cls (.ref C) = some b := by
  have e : (PySem.W.subIn K (.ref C) (.type "BaseException") == some true) = true := by rw [p.sb] <;> rfl
  unfold PySem.W.exmOne
  rw [if_pos e]
  exact p.kit h
theorem ClsP.one {K : PySem.W.Frag} {C : Addr} {cls : Value} {b : Bool} (p : ClsP K C) (h : PySem.W.subIn K cls (.ref C) = some b) (hs : cls = .ref C → b = true) : PySem.W.kitOne K cls (.ref C) = some b := by
  unfold PySem.W.kitOne
  by_cases e : (cls == Value.ref C) = true
  · rw [if_pos e, hs (beq_iff_eq.mp e)]
  · rw [if_neg e]
    exact p.kit h
theorem kit_type {K : PySem.W.Frag} {cls : Value} {T : String} {b : Bool} (hm : PySem.W.kitMeta T = true) (hn : (cls == Value.type T) = false) (h : PySem.W.subIn K cls (.type T) = some b) : PySem.W.kitOne K cls (.type T) = some b := by
  unfold PySem.W.kitOne
  rw [hn, if_neg Bool.false_ne_true]
  show (if PySem.W.kitMeta T = true then PySem.W.subIn K cls (.type T) else none) = some b
  rw [if_pos hm]
  exact h
/-! ### the test of an except clause: a class, or a tuple of classes -/
section
variable {M : Model} {A : Around} {E : Value → Shared → Prop} {s : Shared} {β : Type}
theorem loopA {f : Value → β → Sem (ForInStep β)} {x : β} {Q : β → Shared → Prop} : ∀ {cs : List Value}, (∀ c ∈ cs, ∀ Q' : ForInStep β → Shared → Prop, Q' (.yield x) s → wpAny M A (f c x) Q' E s) → Q x s → wpAny M A (forIn cs x f) Q E s
  | [], _, q => wpAny_pure q
  | c :: cs, hf, q => by
    rw [List.forIn_cons]
    exact wpAny_bind (hf c (List.mem_cons_self ..) _ (loopA (fun c' h => hf c' (List.mem_cons_of_mem _ h)) q))
theorem loopB {f : Value → β → Sem (ForInStep β)} {x y : β} {g : Value → Bool} {Q : β → Shared → Prop} : ∀ {cs : List Value}, (∀ c ∈ cs, ∀ Q' : ForInStep β → Shared → Prop, Q' (if g c then .done y else .yield x) s → wpAny M A (f c x) Q' E s) → Q (if cs.any g then y else x) s → wpAny M A (forIn cs x f) Q E s
  | [], _, q => wpAny_pure q
  | c :: cs, hf, q => by
    rw [List.forIn_cons]
    refine wpAny_bind (hf c (List.mem_cons_self ..) _ ?_)
    rw [List.any_cons] at q
    cases e : g c with
    | true =>
      rw [e] at q
      exact wpAny_pure q
    | false =>
      rw [e] at q
      exact loopB (fun c' h => hf c' (List.mem_cons_of_mem _ h)) q
end
/-- the class of an exception against a list of classes -/
def anyOf (K : PySem.W.Frag) (cls : Value) (cs : List Value) (b : Bool) : Prop := (∀ c ∈ cs, ∃ v, PySem.W.exmOne K cls c = some v) ∧ b = cs.any fun c => PySem.W.exmOne K cls c == some true
theorem exm_tupN {M : Model} {K : PySem.W.Frag} {cs : List Value} {cls : Value} {tp e : Addr} {b : Bool} {h : Heap} (X : K.In h) (LT : PySem.W.Looks M h (typeOf (.ref e)) cls) (hp : h.get? tp = some { cls := .type "tuple", data := .seq cs.toArray }) (hx : anyOf K cls cs b) :
    PySem.W.Looks M h (excMatches (.ref e) (.ref tp)) b := by
  intro A Q E s k₀ q
  obtain ⟨hh, g, d, tk, os⟩ := s
  have k : ∀ b o, h.get? b = some o → hh.get? b = some o := k₀
  have LT0 : PySem.W.Looks M h (isInstance (.ref tp) (.type "tuple")) true := ((PySem.W.Looks.ld hp).andThen .now).andThen (PySem.W.Looks.of_pure isSubtype_tuple_tuple)
  have LT := LT.keeps k
  have LT0 := LT0.keeps k
  have hp' := k _ _ hp
  obtain ⟨hall, hb⟩ := hx
  unfold excMatches
  refine wpAny_bind (LT0.at ?_)
  dsimp only
  rw [if_pos rfl]
  first
    | refine wpAny_bind (wpAny_seqItems hp' rfl ?_)
    | refine wpAny_bind (wpAny_bind (wpAny_seqItems hp' rfl (wpAny_pure ?_)))
  dsimp only [Option.getD_some, Option.getD]
  refine wpAny_bind (wpAny_pure ?_)
  refine wpAny_bind (loopA (fun c hc Q' hq => ?_) ?_)
  · obtain ⟨v, e1⟩ := hall c hc
    obtain ⟨e2, _⟩ := PySem.W.exm_cls (M := M) X e1
    have e2 := e2.keeps k
    refine wpAny_bind (e2.here ?_)
    exact wpAny_pure hq
  refine wpAny_bind (LT.here ?_)
  refine wpAny_bind (loopB (g := fun c => PySem.W.exmOne K cls c == some true) (y := (some true, ())) (fun c hc Q' hq => ?_) ?_)
  · obtain ⟨v, e1⟩ := hall c hc
    obtain ⟨_, S1⟩ := PySem.W.exm_cls (M := M) X e1
    have S1 := S1.keeps k
    refine wpAny_bind (S1.here ?_)
    rw [e1] at hq
    cases v with
    | true => exact wpAny_pure hq
    | false => exact wpAny_pure hq
  rw [← hb]
  cases b with
  | true => exact wpAny_pure q
  | false => exact wpAny_pure q
end L2E
namespace L2E
open PySem PySem.Spec PyProof.Rows L2
/-! ### except clauses, each one class or a tuple of classes, each as n -/
inductive NamesL (X : Cx) : List Expr → List Value → Prop
  | nil : NamesL X [] []
  | cons {x : Str} {c : Value} {es : List Expr} {cs : List Value} {np : Pos} (hc : Names X x c) (r : NamesL X es cs) : NamesL X (.Name x np :: es) (c :: cs)
/-- the expression of a clause tells the classes cs -/
inductive Clz (X : Cx) : Expr → List Value → Prop
  | one {x : Str} {c : Value} {np : Pos} (hc : Names X x c) : Clz X (.Name x np) [c]
  | tup {es : List Expr} {cs : List Value} {k : Nat} {tpos : Pos} (h : NamesL X es cs) (hl : cs.length ≤ 100) : Clz X (.Tuple es k tpos) cs
section
variable {X : Cx} {pn pins : List (Addr × Obj)} {σ : L2.St} {H : Hp} {s : Shared} {a : Addr} {E : Value → Shared → Prop}
theorem name_run {x : Str} {c : Value} {np : Pos} {Q : Value → Shared → Prop} (hc : Names X x c) (S : Inv (X.suite a pn) pins σ H s) (q : Q c s) : wpAny (model X.prog X.w) (X.A.mark (some (.ref a))) (eval (.Name x np) X.env) Q E s := by
  obtain ⟨hg, hdbg, hm | ⟨hm, hv, hnn⟩⟩ := hc
  · exact ld_glob (X := X.suite a pn) S hg hm q hdbg
  · exact ld_blt (X := X.suite a pn) S hg hm hv q hnn hdbg
theorem names_run {pos : Pos} : ∀ {es : List Expr} {cs : List Value} {Q : List Value → Shared → Prop}, NamesL X es cs → Inv (X.suite a pn) pins σ H s → Q cs s → wpAny (model X.prog X.w) (X.A.mark (some (.ref a))) (spliced (backTo pos (starEach es X.env))) Q E s
  | _, _, _, .nil, _, q => wpAny_items_nil q
  | _, _, _, .cons hc r, S, q => wpAny_items_cons (name_run hc S (names_run r S q))
theorem clz_run {te : Expr} {cs : List Value} {cls : Value} {b : Bool} {Q : Bool → Shared → Prop} (T : Clz X te cs) (S : Inv (X.suite a pn) pins σ H s) (LT : PySem.W.Looks (model X.prog X.w) s.heap (typeOf (.ref a)) cls) (hb : anyOf X.K cls cs b)
    (q : ∀ h', (∀ b o, s.heap.get? b = some o → h'.get? b = some o) → Q b { s with heap := h' }) :
    wpAny (model X.prog X.w) (X.A.mark (some (.ref a))) (eval te X.env) (fun c s₁ => wpAny (model X.prog X.w) (X.A.mark (some (.ref a))) (excMatches (.ref a) c) Q E s₁) E s := by
  cases T with
  | @one x c np hc =>
    refine name_run hc S ?_
    obtain ⟨hall, hb⟩ := hb
    obtain ⟨v, e⟩ := hall c (List.mem_cons_self ..)
    have eb : b = v := by
      rw [hb]
      simp [e]
    rw [eb] at q
    exact (PySem.W.exm_one S.kIn LT e).here (q s.heap fun _ _ z => z)
  | @tup es _ k tpos h hl =>
    refine wpAny_Tuple (names_run h S ⟨by rw [sizeLine_eq]; omega, ?_⟩)
    have kp : ∀ b o, s.heap.get? b = some o → (s.heap.push { cls := .type "tuple", data := .seq cs.toArray }).get? b = some o := fun _ _ z => Heap.get?_push_of_some _ z
    exact (exm_tupN (S.kIn.keeps kp) (LT.keeps kp) (Heap.get?_push_size s.heap rfl) hb).here (q _ kp)
end
theorem flying_keep {B h h' : Heap} {l : List Env} {a : Addr} {Z : Obj → Prop} (k : ∀ b o, h.get? b = some o → h'.get? b = some o) (x : HandSPX.FlyingZ B l a Z h) : HandSPX.FlyingZ B l a Z h' := by
  obtain ⟨k1, k2, k3, oe, vs, T, oT, ts', he, hz, hd, h1, hn, hne, hT, hdT, h3⟩ := x
  exact ⟨fun b o q => k b o (k1 b o q), k2, k3.of_keeps fun b o q _ => ⟨o, k b o q, rfl⟩, oe, vs, T, oT, ts', k _ _ he, hz, hd, h1, hn, hne, k _ _ hT, hdT, h3⟩
abbrev Cls1 := List Value × (Addr → Value → Option Addr → TS)
/-- what is behind a suite whose name is the slot i's -/
def offAt (i : Nat) (D : Ends) : Ends := { nx := fun σ' H' => D.nx (σ'.set i none) H', rt := D.rt, bk := fun σ' H' => D.bk (σ'.set i none) H', ct := fun σ' H' => D.ct (σ'.set i none) H' }
def wMs (K : PySem.W.Frag) (i : Nat) (Wout : WX) (D : Ends) : List Cls1 → WX
  | [] => Wout
  | (cs, ts) :: r => fun cls d σ H => ∃ b, anyOf K cls cs b ∧ (b = true → ∀ a, H a = none → ts a cls d (offAt i D) (σ.set i (some (.ref a))) H) ∧ (b = false → wMs K i Wout D r cls d σ H)
inductive HdsA (X : Cx) (n : Str) : List ExceptHandler → List Cls1 → Prop
  | nil : HdsA X n [] []
  | cons {te : Expr} {cs : List Value} {ts : Addr → Value → Option Addr → TS} {b₀ : Stmt} {suite : List Stmt} {pos' : Pos} {hds : List ExceptHandler} {l : List Cls1} (hc : Clz X te cs)
      (hsu : ∀ (a : Addr) (oe : Obj) (cls : Value) (d : Option Addr) (pn : List (Addr × Obj)), L2N.Zn cls d oe → (∃ vs, oe.data = .fields vs) → PSs (X.suite a ((a, oe) :: pn)) (b₀ :: suite) (ts a cls d)) (r : HdsA X n hds l) :
      HdsA X n (.ExceptHandler (some te) (some n) (b₀ :: suite) pos' :: hds) ((cs, ts) :: l)
section
variable {X : Cx} {n : Str} {i : Nat} {body : List Stmt} {h₀ : ExceptHandler} {hds : List ExceptHandler} {l : List Cls1} {pos : Pos} {tb : WX → TS} {Wout : WX}
theorem ps_try_ases (hs : X.stack = X.env :: X.outer) (hf : X.env.frame = some X.env.locals) (hN : X.N.Nodup) (hi : X.N[i]? = some n) (hln : X.env.kindOf n = some .local) (tk : L2N.Takes X Wout)
    (hb : ∀ (W : WX) (pn : List (Addr × Obj)) (xe : Value → Shared → Prop), L2N.Takes (X.tr pn xe) W → PassesOwn (model X.prog X.w) X.A X.env xe → PSs (X.tr pn xe) body (tb W))
    (hh : HdsA X n (h₀ :: hds) l) : PS X (.Try body (h₀ :: hds) [] [] pos) (fun D σ H => tb (wMs X.K i Wout D l) D σ H) := by
  refine ⟨fun pins s σ H D I h => ?_⟩
  have ok := I.ok
  have hfr : X.A.frames = some (X.env :: X.outer) := by rw [ok.frames, hs]
  refine wpAny_Try_except ?_
  refine wpAny_mono ((hb (wMs X.K i Wout D l) (X.pn ++ pins) (fun e s₁ => wpAny (model X.prog X.w) X.A (noteFrame e X.env) (fun _ s₂ => wpAny (model X.prog X.w) X.A (setFlight e none) (fun _ s₃ =>
    wpAny (model X.prog X.w) X.A (handleBy e X.env (h₀ :: hds)) (SP X pins D) X.xe s₃) X.xe s₂) X.xe s₁) (fun u s' xx => ?_) PassesOwn.looking).run [] s σ H D (I.toTry _) h) (fun f s1 hsp => ?_) (fun e s1 he => he)
  · obtain ⟨a, B, sI, pins', σ', H', cls, d, rfl, J', nb, up, sky, na, os, ag, w⟩ := xx
    have J : Inv X pins σ' H' sI := J'.ofTry ok
    have sky' : Sky B (X.env :: X.outer) a (L2N.Zn cls d) X.env.locals s'.heap := by rw [← hs]; exact sky
    show wpAny (model X.prog X.w) X.A (noteFrame (.ref a) X.env) _ _ _
    refine L2N.Sky.land L2N.Zn.steady hfr hf sky' fun h1 fl1 up1 => ?_
    have go : ∀ {hs' : List ExceptHandler} {l' : List Cls1}, HdsA X n hs' l' → wMs X.K i Wout D l' cls d σ' H' → ∀ h3, HandSPX.FlyingZ B (X.env :: X.outer) a (L2N.Zn cls d) h3 → s'.heap.UpToSlots h3 →
        wpAny (model X.prog X.w) X.A (handleBy (.ref a) X.env hs') (SP X pins D) X.xe { s' with heap := h3 } := by
      intro hs' l' hk
      induction hk with
      | nil =>
        intro w h3 fl3 up3
        refine wpAny_handleBy_nil ?_
        obtain ⟨k1, k2, k3, oe, vs, T, oT, ts', he, hz, hd, h1, hr⟩ := id fl3
        unfold PySem.passOn
        refine wpAny_bind (wpAny_field he hd h1 ?_)
        rw [if_neg (show ¬ ((Value.ref T == Value.none) = true) from by simp)]
        have fin : wpAny (model X.prog X.w) X.A (setFlight (.ref a) X.env.frame) (fun _ s4 => wpAny (model X.prog X.w) X.A (throw (.ref a) : Sem Flow) (SP X pins D) X.xe s4) X.xe { s' with heap := h3 } := by
          rw [hf]
          refine HandSPX.setFlight_upZ fl3 fun h4 hh4 up4 => wpAny_throw (tk _ _ ?_)
          exact ⟨a, B, sI, pins, σ', H', cls, d, rfl, J, nb, (up.trans up3).trans up4, .inr (.inr (by rw [hs]; exact hh4)), na, os, ag, w⟩
        first
          | exact wpAny_bind (wpAny_pure (wpAny_bind fin))
          | exact wpAny_bind fin
      | @cons te cs ts b₀ suite pos' hds2 l2 hc hsu r ih =>
        intro w h3 fl3 up3
        obtain ⟨b, hb1, hyes, hno⟩ := w
        have J3 : Inv X pins σ' H' { s' with heap := h3 } := J.landed nb fl3.1 (up.trans up3) os ag
        obtain ⟨oe3, vs3, he3, hz3, hd3⟩ := fl3.there
        have nfr : a ∉ frs (X.env :: X.outer) := fun hm => by
          obtain ⟨_, o', e', hnf⟩ := fl3.2.2.1.mem hm
          rw [he3] at e'; cases e'
          exact hnf _ hd3
        have nL : a ≠ X.env.locals := fun z => nfr (List.mem_filterMap.mpr ⟨X.env, List.mem_cons_self, by rw [hf, z]⟩)
        have nF : a ∉ X.fs := fun hm => by
          obtain ⟨e, he, q⟩ := List.mem_filterMap.mp hm
          exact nfr (List.mem_filterMap.mpr ⟨e, List.mem_cons_of_mem _ he, q⟩)
        have S3 := J3.suite he3 hd3 na nL nF
        have LT : PySem.W.Looks (model X.prog X.w) h3 (typeOf (.ref a)) cls := fun A Q E s k q => wpAny_typeOf_ref (k _ _ he3) (by rw [hz3.1]; exact q)
        refine wpAny_handleBy_cons (codeAny_handlers_test (clz_run hc S3 LT hb1 fun h4 kp => ?_)) (by intro q; cases q)
        have fl4 := flying_keep kp fl3
        have up4 : s'.heap.UpToSlots h4 := up3.trans (Heap.UpToSlots.of_keeps kp)
        cases b with
        | true =>
          refine codeAny_handlers_suite_as ?_
          refine HandSPX.lands_againZ fl4 fun h5 fl5 up5 => ?_
          have J5 : Inv X pins σ' H' { s' with heap := h5 } := J.landed nb fl5.1 ((up.trans up4).trans up5) os ag
          obtain ⟨oe5, vs5, he5, hz5, hd5⟩ := fl5.there
          have S5 := J5.suite he5 hd5 na nL nF
          refine store_ok (X := X.suite a ((a, oe5) :: (X.pn ++ pins))) (v := .ref a) S5 hN hi (.inl hln) rfl (fun s6 S6 => ?_) (.inr hln)
          refine wpAny_mono ((hsu a oe5 cls d (X.pn ++ pins) hz5 ⟨_, hd5⟩).run [] s6 _ H' _ S6 (hyes rfl a na)) (fun f s7 hsp => ?_) (fun _ _ z => False.elim z)
          have end_ : ∀ {σ7 : L2.St} {H7 : Hp} {Q : Shared → Prop}, Inv (X.suite a ((a, oe5) :: (X.pn ++ pins))) [] σ7 H7 s7 → (∀ s8, Inv X pins (σ7.set i none) H7 s8 → Q s8) →
              wpAny (model X.prog X.w) X.A (do bindName X.env n .none; unbindBehindTheSuite X.env n pos') (fun _ s8 => Q s8) X.xe s7 := fun {σ7 H7 Q} S7 hq => gone_ok (S7.unsuite ok) hN hi hln hq
          cases f with
          | next =>
            obtain ⟨σ7, H7, S7, q7⟩ := hsp
            exact end_ S7 fun s8 J8 => ⟨_, _, J8, q7⟩
          | brk =>
            obtain ⟨σ7, H7, S7, q7⟩ := hsp
            exact end_ S7 fun s8 J8 => ⟨_, _, J8, q7⟩
          | cont =>
            obtain ⟨σ7, H7, S7, q7⟩ := hsp
            exact end_ S7 fun s8 J8 => ⟨_, _, J8, q7⟩
          | ret u =>
            obtain ⟨v7, σ7, H7, S7, r7, q7⟩ := hsp
            exact end_ S7 fun s8 J8 => ⟨_, _, _, J8, r7, q7⟩
        | false =>
          show wpAny _ X.A (handleBy (.ref a) X.env hds2) _ _ _
          exact ih (hno rfl) h4 fl4 up4
    exact go hh w h1 fl1 up1
  · cases f with
    | next =>
      obtain ⟨σ', H', J', q⟩ := hsp
      exact wpAny_execs_nil ⟨σ', H', J'.ofTry ok, q⟩
    | brk =>
      obtain ⟨σ', H', J', q⟩ := hsp
      exact ⟨σ', H', J'.ofTry ok, q⟩
    | cont =>
      obtain ⟨σ', H', J', q⟩ := hsp
      exact ⟨σ', H', J'.ofTry ok, q⟩
    | ret u =>
      obtain ⟨v, σ', H', J', r, q⟩ := hsp
      exact ⟨v, σ', H', J'.ofTry ok, r, q⟩
end
end L2E
namespace L2E
open PySem PySem.Spec PyProof.Rows L2 L2H
/-! ### [e for x in range(n)] while an exception is handled: the block bears the exception's pin -/
/-- a pin may be borne by the context -/
theorem pin_in {X : Cx} {p : Addr × Obj} {pn pins : List (Addr × Obj)} {σ : L2.St} {H : Hp} {s : Shared} (I : Inv { X with pn := pn } pins σ H s) (hp : s.heap.get? p.1 = some p.2 ∧ H p.1 = none ∧ p.1 ≠ X.env.locals ∧ p.1 ∉ X.fs ∧ ∀ v, p.2.data ≠ .cell v) :
    Inv { X with pn := p :: pn } pins σ H s :=
  ⟨⟨I.ok.mod, I.ok.kind, I.ok.glob, I.ok.blt, I.ok.above, I.ok.inj, I.ok.has, I.ok.cab, I.ok.hd, I.ok.frames, I.ok.stk, I.ok.exf, I.ok.bs, I.ok.bsz, I.ok.noex, I.ok.exfs, I.ok.funs, I.ok.frf⟩, I.os, I.bare, I.base, I.loc, I.cell, I.free, I.freeC,
    fun q hq => (List.mem_cons.mp hq).elim (fun e => by rw [e]; exact hp) (fun z => I.pin q z), I.hok, I.len⟩
abbrev blkP (X : Cx) (s : Shared) (H : Hp) (scope : Scope) (cenv : Env) (fp : List Addr) (p : Addr × Obj) : Cx := { X.blk s H scope cenv fp with pn := [p] }
section
variable {X : Cx}
theorem pe_lcH {elt tg iter : Expr} {scope : Scope} {own : List (Str × Nat)} {pos : Pos} {wi : TI} {g : TG} {te : TE} (hc : HotC X) (hN : X.N.Nodup) (hi : PIH X tg iter wi) (ok : BlkOk X.N X.env.scope scope own)
    (hg : ∀ (s : Shared) (H : Hp) (C : Addr) (cl : List (Str × Addr)) (fp : List Addr) (p : Addr × Obj), PG (blkP X s H scope (compEnvC scope cl C X.env) fp p) tg g)
    (he : ∀ (s : Shared) (H : Hp) (C : Addr) (cl : List (Str × Addr)) (fp : List Addr) (p : Addr × Obj), PE (blkP X s H scope (compEnvC scope cl C X.env) fp p) elt te) (hs : ∀ x, foldedSetIterable iter X.env x = pure x := by intro _; rfl) :
    PE X (.ListComp elt [⟨tg, iter, [], 0⟩] scope pos) (tLc wi g tYes te (own.map (·.2))) := by
  refine ⟨fun pins s σ H Q I h => ?_⟩
  rw [eval_ListComp]
  obtain ⟨p, hot, hpn⟩ := hc
  have hfree : ∀ y ∈ scope.names, y.2 = .free → ∃ c, X.env.cells.lookup y.1 = some c := fun y hy e => (ok.free y hy e).elim (fun k => I.ok.has _ (.inl k)) fun k => I.ok.has _ (.inr k)
  refine wpAny_comprehension_free rfl hs (closure_ok hfree) ok.kind (fun y hy e => by rw [ok.uniq y hy, e]) (thn (hi.run pins s σ H _ I h) fun xv s1 hx => thn hx fun itv s2 h2 => ?_)
  obtain ⟨it, fp, tn, J, H2, e, I2, T, st2, f2, q⟩ := h2
  subst e
  refine wpAny_newObj_type (newEnv_comp ?_) (by show 0 ≤ sizeLine; decide)
  generalize hD : s2.heap.objs.size = D
  have hDn : H2 D = none := I2.hok.fresh (Nat.le_of_eq hD)
  obtain ⟨W, ⟨m0, w0⟩, turn⟩ := q D hDn
  generalize hs3 : ({ s2 with heap := s2.heap.push { cls := .type "list", data := .seq ([] : List Value).toArray } } : Shared) = s3
  have h3 : s3.heap = s2.heap.push { cls := .type "list", data := .seq ([] : List Value).toArray } := by rw [← hs3]
  have I3 : Inv X pins σ (upd H2 D (.lst [])) s3 := by
    rw [← hs3]
    refine I2.laid (t' := s2.toks) (fun b o e => Heap.get?_push_of_some _ e) (Nat.le_of_eq hD) ⟨Nat.zero_le _, [], 0, .nil, ?_⟩
    rw [← hD]
    exact Heap.get?_push_size _ rfl
  have f3 : ∀ b ∈ fp, FpOk X pins (upd H2 D (.lst [])) b ∧ b < s3.heap.objs.size := fun b hb => by
    obtain ⟨o, e, _⟩ := T.obj _ _ st2 b hb
    have hlt := Heap.lt_size e
    exact ⟨⟨by rw [upd_ne (by rw [← hD]; exact Nat.ne_of_lt hlt)]; exact (f2 b hb).1, (f2 b hb).2⟩, by rw [h3, Heap.size_push]; exact Nat.lt_succ_of_lt hlt⟩
  have P3 := I3.pin p (List.mem_append_left _ hpn)
  have pf : ∀ b ∈ fp, p.1 ≠ b := fun b hb => (f3 b hb).1.2.2.2.2.2 p (List.mem_append_left _ hpn)
  have I4 := block_start I3 ok hN f3
  show codeAny _ _ (.compStart (.ListComp elt [⟨tg, iter, [], 0⟩] scope pos) 0 (.ref it) (.ref D) (compEnvC scope (cellsFrom (s3.heap.objs.size + 1) scope.names (cloFrom X.env.cells scope.names [])) s3.heap.objs.size X.env)) (compPost (model X.prog X.w) X.A X.xe _ _ (.ref D) s3.heap.objs.size) { s3 with heap := pushCells (s3.heap.push { cls := .type "dict", data := .dict #[] }) scope.names }
  have pg := hg s3 (upd H2 D (.lst [])) s3.heap.objs.size (cellsFrom (s3.heap.objs.size + 1) scope.names (cloFrom X.env.cells scope.names [])) fp p
  have pe := he s3 (upd H2 D (.lst [])) s3.heap.objs.size (cellsFrom (s3.heap.objs.size + 1) scope.names (cloFrom X.env.cells scope.names [])) fp p
  generalize hce : compEnvC scope (cellsFrom (s3.heap.objs.size + 1) scope.names (cloFrom X.env.cells scope.names [])) s3.heap.objs.size X.env = ce at I4 pg pe ⊢
  have cL : ce.locals = s3.heap.objs.size := by subst hce; rfl
  have nfp : ∀ b ∈ fp, (upd H2 D (.lst [])) b = none := fun b hb => (f3 b hb).1.1
  generalize hH3 : upd H2 D (.lst []) = H3 at I3 I4 pg pe w0 nfp f3 P3
  have kp4 : ∀ b o, s3.heap.get? b = some o → (pushCells (s3.heap.push { cls := .type "dict", data := .dict #[] }) scope.names).get? b = some o := fun b o e => pushCells_keeps _ _ _ _ (Heap.get?_push_of_some _ e)
  generalize hs4 : ({ s3 with heap := pushCells (s3.heap.push { cls := .type "dict", data := .dict #[] }) scope.names } : Shared) = s4 at I4 ⊢
  have h4 : s4.heap = pushCells (s3.heap.push { cls := .type "dict", data := .dict #[] }) scope.names := by rw [← hs4]
  have st4 : tn 0 s4.heap := T.keep _ _ _ st2 fun b _ o e => by
    rw [h4]
    refine kp4 b o ?_
    rw [h3]
    exact Heap.get?_push_of_some _ e
  -- the block's context, the pin within
  have J4 : Inv (blkP X s3 H3 scope ce fp p) [] (wipe σ (own.map (·.2))) H3 s4 := pin_in (X := X.blk s3 H3 scope ce fp) I4
    ⟨by rw [h4]; exact kp4 _ _ P3.1, P3.2.1, by rw [show (X.blk s3 H3 scope ce fp).env.locals = s3.heap.objs.size from cL]; exact Nat.ne_of_lt (Heap.lt_size P3.1), fun hm => (List.mem_cons.mp (I3.stkSub p.1 hm)).elim P3.2.2.1 P3.2.2.2.1, P3.2.2.2.2⟩
  have hcY : HotC (blkP X s3 H3 scope ce fp p) := ⟨p, hot, List.mem_cons_self ..⟩
  have stat : ∀ {σ' : L2.St} {H' : Hp} {s' : Shared}, Inv (blkP X s3 H3 scope ce fp p) [] σ' H' s' → (∀ b ∈ fp, H' b = none) → ∀ b ∈ fp, FpOk (blkP X s3 H3 scope ce fp p) [] H' b := fun {σ' H' s'} I' hn b hb =>
    ⟨hn b hb, (I'.ok.exf b hb).1, I'.ok.exfs b hb, .inl hb, fun x c e => (I'.ok.exf b hb).2 x c e, fun r hr => by
      have e : r = p := by simpa using (show r ∈ [p] ++ ([] : List (Addr × Obj)) from hr)
      rw [e]
      exact pf b hb⟩
  have loop : codeAny (model X.prog X.w) X.A (.compLoop (.ListComp elt [⟨tg, iter, [], 0⟩] scope pos) 0 (.ref it) (.ref D) ce) (compPost (model X.prog X.w) X.A X.xe none (EP X pins σ Q) (.ref D) s3.heap.objs.size) s4 := by
    refine compLoop_any (fun n s' => ∃ i H', Inv (blkP X s3 H3 scope ce fp p) [] (wipe σ (own.map (·.2))) H' s' ∧ tn i s'.heap ∧ (∀ b ∈ fp, H' b = none) ∧ W i n H') ?_ m0 ⟨0, H3, J4, st4, nfp, w0⟩
    rintro n s5 ⟨i, H5, I5, st5, n5, w5⟩
    rcases turn i n H5 w5 with ⟨stop, qq⟩ | ⟨go, Nx, hNx, step⟩
    · refine thnF (T.done (blkP X s3 H3 scope ce fp p) rfl rfl rfl hcY i [] s5 _ H5 (fun _ _ => False) I5 (stat I5 n5) st5 stop) fun r s6 ⟨hr, I6⟩ => ?_
      subst hr
      have I7 : Inv X pins σ H5 s6 := I3.call' (ch := fp) I6.os I6.base I6.hok I6.bare fun b hb => ⟨(f3 b hb).1.2.2.2.1, (f3 b hb).1.2.1, (f3 b hb).1.2.2.2.2.1, (f3 b hb).1.2.2.2.2.2⟩
      have nC : H5 ce.locals = none := I6.free
      obtain ⟨m, hn, _⟩ := I6.loc
      have hn : s6.heap.Ns ce.locals m := hn
      rw [cL] at hn nC
      obtain ⟨g0, g1, g2, g3, g4, g5⟩ := I3.fpOk (Nat.le_refl _) nC
      exact ⟨m, hn, fun h'' sb => ⟨.ref D, H5, I7.turned (t' := s6.toks) (fun b o hb e => (sb.2 b hb).trans e) g0 g1 g3 g4 g5, rfl, qq⟩⟩
    · refine thnF (T.item (blkP X s3 H3 scope ce fp p) rfl rfl rfl hcY i [] s5 _ H5 (fun _ _ => False) I5 (stat I5 n5) st5 go) fun r s6 ⟨u, hr, h6⟩ => ?_
      subst hr
      refine thnF h6 fun _ s7 ⟨x, H7, I7, r7, y7, st7, n7⟩ => ?_
      have I7' := I7.pinned (stat I7 n7) (T.obj _ _ st7)
      refine thnF (pg.run _ s7 _ H7 x u _ I7' r7 (step x H7 y7)) fun _ s8 ⟨σ8, H8, I8, hw8, q8⟩ => ?_
      refine thnF ((pts_nil (X := blkP X s3 H3 scope ce fp p)).run _ s8 σ8 H8 _ I8 q8) fun b s9 ⟨H9, I9, q9⟩ => ?_
      have fin : ∀ {s' : Shared} {H' : Hp}, Inv (blkP X s3 H3 scope ce fp p) ([] ++ pinsAt fp s7.heap) σ8 H' s' → Nx H' → ∃ m, m < n ∧ ∃ i H', Inv (blkP X s3 H3 scope ce fp p) [] (wipe σ (own.map (·.2))) H' s' ∧ tn i s'.heap ∧ (∀ b ∈ fp, H' b = none) ∧ W i m H' := fun {s' H'} I' nx => by
        obtain ⟨m', hm, w'⟩ := hNx H' nx
        have pin' : ∀ b ∈ fp, ∀ o, s7.heap.get? b = some o → s'.heap.get? b = some o ∧ H' b = none := fun b hb o e =>
          let z := I'.pin (b, o) (List.mem_append_right _ (List.mem_append_right _ (mem_pinsAt hb e)))
          ⟨z.1, z.2.1⟩
        refine ⟨m', hm, i + 1, H', (I'.unpinned (pins := [])).weak (by rw [← hw8, wipe_length]) (fun j v e => ?_), T.keep _ _ _ st7 fun b hb o e => (pin' b hb o e).1, fun b hb => ?_, w'⟩
        · rw [← hw8] at e
          exact (wipe_some e).1
        · obtain ⟨o, e, _⟩ := T.obj _ _ st7 b hb
          exact (pin' b hb o e).2
      cases b with
      | false =>
        simp only [Bool.false_eq_true, if_false] at q9 ⊢
        exact fin I9 q9
      | true =>
        simp only [if_true] at q9 ⊢
        refine thnF (pe.run _ s9 σ8 H9 _ I9 q9) fun z s10 ⟨yv, H10, I10, r10, acc, hD10, hz10, nx⟩ => ?_
        exact app_ok (X := blkP X s3 H3 scope ce fp p) I10 hD10 hz10 r10 fun s11 I11 => fin I11 nx
  exact codeAny_compStart_list loop (T.self X.A 0 _ _ _ st4 loop)
end
end L2E
namespace L2E
open PySem PySem.Spec PyProof.Rows L2 L2H
/-! ### a def that is called while the exception p is handled, its promise told of p -/
structure FnHp (P : Program) (w : World) (K : PySem.W.Frag) (mg : Str → Option Value) (base : Heap) (CX : CXT) (k : Nat) (f : Addr) (fd : FuncData) (ps : List Str) (sp : Addr × Obj → Sp) : Prop where
  len : ∀ p vs H Q E, sp p vs H Q E → vs.length = ps.length
  run : ∀ (A : Around) (outer : List Env) (s : Shared) (H : Hp) (args : Args) (us : List Value) (vs : List V) (Q : VK) (E : XK) (p : Addr × Obj), RoomH k A → Hot1 A p → PinOk outer H s p → Env0 P w K mg base A outer s H → BindsTo s fd args (ps.zip us) → Vals vs us → sp p vs H Q E →
    codeAny (model P w) A (.call (.ref f) args) (CR CX outer P w H s Q E) s
theorem fn_ofHp {CX : CXT} {P : Program} {w : World} {K : PySem.W.Frag} {mg : Str → Option Value} {base : Heap} {k : Nat} {f : Addr} {name qual : Str} {params : Arguments} {body : List Stmt} {scope : Scope} {dV kV doc pm cdv ct oc : Value} {an od : Option Addr}
    {osl : Array (Option Value)} {N ps : List Str} {sp : Addr × Obj → Sp} (lk : K.lookup f = some ⟨oc, od, .func (PySem.W.fnOf name qual params body scope dV kV doc pm an cdv ct), osl⟩) (hcd : PySem.W.codeIn K cdv qual = true) (S : FnScope N ps scope)
    (len : ∀ p vs H Q E, sp p vs H Q E → vs.length = ps.length)
    (hbody : ∀ (A : Around) (outer : List Env) (s : Shared) (H : Hp) (vs : List V) (Q : VK) (E : XK) (p : Addr × Obj), Hot1 A p → RoomH k (A.deeper (envOfC qual scope s.heap.objs.size f cdv)) → sp p vs H Q E →
      ∃ t, PSs (cxH CX P w K mg base N qual scope f cdv A outer s H E p) body t ∧ t { nx := fun _ H' => Q .non H', rt := Q } (L2.start N vs) H) :
    FnHp P w K mg base CX (k + 1) f (PySem.W.fnOf name qual params body scope dV kV doc pm an cdv ct) ps sp := by
  refine ⟨len, fun A outer s H args us vs Q E p hr hot hpin e0 hb r hsp => ?_⟩
  have kin : K.In s.heap := e0.mod.kin.keeps fun b o e => (e0.bs b o e).1
  have kinds : ∀ y ∈ ps.zip us, scope.names.lookup y.1 = some .local ∨ (scope.names.lookup y.1 = some .cell ∧ ((cellsFrom (s.heap.objs.size + 1) scope.names []).lookup y.1).isSome = true) := fun y hy =>
    (S.par y.1 (List.of_mem_zip hy).1).elim .inl fun q => .inr ⟨q, PySem.W.cellsFrom_some _ _ _ (.inl q)⟩
  refine codeAny_call_function hr.depth (kin _ _ lk) rfl S.co S.gen rfl (PySem.W.codeRec_of kin hcd) (hb _ _ _ _ (wpAny_newFunctionEnv_cells S.kind kinds fun env he s1 x => ?_))
  subst he
  refine ⟨(e0.mod.nolimit.keeps fun b o e => (e0.bs b o e).1).keeps x.toInCall.keep, codeAny_func ?_⟩
  obtain ⟨t, ht, hq⟩ := hbody A outer s H vs Q E p hot (hr.deeper _) hsp
  refine wpAny_mono (ht.run [] s1 (L2.start N vs) H _ (inv_startH S hpin e0 (len _ _ _ _ _ hsp) r x) hq) (fun fl s' hs => ?_) fun e s' hs => hs
  cases fl with
  | ret u =>
    obtain ⟨v, σ', H', J, rv, q⟩ := hs
    exact ⟨v, H', J.os, J.bare, J.base, J.hok, rv, q⟩
  | next =>
    obtain ⟨σ', H', J, q⟩ := hs
    exact ⟨.non, H', J.os, J.bare, J.base, J.hok, rfl, q⟩
  | brk =>
    obtain ⟨_, _, _, q⟩ := hs
    exact False.elim q
  | cont =>
    obtain ⟨_, _, _, q⟩ := hs
    exact False.elim q
/-- f(e, ..) there -/
theorem pe_callHp {X : Cx} {CX : CXT} {k : Nat} {f : Addr} {fd : FuncData} {ps : List Str} {sp : Addr × Obj → Sp} {E : L2.St → XK} {x : Str} {q pos : Pos} {e : Expr} {es : List Expr} {t : TA} {p : Addr × Obj} (F : FnHp X.prog X.w X.K X.mg X.base CX k f fd ps sp) (hr : RoomH k X.A) (hot : Hot1 X.A p) (hp : p ∈ X.pn)
    (hg : Gl X x) (hm : X.mg x = some (.ref f)) (hk : PySem.W.keepIn X.K (.ref f) = true) (hb : Binds X.K fd ps []) (hx : ∀ σ, PassesAt CX X σ (E σ))
    (ha : PA X (e :: es) t) (hdb : (x == ("__debug__" : Str)) = false := by decide) (he : starEach (e :: es) X.env = (false, eval e X.env) :: starEach es X.env := by rfl) (hpl : (backTo pos (starEach es X.env)).any (·.1) = false := by rfl) :
    PE X (.Call (.Name x q) (e :: es) [] pos) (tCallS (sp p) E t) := by
  refine ⟨fun pins s σ H Q I h => ?_⟩
  refine wpAny_Call_Name_kw (ld_glob I hg hm ?_ hdb)
  refine PySem.W.callWith_K (h₀ := X.base) I.ok.mod.kin hk (thn (ha.run pos pins s σ H _ I h) fun us s1 ⟨vs, H1, I1, r, h1⟩ => ⟨I1.kIn, ?_⟩) he hpl
  have hl : us.length = ps.length := by rw [← r.length]; exact F.len _ _ _ _ _ h1
  have b := hb s1 us I1.kIn (by rw [List.append_nil]; exact hl)
  rw [List.append_nil] at b
  have P1 := I1.pin p (List.mem_append_left _ hp)
  refine wpAny_call (codeAny_mono (F.run X.A X.stack s1 H1 ⟨us, []⟩ us vs Q (E σ) p hr hot ⟨P1.1, P1.2.1, fun hm => (List.mem_cons.mp (I1.stkSub p.1 hm)).elim P1.2.2.1 P1.2.2.2.1, P1.2.2.2.2⟩ I1.env0 b r h1) fun r s' hq => ?_)
  cases r with
  | error e => exact hx σ pins H1 s1 e s' I1 hq
  | ok fl =>
    cases fl with
    | ret u => exact I1.after hq
    | next => exact False.elim hq
    | brk => exact False.elim hq
    | cont => exact False.elim hq
/-- nothing is let out -/
theorem takesN0 {X : Cx} : L2N.Takes X (fun _ _ _ _ => False) := fun _ _ ⟨_, _, _, _, _, _, _, _, _, _, _, _, _, _, _, _, w⟩ => w.elim
/-- e.f, e the exception that the suite holds, its class told in the reading -/
def tXfA (K : PySem.W.Frag) (a : Addr) (cls : Value) (d : Option Addr) (f : Str) (te : TE) : TE := fun σ H Q => te σ H fun x H1 => x = .ref a ∧ ∃ (C dd : Addr) (fs : List (Str × V)) (v : V), cls = .ref C ∧ XfC K C ∧ PySem.W.findIn K (.ref C) f = some none ∧ d = some dd ∧ H1 dd = some (.xd fs) ∧ fs.lookup f = some v ∧ Q v H1
theorem pe_xfA {X : Cx} {a : Addr} {oe : Obj} {cls : Value} {d : Option Addr} {pn : List (Addr × Obj)} {e : Expr} {te : TE} {pos : Pos} {n : Str} (hz : Zc cls d oe) (hf : ∃ vs, oe.data = .fields vs) (he : PE (X.suite a ((a, oe) :: pn)) e te)
    (hb : attributeBase e n X.env (eval e X.env) = eval e X.env := by rfl) : PE (X.suite a ((a, oe) :: pn)) (.Attribute e n pos) (tXfA X.K a cls d n te) := by
  refine ⟨fun pins s σ H Q I h => ?_⟩
  refine attr_of hb (thn (he.run pins s σ H _ I h) fun u s1 hh => ?_)
  obtain ⟨x, H1, I1, rx, ex, C, dd, fs, v, ec, T, hno, ed, ea, l, q⟩ := hh
  subst ex ec ed
  obtain rfl : u = Value.ref a := rx
  obtain ⟨ha, _⟩ := I1.pin (a, oe) (List.mem_append_left _ List.mem_cons_self)
  obtain ⟨vs, hd⟩ := hf
  obtain ⟨mA, hns, hr⟩ := (show ObjOk X.prog X.w H1 s1.heap dd (.xd fs) from I1.hok dd _ ea)
  obtain ⟨od, ho, hl⟩ := lookIn_ns hns
  obtain ⟨u, hu, ru⟩ := RelO.some_of (v := v) (o := mA n) (by rw [← l]; exact hr n)
  have J : PySem.W.InstAt s1.heap a oe C (some od) := ⟨ha, hz.1, by unfold PySem.W.notCls; rw [hd] <;> rfl, by rw [hz.2]; exact ho⟩
  exact HandSPX.exc_get I1.kIn J T.ga T.gg T.exC (PySem.W.findObj_own T.hdC hno rfl (by rw [hl, hu])) (handed_of ru) ⟨v, H1, I1.tok _, ru, q⟩
/-- isinstance(e, c), e the exception that the suite holds, its class told in the reading -/
def rIsXA (K : PySem.W.Frag) (a : Addr) (cls : Value) (d : Option Addr) : List V → Hp → VK → Prop := fun xs H Q => ∃ (D dd fI : Addr) (f : Str) (c : V) (cv : Value) (b : Bool) (fs : List (Str × V)), cls = .ref D ∧ d = some dd ∧ ErrC K D fI f ∧ xs = [.ref a, c] ∧ (∀ u, RelV c u → u = cv) ∧ PySem.W.kitOne K (.ref D) cv = some b ∧ H dd = some (.xd fs) ∧ Q (.bl b) H
theorem call_isXA {X : Cx} {a : Addr} {cls : Value} {d : Option Addr} {oe : Obj} (R : ClsRd X.K) (hp : (a, oe) ∈ X.pn) (hz : Zc cls d oe) (hf : ∃ vs, oe.data = .fields vs) : CallR X (.builtin "isinstance") (rIsXA X.K a cls d) := by
  intro pins s σ H xs us Q I r h
  obtain ⟨D, dd, fI, f, c, cv, b, fs, ec, ed, T, h⟩ := h
  subst ec ed
  exact call_isX T R hp hz hf pins s σ H xs us Q I r ⟨c, cv, b, fs, h⟩
end L2E
namespace K12
open PySem PySem.Spec PyProof.Rows L2 TL
/-! ### words for all -/
theorem pe_gs {X : Cx} {x : Str} {z : Str} {pos : Pos} (hg : Gl X x) (hm : ∃ t, X.mg x = some (.str z t)) (hd : (x == ("__debug__" : Str)) = false := by decide) : PE X (.Name x pos) (tC (.str z)) :=
  hm.elim fun t h => pe_glob (v := .str z) hg h ⟨t, rfl⟩ hd
theorem pe_gi {X : Cx} {x : Str} {z : Int} {pos : Pos} (hg : Gl X x) (hm : ∃ t, X.mg x = some (.int z t)) (hd : (x == ("__debug__" : Str)) = false := by decide) : PE X (.Name x pos) (tC (.int z)) :=
  hm.elim fun t h => pe_glob (v := .int z) hg h ⟨t, rfl⟩ hd
theorem pe_gr {X : Cx} {x : Str} {r : Addr} {pos : Pos} (hg : Gl X x) (hm : X.mg x = some (.ref r)) (hd : (x == ("__debug__" : Str)) = false := by decide) : PE X (.Name x pos) (tC (.ref r)) := pe_glob (v := .ref r) hg hm rfl hd
theorem same_upd {H : Hp} {p : Addr} {o : HO} (h : H p = none) : Same H (upd H p o) := fun b x e => by
  rw [upd_ne (ne_of_none e h)]
  exact e
/-- a new object of ours changes: what stood before stands -/
theorem same_mut {H H' : Hp} {p : Addr} {o : HO} (s : Same H H') (h : H p = none) : Same H (upd H' p o) := fun b x e => by
  rw [upd_ne (ne_of_none e h)]
  exact s _ _ e
def Big (z : Str) : Prop := z.length ≤ 1000000
theorem bigLine {n : Nat} (h : n ≤ 1000000) : n < sizeLine := Nat.lt_of_le_of_lt h (by decide)
theorem bigLe {n : Nat} (h : n ≤ 1000000) : n ≤ sizeLine := Nat.le_of_lt (bigLine h)
theorem st_ite {c : TT} {t1 t2 : TS} {σ : L2.St} {H : Hp} {D : Ends} {b : Bool} (h : Ans c σ H b) (h1 : b = true → t1 D σ H) (h2 : b = false → t2 D σ H) : tIfS c t1 t2 D σ H := by
  cases b with
  | true => exact st_yes h (h1 rfl)
  | false => exact st_no h (h2 rfl)
theorem while_ans {c : TT} {tb : TS} {D : Ends} {σ : L2.St} {H : Hp} (Pv : Nat → L2.St → Hp → Prop) (m : Nat) (h0 : Pv m σ H)
    (hs : ∀ m σ H, Pv m σ H → ∃ b, Ans c σ H b ∧ (b = true → tb { D with nx := fun σ' H' => ∃ m', m' < m ∧ Pv m' σ' H', ct := fun σ' H' => ∃ m', m' < m ∧ Pv m' σ' H', bk := D.nx } σ H) ∧ (b = false → D.nx σ H)) : tWhile c tb D σ H := by
  refine ⟨Pv, ⟨m, h0⟩, fun m σ H p => ?_⟩
  obtain ⟨b, ha, ht, hf⟩ := hs m σ H p
  refine ha _ ?_
  cases b with
  | true => exact ⟨_, fun σ' H' h => h, ht rfl⟩
  | false => exact hf rfl
/-- a comprehension or loop over the signs of a text -/
theorem lc_str {x : Str} {g : TG} {tt : TT} {te : TE} {vs : List Nat} {σ : L2.St} {H1 : Hp} {D : Addr} {Qd : Hp → Prop} (Pv : Nat → Hp → Prop) (h0 : Pv 0 (upd H1 D (.lst [])))
    (hs : ∀ i c H, x.cps[i]? = some c → Pv i H → g (.str ⟨#[c]⟩) (wipe σ vs) H fun σ2 H2 => wipe σ2 vs = wipe σ vs ∧ tt σ2 H2 fun b H3 =>
      if b = true then te σ2 H3 fun y H4 => ∃ acc, H4 D = some (.lst acc) ∧ acc.length < sizeLine ∧ Pv (i + 1) (upd H4 D (.lst (acc ++ [y]))) else Pv (i + 1) H3) (hd : ∀ H, Pv x.cps.size H → Qd H) :
    ∃ W : Nat → Nat → Hp → Prop, (∃ m, W 0 m (upd H1 D (.lst []))) ∧ ∀ i m H, W i m H →
      ((Its x).stop i H ∧ Qd H) ∨ ((Its x).go i H ∧ ∃ Nx : Hp → Prop, (∀ H', Nx H' → ∃ m', m' < m ∧ W (i + 1) m' H') ∧ ∀ x' H', (Its x).yld i H x' H' → g x' (wipe σ vs) H' fun σ2 H2 => wipe σ2 vs = wipe σ vs ∧ tt σ2 H2 fun b H3 =>
        if b = true then te σ2 H3 fun y H4 => ∃ acc, H4 D = some (.lst acc) ∧ acc.length < sizeLine ∧ Nx (upd H4 D (.lst (acc ++ [y]))) else Nx H3) := by
  refine ⟨fun i m H => m = x.cps.size - i ∧ i ≤ x.cps.size ∧ Pv i H, ⟨x.cps.size, by simp, Nat.zero_le _, h0⟩, ?_⟩
  rintro i m H ⟨rfl, hi, p⟩
  by_cases hlt : i < x.cps.size
  · refine .inr ⟨hlt, Pv (i + 1), fun H' p' => ⟨x.cps.size - (i + 1), by omega, rfl, hlt, p'⟩, fun x' H' y => ?_⟩
    obtain ⟨e, c, hc, y⟩ := y
    subst e y
    exact hs i c _ hc p
  · have e : i = x.cps.size := by omega
    subst e
    exact .inl ⟨Nat.le_refl _, hd H p⟩
/-- f of each sign, put into a new list -/
theorem lc_signs {z : Str} {g : TG} {te : TE} {vs : List Nat} {σ : L2.St} {H1 : Hp} {D : Addr} {Qd : Hp → Prop} (f : Nat → Bool) (hz : Big z) (hD : H1 D = none)
    (hs : ∀ c H (Q : VK), Q (.bl (f c)) H → g (.str ⟨#[c]⟩) (wipe σ vs) H fun σ2 H2 => wipe σ2 vs = wipe σ vs ∧ te σ2 H2 Q) (hd : ∀ H, Same H1 H → H D = some (.lst (((tl z).map f).map V.bl)) → Qd H) :
    ∃ W : Nat → Nat → Hp → Prop, (∃ m, W 0 m (upd H1 D (.lst []))) ∧ ∀ i m H, W i m H →
      ((Its z).stop i H ∧ Qd H) ∨ ((Its z).go i H ∧ ∃ Nx : Hp → Prop, (∀ H', Nx H' → ∃ m', m' < m ∧ W (i + 1) m' H') ∧ ∀ x' H', (Its z).yld i H x' H' → g x' (wipe σ vs) H' fun σ2 H2 => wipe σ2 vs = wipe σ vs ∧ tYes σ2 H2 fun b H3 =>
        if b = true then te σ2 H3 fun y H4 => ∃ acc, H4 D = some (.lst acc) ∧ acc.length < sizeLine ∧ Nx (upd H4 D (.lst (acc ++ [y]))) else Nx H3) := by
  refine lc_str (fun i H' => Same H1 H' ∧ H' D = some (.lst ((((tl z).take i).map f).map V.bl))) ⟨same_upd hD, upd_same⟩ ?_ ?_
  · rintro i c H' hi ⟨s2, hD2⟩
    have hi2 : (tl z)[i]? = some c := by rw [Array.getElem?_toList]; exact hi
    have hil : i < z.length := (Array.getElem?_eq_some_iff.mp hi).1
    have hsz : ((((tl z).take i).map f).map V.bl).length < sizeLine := by
      rw [List.length_map, List.length_map, List.length_take]
      exact Nat.lt_of_le_of_lt (Nat.min_le_left _ _) (bigLine (by unfold Big at hz; omega))
    have := hs c H' (fun y H4 => ∃ acc, H4 D = some (.lst acc) ∧ acc.length < sizeLine ∧ (Same H1 (upd H4 D (.lst (acc ++ [y]))) ∧ (upd H4 D (.lst (acc ++ [y]))) D = some (.lst ((((tl z).take (i + 1)).map f).map V.bl)))) ?_
    · exact this
    · refine ⟨_, hD2, hsz, same_mut s2 hD, ?_⟩
      rw [upd_same, List.take_add_one, hi2, List.map_append, List.map_append]
      rfl
  · rintro H' ⟨s2, hD2⟩
    have et : (tl z).take z.cps.size = tl z := List.take_of_length_le (by rw [Array.length_toList]; exact Nat.le_refl _)
    rw [et] at hD2
    exact hd _ s2 hD2
/-! ### own rules -/
theorem hu65 {A : Around} {k : Nat} (hr : Room k A) : A.units + 65 < cLine := by have := hr.un; omega
section
variable {X : Cx} {pos : Pos}
/-- o.f as a target -/
def gFld (K : PySem.W.Frag) (to : TE) (f : Str) : TG := fun v σ H Q => to σ H fun x H1 => ∃ a C dx fs, x = .ref a ∧ H1 a = some (.ins C dx fs) ∧ Cls K C ∧ NoAttr K C f ∧ fs.length < 1000 ∧ Q σ (upd H1 a (.ins C dx (putF f v fs)))
theorem pg_fld {o : Expr} {f : Str} {to : TE} (ho : PE X o to) : PG X (.Attribute o f pos) (gFld X.K to f) := by
  refine ⟨fun pins s σ H v u Q I r h => ?_⟩
  rw [assign_Attribute]
  refine wpAny_bind (wpAny_holding (thn (ho.run pins s σ H _ I h) fun ov s1 ⟨x, H1, I1, rx, a, C, dx, fs, ex, ea, c, n, l, q⟩ => ?_))
  subst ex
  obtain rfl : ov = Value.ref a := rx
  refine wpAny_bind (wpAny_standAt (wpAny_bind (wpAny_holding (setattr_ok I1 ea c n l r fun s3 I3 => ?_))))
  exact wpAny_release ⟨σ, _, I3, q⟩
/-- x in a tuple of data -/
def rInT (K : PySem.W.Frag) : R2 := fun x y H Q => ∃ d ds, Dp K H x d ∧ Dp K H y (.tuple ds) ∧ SeqAt.shaped d = true ∧ SeqAt.shaped (.tuple ds) = true ∧ Q (.bl (ds.any fun z => PyData.eqv z d)) H
theorem op_inT (hu : X.A.units + 65 < cLine) : OpR X (compareOp .In) (rInT X.K) := by
  intro pins s σ H x y v u Q I rx ry h
  obtain ⟨d, ds, hd, he, sd, se, q⟩ := h
  obtain ⟨as, r1⟩ := Dp.reads I d x v hd rx
  obtain ⟨bs, r2⟩ := Dp.reads I (.tuple ds) y u he ry
  exact SeqAt.in_tuple_reads r2 r1 (SeqAt.canLay_of_shaped se) (SeqAt.canLay_of_shaped sd) (room_in_shaped sd hu) ⟨.bl _, H, I, rfl, q⟩
end
def top (i : Nat) : Stmt := PySem.Challenge.pw_allornothing_k12_classes_of_errors.main.body.getD i (.Pass ⟨0, 0, 0, 0⟩)
abbrev s_InvalidText___init__ : Stmt := inClass (top 2) 0
abbrev s_InvalidSyntax___init__ : Stmt := inClass (top 3) 0
abbrev s_InvalidTree___init__ : Stmt := inClass (top 4) 0
abbrev s_DuplicateName___init__ : Stmt := inClass (top 5) 0
abbrev s_UnknownName___init__ : Stmt := inClass (top 6) 0
abbrev s_WrongArguments___init__ : Stmt := inClass (top 7) 0
abbrev s_InvalidFinally___init__ : Stmt := inClass (top 8) 0
abbrev s_TooLarge___init__ : Stmt := inClass (top 9) 0
abbrev s_InvalidRow___init__ : Stmt := inClass (top 10) 0
abbrev s_InvalidCase___init__ : Stmt := inClass (top 11) 0
abbrev s_InvalidEntry___init__ : Stmt := inClass (top 12) 0
abbrev s_InvalidChoices___init__ : Stmt := inClass (top 13) 0
abbrev s_InvalidInjection___init__ : Stmt := inClass (top 14) 0
abbrev s_InvalidOrder___init__ : Stmt := inClass (top 15) 0
abbrev s_InvalidEvent___init__ : Stmt := inClass (top 16) 0
abbrev s_InvalidValues___init__ : Stmt := inClass (top 17) 0
abbrev s_InvalidQuestion___init__ : Stmt := inClass (top 18) 0
abbrev s_InvalidCommand___init__ : Stmt := inClass (top 19) 0
abbrev s_UnknownFunction___init__ : Stmt := inClass (top 20) 0
abbrev s_LimitExceeded___init__ : Stmt := inClass (top 21) 0
abbrev s__law_pool : Stmt := top 23
abbrev s__law_mixed : Stmt := top 24
abbrev s__law_draw : Stmt := top 25
abbrev s__law_first : Stmt := top 26
abbrev s__law_second : Stmt := top 27
abbrev s__law_kinds : Stmt := top 28
abbrev s__law_field : Stmt := top 29
abbrev s_law : Stmt := top 30
/-- where the text's defs and classes stand -/
structure Ads where
  f_InvalidText___init__ : Addr
  f_InvalidText___init___d : FuncData
  f_InvalidSyntax___init__ : Addr
  f_InvalidSyntax___init___d : FuncData
  f_InvalidTree___init__ : Addr
  f_InvalidTree___init___d : FuncData
  f_DuplicateName___init__ : Addr
  f_DuplicateName___init___d : FuncData
  f_UnknownName___init__ : Addr
  f_UnknownName___init___d : FuncData
  f_WrongArguments___init__ : Addr
  f_WrongArguments___init___d : FuncData
  f_InvalidFinally___init__ : Addr
  f_InvalidFinally___init___d : FuncData
  f_TooLarge___init__ : Addr
  f_TooLarge___init___d : FuncData
  f_InvalidRow___init__ : Addr
  f_InvalidRow___init___d : FuncData
  f_InvalidCase___init__ : Addr
  f_InvalidCase___init___d : FuncData
  f_InvalidEntry___init__ : Addr
  f_InvalidEntry___init___d : FuncData
  f_InvalidChoices___init__ : Addr
  f_InvalidChoices___init___d : FuncData
  f_InvalidInjection___init__ : Addr
  f_InvalidInjection___init___d : FuncData
  f_InvalidOrder___init__ : Addr
  f_InvalidOrder___init___d : FuncData
  f_InvalidEvent___init__ : Addr
  f_InvalidEvent___init___d : FuncData
  f_InvalidValues___init__ : Addr
  f_InvalidValues___init___d : FuncData
  f_InvalidQuestion___init__ : Addr
  f_InvalidQuestion___init___d : FuncData
  f_InvalidCommand___init__ : Addr
  f_InvalidCommand___init___d : FuncData
  f_UnknownFunction___init__ : Addr
  f_UnknownFunction___init___d : FuncData
  f_LimitExceeded___init__ : Addr
  f_LimitExceeded___init___d : FuncData
  f__law_pool : Addr
  f__law_pool_d : FuncData
  f__law_mixed : Addr
  f__law_mixed_d : FuncData
  f__law_draw : Addr
  f__law_draw_d : FuncData
  f__law_first : Addr
  f__law_first_d : FuncData
  f__law_second : Addr
  f__law_second_d : FuncData
  f__law_kinds : Addr
  f__law_kinds_d : FuncData
  f__law_field : Addr
  f__law_field_d : FuncData
  f_law : Addr
  f_law_d : FuncData
  c_InvalidText : Addr
  c_InvalidSyntax : Addr
  c_InvalidTree : Addr
  c_DuplicateName : Addr
  c_UnknownName : Addr
  c_WrongArguments : Addr
  c_InvalidFinally : Addr
  c_TooLarge : Addr
  c_InvalidRow : Addr
  c_InvalidCase : Addr
  c_InvalidEntry : Addr
  c_InvalidChoices : Addr
  c_InvalidInjection : Addr
  c_InvalidOrder : Addr
  c_InvalidEvent : Addr
  c_InvalidValues : Addr
  c_InvalidQuestion : Addr
  c_InvalidCommand : Addr
  c_UnknownFunction : Addr
  c_LimitExceeded : Addr
  c_ProgramError : Addr
/-- what the top has left -/
structure Txt (K : PySem.W.Frag) (mg : Str → Option Value) (a : Ads) : Prop where
  F_InvalidText___init__ : Fun K "__init__" "InvalidText.__init__" s_InvalidText___init__ a.f_InvalidText___init__ a.f_InvalidText___init___d
  b_InvalidText___init__ : Binds K a.f_InvalidText___init___d ["self", "value"] []
  e_InvalidText : L2E.ErrC K a.c_InvalidText a.f_InvalidText___init__ "value"
  s_InvalidText : ∀ x : Value, PySem.W.subIn K (.ref a.c_InvalidText) x = some ((Value.ref a.c_InvalidText :: .ref a.c_ProgramError :: PySem.HandSPX.veTail).contains x)
  F_InvalidSyntax___init__ : Fun K "__init__" "InvalidSyntax.__init__" s_InvalidSyntax___init__ a.f_InvalidSyntax___init__ a.f_InvalidSyntax___init___d
  b_InvalidSyntax___init__ : Binds K a.f_InvalidSyntax___init___d ["self", "position"] []
  e_InvalidSyntax : L2E.ErrC K a.c_InvalidSyntax a.f_InvalidSyntax___init__ "position"
  s_InvalidSyntax : ∀ x : Value, PySem.W.subIn K (.ref a.c_InvalidSyntax) x = some ((Value.ref a.c_InvalidSyntax :: .ref a.c_ProgramError :: PySem.HandSPX.veTail).contains x)
  F_InvalidTree___init__ : Fun K "__init__" "InvalidTree.__init__" s_InvalidTree___init__ a.f_InvalidTree___init__ a.f_InvalidTree___init___d
  b_InvalidTree___init__ : Binds K a.f_InvalidTree___init___d ["self", "value"] []
  e_InvalidTree : L2E.ErrC K a.c_InvalidTree a.f_InvalidTree___init__ "value"
  s_InvalidTree : ∀ x : Value, PySem.W.subIn K (.ref a.c_InvalidTree) x = some ((Value.ref a.c_InvalidTree :: .ref a.c_ProgramError :: PySem.HandSPX.veTail).contains x)
  F_DuplicateName___init__ : Fun K "__init__" "DuplicateName.__init__" s_DuplicateName___init__ a.f_DuplicateName___init__ a.f_DuplicateName___init___d
  b_DuplicateName___init__ : Binds K a.f_DuplicateName___init___d ["self", "name"] []
  e_DuplicateName : L2E.ErrC K a.c_DuplicateName a.f_DuplicateName___init__ "name"
  s_DuplicateName : ∀ x : Value, PySem.W.subIn K (.ref a.c_DuplicateName) x = some ((Value.ref a.c_DuplicateName :: .ref a.c_ProgramError :: PySem.HandSPX.veTail).contains x)
  F_UnknownName___init__ : Fun K "__init__" "UnknownName.__init__" s_UnknownName___init__ a.f_UnknownName___init__ a.f_UnknownName___init___d
  b_UnknownName___init__ : Binds K a.f_UnknownName___init___d ["self", "name"] []
  e_UnknownName : L2E.ErrC K a.c_UnknownName a.f_UnknownName___init__ "name"
  s_UnknownName : ∀ x : Value, PySem.W.subIn K (.ref a.c_UnknownName) x = some ((Value.ref a.c_UnknownName :: .ref a.c_ProgramError :: PySem.HandSPX.veTail).contains x)
  F_WrongArguments___init__ : Fun K "__init__" "WrongArguments.__init__" s_WrongArguments___init__ a.f_WrongArguments___init__ a.f_WrongArguments___init___d
  b_WrongArguments___init__ : Binds K a.f_WrongArguments___init___d ["self", "place"] []
  e_WrongArguments : L2E.ErrC K a.c_WrongArguments a.f_WrongArguments___init__ "place"
  s_WrongArguments : ∀ x : Value, PySem.W.subIn K (.ref a.c_WrongArguments) x = some ((Value.ref a.c_WrongArguments :: .ref a.c_ProgramError :: PySem.HandSPX.veTail).contains x)
  F_InvalidFinally___init__ : Fun K "__init__" "InvalidFinally.__init__" s_InvalidFinally___init__ a.f_InvalidFinally___init__ a.f_InvalidFinally___init___d
  b_InvalidFinally___init__ : Binds K a.f_InvalidFinally___init___d ["self", "place"] []
  e_InvalidFinally : L2E.ErrC K a.c_InvalidFinally a.f_InvalidFinally___init__ "place"
  s_InvalidFinally : ∀ x : Value, PySem.W.subIn K (.ref a.c_InvalidFinally) x = some ((Value.ref a.c_InvalidFinally :: .ref a.c_ProgramError :: PySem.HandSPX.veTail).contains x)
  F_TooLarge___init__ : Fun K "__init__" "TooLarge.__init__" s_TooLarge___init__ a.f_TooLarge___init__ a.f_TooLarge___init___d
  b_TooLarge___init__ : Binds K a.f_TooLarge___init___d ["self", "word"] []
  e_TooLarge : L2E.ErrC K a.c_TooLarge a.f_TooLarge___init__ "word"
  s_TooLarge : ∀ x : Value, PySem.W.subIn K (.ref a.c_TooLarge) x = some ((Value.ref a.c_TooLarge :: .ref a.c_ProgramError :: PySem.HandSPX.veTail).contains x)
  F_InvalidRow___init__ : Fun K "__init__" "InvalidRow.__init__" s_InvalidRow___init__ a.f_InvalidRow___init__ a.f_InvalidRow___init___d
  b_InvalidRow___init__ : Binds K a.f_InvalidRow___init___d ["self", "value"] []
  e_InvalidRow : L2E.ErrC K a.c_InvalidRow a.f_InvalidRow___init__ "value"
  s_InvalidRow : ∀ x : Value, PySem.W.subIn K (.ref a.c_InvalidRow) x = some ((Value.ref a.c_InvalidRow :: .ref a.c_ProgramError :: PySem.HandSPX.veTail).contains x)
  F_InvalidCase___init__ : Fun K "__init__" "InvalidCase.__init__" s_InvalidCase___init__ a.f_InvalidCase___init__ a.f_InvalidCase___init___d
  b_InvalidCase___init__ : Binds K a.f_InvalidCase___init___d ["self", "value"] []
  e_InvalidCase : L2E.ErrC K a.c_InvalidCase a.f_InvalidCase___init__ "value"
  s_InvalidCase : ∀ x : Value, PySem.W.subIn K (.ref a.c_InvalidCase) x = some ((Value.ref a.c_InvalidCase :: .ref a.c_ProgramError :: PySem.HandSPX.veTail).contains x)
  F_InvalidEntry___init__ : Fun K "__init__" "InvalidEntry.__init__" s_InvalidEntry___init__ a.f_InvalidEntry___init__ a.f_InvalidEntry___init___d
  b_InvalidEntry___init__ : Binds K a.f_InvalidEntry___init___d ["self", "value"] []
  e_InvalidEntry : L2E.ErrC K a.c_InvalidEntry a.f_InvalidEntry___init__ "value"
  s_InvalidEntry : ∀ x : Value, PySem.W.subIn K (.ref a.c_InvalidEntry) x = some ((Value.ref a.c_InvalidEntry :: .ref a.c_ProgramError :: PySem.HandSPX.veTail).contains x)
  F_InvalidChoices___init__ : Fun K "__init__" "InvalidChoices.__init__" s_InvalidChoices___init__ a.f_InvalidChoices___init__ a.f_InvalidChoices___init___d
  b_InvalidChoices___init__ : Binds K a.f_InvalidChoices___init___d ["self", "value"] []
  e_InvalidChoices : L2E.ErrC K a.c_InvalidChoices a.f_InvalidChoices___init__ "value"
  s_InvalidChoices : ∀ x : Value, PySem.W.subIn K (.ref a.c_InvalidChoices) x = some ((Value.ref a.c_InvalidChoices :: .ref a.c_ProgramError :: PySem.HandSPX.veTail).contains x)
  F_InvalidInjection___init__ : Fun K "__init__" "InvalidInjection.__init__" s_InvalidInjection___init__ a.f_InvalidInjection___init__ a.f_InvalidInjection___init___d
  b_InvalidInjection___init__ : Binds K a.f_InvalidInjection___init___d ["self", "value"] []
  e_InvalidInjection : L2E.ErrC K a.c_InvalidInjection a.f_InvalidInjection___init__ "value"
  s_InvalidInjection : ∀ x : Value, PySem.W.subIn K (.ref a.c_InvalidInjection) x = some ((Value.ref a.c_InvalidInjection :: .ref a.c_ProgramError :: PySem.HandSPX.veTail).contains x)
  F_InvalidOrder___init__ : Fun K "__init__" "InvalidOrder.__init__" s_InvalidOrder___init__ a.f_InvalidOrder___init__ a.f_InvalidOrder___init___d
  b_InvalidOrder___init__ : Binds K a.f_InvalidOrder___init___d ["self", "value"] []
  e_InvalidOrder : L2E.ErrC K a.c_InvalidOrder a.f_InvalidOrder___init__ "value"
  s_InvalidOrder : ∀ x : Value, PySem.W.subIn K (.ref a.c_InvalidOrder) x = some ((Value.ref a.c_InvalidOrder :: .ref a.c_ProgramError :: PySem.HandSPX.veTail).contains x)
  F_InvalidEvent___init__ : Fun K "__init__" "InvalidEvent.__init__" s_InvalidEvent___init__ a.f_InvalidEvent___init__ a.f_InvalidEvent___init___d
  b_InvalidEvent___init__ : Binds K a.f_InvalidEvent___init___d ["self", "value"] []
  e_InvalidEvent : L2E.ErrC K a.c_InvalidEvent a.f_InvalidEvent___init__ "value"
  s_InvalidEvent : ∀ x : Value, PySem.W.subIn K (.ref a.c_InvalidEvent) x = some ((Value.ref a.c_InvalidEvent :: .ref a.c_ProgramError :: PySem.HandSPX.veTail).contains x)
  F_InvalidValues___init__ : Fun K "__init__" "InvalidValues.__init__" s_InvalidValues___init__ a.f_InvalidValues___init__ a.f_InvalidValues___init___d
  b_InvalidValues___init__ : Binds K a.f_InvalidValues___init___d ["self", "value"] []
  e_InvalidValues : L2E.ErrC K a.c_InvalidValues a.f_InvalidValues___init__ "value"
  s_InvalidValues : ∀ x : Value, PySem.W.subIn K (.ref a.c_InvalidValues) x = some ((Value.ref a.c_InvalidValues :: .ref a.c_ProgramError :: PySem.HandSPX.veTail).contains x)
  F_InvalidQuestion___init__ : Fun K "__init__" "InvalidQuestion.__init__" s_InvalidQuestion___init__ a.f_InvalidQuestion___init__ a.f_InvalidQuestion___init___d
  b_InvalidQuestion___init__ : Binds K a.f_InvalidQuestion___init___d ["self", "position"] []
  e_InvalidQuestion : L2E.ErrC K a.c_InvalidQuestion a.f_InvalidQuestion___init__ "position"
  s_InvalidQuestion : ∀ x : Value, PySem.W.subIn K (.ref a.c_InvalidQuestion) x = some ((Value.ref a.c_InvalidQuestion :: .ref a.c_ProgramError :: PySem.HandSPX.veTail).contains x)
  F_InvalidCommand___init__ : Fun K "__init__" "InvalidCommand.__init__" s_InvalidCommand___init__ a.f_InvalidCommand___init__ a.f_InvalidCommand___init___d
  b_InvalidCommand___init__ : Binds K a.f_InvalidCommand___init___d ["self", "word"] []
  e_InvalidCommand : L2E.ErrC K a.c_InvalidCommand a.f_InvalidCommand___init__ "word"
  s_InvalidCommand : ∀ x : Value, PySem.W.subIn K (.ref a.c_InvalidCommand) x = some ((Value.ref a.c_InvalidCommand :: .ref a.c_ProgramError :: PySem.HandSPX.veTail).contains x)
  F_UnknownFunction___init__ : Fun K "__init__" "UnknownFunction.__init__" s_UnknownFunction___init__ a.f_UnknownFunction___init__ a.f_UnknownFunction___init___d
  b_UnknownFunction___init__ : Binds K a.f_UnknownFunction___init___d ["self", "name"] []
  e_UnknownFunction : L2E.ErrC K a.c_UnknownFunction a.f_UnknownFunction___init__ "name"
  s_UnknownFunction : ∀ x : Value, PySem.W.subIn K (.ref a.c_UnknownFunction) x = some ((Value.ref a.c_UnknownFunction :: PySem.ErrB.tKey).contains x)
  F_LimitExceeded___init__ : Fun K "__init__" "LimitExceeded.__init__" s_LimitExceeded___init__ a.f_LimitExceeded___init__ a.f_LimitExceeded___init___d
  b_LimitExceeded___init__ : Binds K a.f_LimitExceeded___init___d ["self", "word"] []
  e_LimitExceeded : L2E.ErrC K a.c_LimitExceeded a.f_LimitExceeded___init__ "word"
  s_LimitExceeded : ∀ x : Value, PySem.W.subIn K (.ref a.c_LimitExceeded) x = some ((Value.ref a.c_LimitExceeded :: PySem.ErrB.tRun).contains x)
  F__law_pool : Fun K "_law_pool" "_law_pool" s__law_pool a.f__law_pool a.f__law_pool_d
  b__law_pool : Binds K a.f__law_pool_d ["_law_script"] []
  g__law_pool : mg "_law_pool" = some (.ref a.f__law_pool)
  F__law_mixed : Fun K "_law_mixed" "_law_mixed" s__law_mixed a.f__law_mixed a.f__law_mixed_d
  b__law_mixed : Binds K a.f__law_mixed_d ["_law_number", "_law_count", "_law_many"] []
  g__law_mixed : mg "_law_mixed" = some (.ref a.f__law_mixed)
  F__law_draw : Fun K "_law_draw" "_law_draw" s__law_draw a.f__law_draw a.f__law_draw_d
  b__law_draw : Binds K a.f__law_draw_d ["_law_pool_here", "_law_many"] []
  g__law_draw : mg "_law_draw" = some (.ref a.f__law_draw)
  F__law_first : Fun K "_law_first" "_law_first" s__law_first a.f__law_first a.f__law_first_d
  b__law_first : Binds K a.f__law_first_d ["_law_choice", "_law_value"] []
  g__law_first : mg "_law_first" = some (.ref a.f__law_first)
  F__law_second : Fun K "_law_second" "_law_second" s__law_second a.f__law_second a.f__law_second_d
  b__law_second : Binds K a.f__law_second_d ["_law_choice", "_law_value"] []
  g__law_second : mg "_law_second" = some (.ref a.f__law_second)
  F__law_kinds : Fun K "_law_kinds" "_law_kinds" s__law_kinds a.f__law_kinds a.f__law_kinds_d
  b__law_kinds : Binds K a.f__law_kinds_d ["_law_e"] []
  g__law_kinds : mg "_law_kinds" = some (.ref a.f__law_kinds)
  F__law_field : Fun K "_law_field" "_law_field" s__law_field a.f__law_field a.f__law_field_d
  b__law_field : Binds K a.f__law_field_d ["_law_choice", "_law_value"] []
  g__law_field : mg "_law_field" = some (.ref a.f__law_field)
  F_law : Fun K "law" "law" s_law a.f_law a.f_law_d
  g_law : mg "law" = some (.ref a.f_law)
  mg_InvalidText : mg "InvalidText" = some (.ref a.c_InvalidText)
  mg_InvalidSyntax : mg "InvalidSyntax" = some (.ref a.c_InvalidSyntax)
  mg_InvalidTree : mg "InvalidTree" = some (.ref a.c_InvalidTree)
  mg_DuplicateName : mg "DuplicateName" = some (.ref a.c_DuplicateName)
  mg_UnknownName : mg "UnknownName" = some (.ref a.c_UnknownName)
  mg_WrongArguments : mg "WrongArguments" = some (.ref a.c_WrongArguments)
  mg_InvalidFinally : mg "InvalidFinally" = some (.ref a.c_InvalidFinally)
  mg_TooLarge : mg "TooLarge" = some (.ref a.c_TooLarge)
  mg_InvalidRow : mg "InvalidRow" = some (.ref a.c_InvalidRow)
  mg_InvalidCase : mg "InvalidCase" = some (.ref a.c_InvalidCase)
  mg_InvalidEntry : mg "InvalidEntry" = some (.ref a.c_InvalidEntry)
  mg_InvalidChoices : mg "InvalidChoices" = some (.ref a.c_InvalidChoices)
  mg_InvalidInjection : mg "InvalidInjection" = some (.ref a.c_InvalidInjection)
  mg_InvalidOrder : mg "InvalidOrder" = some (.ref a.c_InvalidOrder)
  mg_InvalidEvent : mg "InvalidEvent" = some (.ref a.c_InvalidEvent)
  mg_InvalidValues : mg "InvalidValues" = some (.ref a.c_InvalidValues)
  mg_InvalidQuestion : mg "InvalidQuestion" = some (.ref a.c_InvalidQuestion)
  mg_InvalidCommand : mg "InvalidCommand" = some (.ref a.c_InvalidCommand)
  mg_UnknownFunction : mg "UnknownFunction" = some (.ref a.c_UnknownFunction)
  mg_LimitExceeded : mg "LimitExceeded" = some (.ref a.c_LimitExceeded)
  mg_ProgramError : mg "ProgramError" = some (.ref a.c_ProgramError)
  rd : L2E.ClsRd K
  pe : L2E.ClsP K a.c_ProgramError
  nd : [a.c_InvalidText, a.c_InvalidSyntax, a.c_InvalidTree, a.c_DuplicateName, a.c_UnknownName, a.c_WrongArguments, a.c_InvalidFinally, a.c_TooLarge, a.c_InvalidRow, a.c_InvalidCase, a.c_InvalidEntry, a.c_InvalidChoices, a.c_InvalidInjection, a.c_InvalidOrder, a.c_InvalidEvent, a.c_InvalidValues, a.c_InvalidQuestion, a.c_InvalidCommand, a.c_UnknownFunction, a.c_LimitExceeded, a.c_ProgramError].Nodup
  int : mg "int" = none
  len : mg "len" = none
  isinstance : mg "isinstance" = none
  range : mg "range" = none
  ValueError : mg "ValueError" = none
  KeyError : mg "KeyError" = none
  RuntimeError : mg "RuntimeError" = none

/-- a pool at p, its cells at l, at most n draws so far -/
structure PoolAt (H : Hp) (p l : Addr) (n : Int) : Prop where
  ne : p ≠ l
  ex : ∃ (cs : List Int) (ix cnt seed ph : Int), H p = some (.lst [.ref l, .int ix, .int cnt, .int seed, .int ph, .int 30]) ∧ H l = some (.lst (cs.map V.int)) ∧
    0 ≤ ix ∧ 0 ≤ cnt ∧ cnt ≤ n ∧ 0 ≤ seed ∧ seed < 2147483647 ∧ cs.length ≤ 63
theorem PoolAt.keep {H H' : Hp} {p l : Addr} {n : Int} (P : PoolAt H p l n) (hp : H' p = H p) (hl : H' l = H l) : PoolAt H' p l n := by
  obtain ⟨ne, cs, ix, cnt, seed, ph, h1, h2, r⟩ := P
  exact ⟨ne, cs, ix, cnt, seed, ph, by rw [hp]; exact h1, by rw [hl]; exact h2, r⟩
theorem PoolAt.same {H H' : Hp} {p l : Addr} {n : Int} (P : PoolAt H p l n) (s : Same H H') : PoolAt H' p l n := by
  obtain ⟨ne, cs, ix, cnt, seed, ph, h1, h2, r⟩ := P
  exact ⟨ne, cs, ix, cnt, seed, ph, s _ _ h1, s _ _ h2, r⟩
def spPool (K : PySem.W.Frag) : Sp := fun vs H Q _ => ∃ (a : Addr) (ns : List Int), vs = [.ref a] ∧ SqL K H a (ns.map V.int) ∧ ns.length ≤ 63 ∧
  ∀ H' p l, Same H H' → H p = none → H l = none → PoolAt H' p l 0 → Q (.ref p) H'
def spMixed : Sp := fun vs H Q _ => ∃ (a c m : Int), vs = [.int a, .int c, .int m] ∧ 0 ≤ a ∧ a < 2147483647 ∧ 0 ≤ c ∧ c ≤ 1099511627776 ∧ 0 < m ∧
  ∀ r : Int, 0 ≤ r → r < m → Q (.int r) H
def spDraw : Sp := fun vs H Q _ => ∃ (p l : Addr) (n m : Int), vs = [.ref p, .int m] ∧ PoolAt H p l n ∧ n < 1099511627776 ∧ 0 < m ∧ m.natAbs.log2 < 9000 ∧
  ∀ (r : Int) (H' : Hp), 0 ≤ r → r < m → PoolAt H' p l (n + 1) → (∀ b, b ≠ p → b ≠ l → H' b = H b) → Q (.int r) H'
theorem ixN_at {n j : Nat} (hj : j < n) : ixN n (j : Int) = some j := by
  unfold ixN
  rw [if_pos (by omega), if_pos (by omega)]
  exact congrArg some (by omega)
section
variable {P : Program} {w : World} {K : PySem.W.Frag} {mg : Str → Option Value} {base : Heap} {a : Ads}
theorem sc__law_mixed : FnScope ["_law_number", "_law_count", "_law_many"] ["_law_number", "_law_count", "_law_many"] (defScope s__law_mixed) := ⟨rfl, rfl, rfl, by decide +kernel, rfl, by decide +kernel, by decide +kernel⟩
theorem ok__law_mixed (T : Txt K mg a) : FnOk P w K mg base CX0 1 a.f__law_mixed a.f__law_mixed_d ["_law_number", "_law_count", "_law_many"] spMixed := by
  refine T.F__law_mixed.ok sc__law_mixed (fun vs H Q E h => ?_) (fun cdv A outer s H vs Q E hr h => ?_)
  · obtain ⟨x, c, m, rfl, _⟩ := h
    rfl
  obtain ⟨x, c, m, rfl, ha0, ha1, hc0, hc1, hm, q⟩ := h
  refine ⟨_, (pss_one (ps_ret (pe_op op_mod (pe_op op_fdiv (pe_callTy call_int1 (by rfl) T.int (by decide +kernel) (pa_cons (pe_op op_mod (pe_op op_pow (pe_callTy call_int1 (by rfl) T.int (by decide +kernel) (pa_cons (pe_op op_add (pv 0) (pe_op op_mul pe_int (pv 1))) pa_nil)) pe_int) pe_int) pa_nil)) pe_int) (pv 2)))), ?_⟩
  refine ⟨_, rfl, _, rfl, _, _, rfl, rfl, .inl ⟨by decide, by decide⟩, _, _, rfl, rfl, .inl ⟨_, rfl, ?_⟩⟩
  refine ⟨_, _, rfl, rfl, ⟨by decide, by decide, by omega⟩, _, _, rfl, rfl, (by show (0 : Int) < 2147483647; decide), .inl ⟨_, rfl, ?_⟩⟩
  refine ⟨_, _, rfl, rfl, ⟨by decide, by decide⟩, _, rfl, _, _, rfl, rfl, hm, ?_⟩
  exact q _ (Int.emod_nonneg _ (by omega)) (Int.emod_lt_of_pos _ hm)
theorem sc__law_pool : FnScope ["_law_script", "_law_cells", "_law_seed", "_law_cell"] ["_law_script"] (defScope s__law_pool) := ⟨rfl, rfl, rfl, by decide +kernel, rfl, by decide +kernel, by decide +kernel⟩
theorem ok__law_pool (T : Txt K mg a) : FnOk P w K mg base CX0 1 a.f__law_pool a.f__law_pool_d ["_law_script"] (spPool K) := by
  refine T.F__law_pool.ok sc__law_pool (fun vs H Q E h => ?_) (fun cdv A outer s H vs Q E hr h => ?_)
  · obtain ⟨a, ns, rfl, _⟩ := h
    rfl
  obtain ⟨a, ns, rfl, hS, hlen, q⟩ := h
  refine ⟨_, (pss_cons (ps_setLc (i := 1) (own := [("_law_cell", 3)]) (g := gName 3) (tt := tYes) (by rfl) sc__law_pool.nd rfl rfl (sw_true rfl rfl rfl (by decide +kernel)) (pi_list (pe_slice sl_list (pv 0) po_none (po_some pe_int))) (blkOk_by (own := [("_law_cell", 3)]) (N := ["_law_script", "_law_cells", "_law_seed", "_law_cell"]) (sc := defScope s__law_pool) (by decide +kernel)) (fun _ _ _ _ _ => pg_name (i := 3) sc__law_pool.nd rfl (Or.inl rfl)) (fun _ _ _ _ _ => pts_nil) (fun _ _ _ _ _ => (pe_callTy call_int1 (by rfl) T.int (by decide +kernel) (pa_cons (pv 3) pa_nil))))
    (pss_cons (ps_set (i := 2) sc__law_pool.nd rfl (Or.inl rfl) pe_int)
    (pss_cons (ps_for PassesOwn.never rfl (pi_list (pv 1)) (pg_name (i := 3) sc__law_pool.nd rfl (Or.inl rfl))
      (pss_one (ps_set (i := 2) sc__law_pool.nd rfl (Or.inl rfl) (pe_op op_mod (pe_callTy call_int1 (by rfl) T.int (by decide +kernel) (pa_cons (pe_op op_add (pe_op op_mul (pv 2) pe_int) (pv 3)) pa_nil)) pe_int))))
    (pss_one (ps_ret (pe_lst (pa_cons (pv 1) (pa_cons pe_int (pa_cons pe_int (pa_cons (pv 2) (pa_cons pe_int (pa_cons pe_int pa_nil)))))))))))), ?_⟩
  have ecut : cutV (ns.map V.int) none (some 63) = ns.map V.int := by
    unfold cutV
    rw [show HT.sIx (ns.map V.int).length (ns.map V.int).length (some 63) = min 63 (ns.map V.int).length from HT.sIx_nat _ _ 63, HT.sIx_none, List.length_map]
    show (ns.map V.int).take (min 63 ns.length - 0) = ns.map V.int
    exact List.take_of_length_le (by rw [List.length_map]; omega)
  refine ⟨_, rfl, 63, rfl, a, _, rfl, hS, fun c hc => ?_⟩
  have s1 : Same H (upd H c (.lst (cutV (ns.map V.int) none (some 63)))) := same_upd hc
  refine ⟨c, rfl, ⟨_, SqL.of upd_same⟩, fun D hD => ?_⟩
  have hcD : c ≠ D := ne_of_none upd_same hD
  refine lc_list (K := K) (a := c) (xs := ns.map V.int) (fun i H' => Same H H' ∧ H' c = some (.lst (ns.map V.int)) ∧ H' D = some (.lst ((ns.take i).map V.int))) ⟨s1.trans (same_upd hD), ?_, upd_same⟩ (fun i H' _ hh => SqL.of hh.2.1) ?_ ?_
  · rw [upd_ne hcD, upd_same, ecut]
  · rintro i x H' hi ⟨s2, hc2, hD2⟩
    obtain ⟨z, hz, rfl⟩ : ∃ z, ns[i]? = some z ∧ x = V.int z := by
      rw [List.getElem?_map] at hi
      cases e : ns[i]? with
      | none => rw [e] at hi; cases hi
      | some z => rw [e] at hi; exact ⟨z, rfl, (Option.some.inj hi).symm⟩
    have hil : i < ns.length := (List.getElem?_eq_some_iff.mp hz).1
    refine ⟨rfl, _, rfl, .inl ⟨_, rfl, _, hD2, ?_, ?_, ?_, ?_⟩⟩
    · rw [List.length_map, List.length_take]
      exact Nat.lt_of_le_of_lt (Nat.min_le_left _ _) (small1000 (by omega))
    · intro b o e
      rw [upd_ne (ne_of_none e (s1.free hD))]
      exact s2 _ _ e
    · rw [upd_ne hcD]; exact hc2
    · rw [upd_same, List.take_add_one, hz, List.map_append]; rfl
  · rintro H1 ⟨s2, hc2, hD2⟩
    rw [List.length_map, List.take_length] at hD2
    refine ⟨_, rfl, D, rfl, ⟨_, SqL.of hD2⟩, for_list (K := K) (a := D) (xs := ns.map V.int) (fun i σ H' => ∃ (v : Option V) (sd : Int), σ = [some (.ref a), some (.ref D), some (.int sd), v] ∧ H' = H1 ∧ 0 ≤ sd ∧ sd < 2147483647)
      ⟨none, 11, rfl, rfl, by decide, by decide⟩ (fun i σ H' _ ⟨_, _, _, e, _⟩ => by rw [e]; exact SqL.of hD2) ?_ ?_⟩
    · rintro i x σ H' hi ⟨v, sd, rfl, rfl, h0, h1⟩
      obtain ⟨z, hz, rfl⟩ : ∃ z, ns[i]? = some z ∧ x = V.int z := by
        rw [List.getElem?_map] at hi
        cases e : ns[i]? with
        | none => rw [e] at hi; cases hi
        | some z => rw [e] at hi; exact ⟨z, rfl, (Option.some.inj hi).symm⟩
      refine ⟨_, rfl, _, _, rfl, rfl, .inl ⟨by omega, by omega⟩, _, rfl, _, _, rfl, rfl, .inl ⟨_, rfl, _, _, rfl, rfl, (by show (0 : Int) < 2147483647; decide), ?_⟩⟩
      exact ⟨_, _, rfl, rfl, Int.emod_nonneg _ (by decide), Int.emod_lt_of_pos _ (by decide)⟩
    · rintro σ H' ⟨v, sd, rfl, rfl, h0, h1⟩
      refine ⟨_, rfl, _, rfl, (by show 6 ≤ sizeLine; decide), fun p hp => ?_⟩
      have hpD : D ≠ p := ne_of_none hD2 hp
      refine q _ p D (s2.trans (same_upd hp)) (s2.free hp) (s1.free hD) ⟨fun e => hpD e.symm, ns, 0, 0, sd, 0, upd_same, by rw [upd_ne hpD]; exact hD2, by decide, by decide, by decide, h0, h1, hlen⟩
theorem sc__law_draw : FnScope ["_law_pool_here", "_law_many", "_law_at", "_law_cells", "_law_cell"] ["_law_pool_here", "_law_many"] (defScope s__law_draw) := ⟨rfl, rfl, rfl, by decide +kernel, rfl, by decide +kernel, by decide +kernel⟩
theorem ok__law_draw (T : Txt K mg a) : FnOk P w K mg base CX0 2 a.f__law_draw a.f__law_draw_d ["_law_pool_here", "_law_many"] spDraw := by
  refine T.F__law_draw.ok sc__law_draw (fun vs H Q E h => ?_) (fun cdv A outer s H vs Q E hr h => ?_)
  · obtain ⟨p, l, n, m, rfl, _⟩ := h
    rfl
  obtain ⟨p, l, n, m, rfl, ⟨ne, cs, ix, cnt, seed, ph, h1, h2, hix, hc0, hcn, hs0, hs1, hlen⟩, hn, hm, hml, q⟩ := h
  refine ⟨_, (pss_cons (ps_asg (pe_op op_add (pe_ix ix_list (pv 0) pe_int (fun _ _ => rfl)) pe_int) (pg_sub (pv 0) pe_int set_list))
    (pss_cons (ps_if (pt_cmpR op_ge (pe_ix ix_list (pv 0) pe_int (fun _ _ => rfl)) (pe_callB call_len_seq (by rfl) T.len PySem.boot_len (pa_cons (pe_ix ix_list (pv 0) pe_int (fun _ _ => rfl)) pa_nil)) (nomark _))
      (pss_one (ps_ret (pe_call (ok__law_mixed T) (hr.mono (by decide)) (by rfl) T.g__law_mixed T.F__law_mixed.kp T.b__law_mixed .nil pass0 (pa_cons (pe_ix ix_list (pv 0) pe_int (fun _ _ => rfl)) (pa_cons (pe_ix ix_list (pv 0) pe_int (fun _ _ => rfl)) (pa_cons (pv 1) pa_nil))))))
      pss_nil)
    (pss_cons (ps_set (i := 2) sc__law_draw.nd rfl (Or.inl rfl) (pe_ix ix_list (pv 0) pe_int (fun _ _ => rfl)))
    (pss_cons (ps_set (i := 3) sc__law_draw.nd rfl (Or.inl rfl) (pe_ix ix_list (pv 0) pe_int (fun _ _ => rfl)))
    (pss_cons (ps_set (i := 4) sc__law_draw.nd rfl (Or.inl rfl) (pe_ix ix_list (pv 3) (pv 2) (fun _ _ => rfl)))
    (pss_cons (ps_if (PW.pt (pw_and (pt_cmpR op_ne (pe_ix ix_list (pv 0) pe_int (fun _ _ => rfl)) pe_int (nomark _)) (pw_and1 (pt_cmpR op_lt (pv 4) (pe_op op_pow pe_int pe_int) (nomark _)))))
      (pss_cons (ps_asg (pe_op op_add (pe_ix ix_list (pv 0) pe_int (fun _ _ => rfl)) pe_int) (pg_sub (pv 0) pe_int set_list))
      (pss_cons (ps_if (pt_cmpR op_eq (pe_ix ix_list (pv 0) pe_int (fun _ _ => rfl)) pe_int (nomark _))
        (pss_cons (ps_asg (pe_op op_add (pv 2) pe_int) (pg_sub (pv 0) pe_int set_list))
        (pss_one (ps_asg pe_int (pg_sub (pv 0) pe_int set_list))))
        pss_nil)
      (pss_one (ps_ret (pe_call (ok__law_mixed T) (hr.mono (by decide)) (by rfl) T.g__law_mixed T.F__law_mixed.kp T.b__law_mixed .nil pass0 (pa_cons (pe_op op_mod (pe_callTy call_int1 (by rfl) T.int (by decide +kernel) (pa_cons (pv 4) pa_nil)) pe_int) (pa_cons (pe_ix ix_list (pv 0) pe_int (fun _ _ => rfl)) (pa_cons (pv 1) pa_nil))))))))
      pss_nil)
    (pss_cons (ps_asg pe_int (pg_sub (pv 0) pe_int set_list))
    (pss_cons (ps_asg (pe_op op_fdivW (pe_callTy call_int1 (by rfl) T.int (by decide +kernel) (pa_cons (pv 4) pa_nil)) (pv 1)) (pg_sub (pv 3) (pv 2) set_list))
    (pss_cons (ps_if (pt_cmpR op_eq (pe_ix ix_list (pv 3) (pv 2) (fun _ _ => rfl)) pe_int (nomark _))
      (pss_cons (ps_asg (pe_op op_add (pv 2) pe_int) (pg_sub (pv 0) pe_int set_list))
      (pss_one (ps_asg pe_int (pg_sub (pv 0) pe_int set_list))))
      pss_nil)
    (pss_one (ps_ret (pe_op op_mod (pe_callTy call_int1 (by rfl) T.int (by decide +kernel) (pa_cons (pv 4) pa_nil)) (pv 1))))))))))))), ?_⟩
  refine ⟨_, rfl, p, _, _, _, rfl, rfl, SqL.of h1, atI_nat (j := 2) rfl, _, _, rfl, rfl, _, rfl, p, _, _, 2, rfl, rfl, h1, rfl, ?_⟩
  have h1a : (upd H p (.lst [.ref l, .int ix, .int (cnt + 1), .int seed, .int ph, .int 30])) p = some (.lst [.ref l, .int ix, .int (cnt + 1), .int seed, .int ph, .int 30]) := upd_same
  have h2a : (upd H p (.lst [.ref l, .int ix, .int (cnt + 1), .int seed, .int ph, .int 30])) l = some (.lst (cs.map V.int)) := by rw [upd_ne ne.symm]; exact h2
  have hfa : ∀ b, b ≠ p → b ≠ l → (upd H p (.lst [.ref l, .int ix, .int (cnt + 1), .int seed, .int ph, .int 30])) b = H b := fun b hb _ => upd_ne hb
  show tSeq _ _ _ _ (upd H p (.lst [.ref l, .int ix, .int (cnt + 1), .int seed, .int ph, .int 30]))
  generalize (upd H p (.lst [.ref l, .int ix, .int (cnt + 1), .int seed, .int ph, .int 30])) = H1 at h1a h2a hfa ⊢
  refine ⟨_, rfl, p, _, _, _, rfl, rfl, SqL.of h1a, atI_nat (j := 1) rfl, _, rfl, p, _, _, _, rfl, rfl, SqL.of h1a, atI_nat (j := 0) rfl, l, _, rfl, .inl (SqL.of h2a), _, _, rfl, rfl, _, rfl, ite2 (fun e => ?_) (fun e => ?_)⟩
  · refine ⟨_, rfl, p, _, _, _, rfl, rfl, SqL.of h1a, atI_nat (j := 3) rfl, _, rfl, p, _, _, _, rfl, rfl, SqL.of h1a, atI_nat (j := 2) rfl, _, rfl, seed, cnt + 1, m, rfl, hs0, hs1, by omega, by omega, hm, fun r hr0 hr1 => ?_⟩
    exact q r _ hr0 hr1 ⟨ne, cs, ix, cnt + 1, seed, ph, h1a, h2a, hix, by omega, by omega, hs0, hs1, hlen⟩ hfa
  · have hlt : ix < (cs.length : Int) := by
      have e' := of_decide_eq_false (Bool.eq_false_iff.mpr e)
      rw [List.length_map] at e'
      omega
    obtain ⟨j, rfl⟩ : ∃ j : Nat, ix = (j : Int) := ⟨ix.toNat, by omega⟩
    have hj : j < cs.length := by omega
    have hz : (cs.map V.int)[j]? = some (.int cs[j]) := by rw [List.getElem?_map, List.getElem?_eq_getElem hj]; rfl
    generalize cs[j] = z at hz
    refine ⟨_, rfl, p, _, _, _, rfl, rfl, SqL.of h1a, atI_nat (j := 1) rfl, ?_⟩
    refine ⟨_, rfl, p, _, _, _, rfl, rfl, SqL.of h1a, atI_nat (j := 0) rfl, ?_⟩
    refine ⟨_, rfl, _, rfl, l, _, _, _, rfl, rfl, SqL.of h2a, atI_nat (j := j) hz, ?_⟩
    dsimp only [gName]
    refine st_seq (st_ite (b := (!decide (V.int ph = V.int 2)) && decide (z < 10 ^ (18 : Int).toNat)) (ans_and2 (fun Q q => ⟨_, rfl, p, _, _, _, rfl, rfl, SqL.of h1a, atI_nat (j := 4) rfl, rfl, _, rfl, q⟩) (fun Q q => ⟨_, rfl, _, _, rfl, rfl, ⟨by decide, by decide, by decide⟩, _, _, rfl, rfl, _, rfl, q⟩)) (fun e1 => ?_) (fun e1 => ?_))
    · -- a small cell: the phase grows
      refine ⟨_, rfl, p, _, _, _, rfl, rfl, SqL.of h1a, atI_nat (j := 4) rfl, _, _, rfl, rfl, _, rfl, p, _, _, 4, rfl, rfl, h1a, rfl, ?_⟩
      dsimp only [gName]
      refine st_seq (st_ite (b := decide (V.int (ph + 1) = V.int 2)) (fun Q q => ⟨_, rfl, p, _, _, _, rfl, rfl, SqL.of upd_same, atI_nat (j := 4) rfl, rfl, _, rfl, q⟩) (fun e2 => ?_) (fun e2 => ?_))
      · refine ⟨_, rfl, _, _, rfl, rfl, _, rfl, p, _, _, 1, rfl, rfl, upd_same, rfl, _, rfl, p, _, _, 4, rfl, rfl, upd_same, rfl, ?_⟩
        refine ⟨_, rfl, .inl ⟨_, rfl, _, _, rfl, rfl, (by show (0 : Int) < 2147483647; decide), _, rfl, p, _, _, _, rfl, rfl, SqL.of upd_same, atI_nat (j := 2) rfl, _, rfl, _, cnt + 1, m, rfl, Int.emod_nonneg _ (by decide), Int.emod_lt_of_pos _ (by decide), by omega, by omega, hm, fun r hr0 hr1 => ?_⟩⟩
        exact q r _ hr0 hr1 ⟨ne, cs, (j : Int) + 1, cnt + 1, seed, 0, upd_same, by rw [upd_ne ne.symm, upd_ne ne.symm, upd_ne ne.symm]; exact h2a, by omega, by omega, by omega, hs0, hs1, hlen⟩ fun b hb hb2 => by rw [upd_ne hb, upd_ne hb, upd_ne hb]; exact hfa b hb hb2
      · refine ⟨_, rfl, .inl ⟨_, rfl, _, _, rfl, rfl, (by show (0 : Int) < 2147483647; decide), _, rfl, p, _, _, _, rfl, rfl, SqL.of upd_same, atI_nat (j := 2) rfl, _, rfl, _, cnt + 1, m, rfl, Int.emod_nonneg _ (by decide), Int.emod_lt_of_pos _ (by decide), by omega, by omega, hm, fun r hr0 hr1 => ?_⟩⟩
        exact q r _ hr0 hr1 ⟨ne, cs, (j : Int), cnt + 1, seed, ph + 1, upd_same, by rw [upd_ne ne.symm]; exact h2a, by omega, by omega, by omega, hs0, hs1, hlen⟩ fun b hb hb2 => by rw [upd_ne hb]; exact hfa b hb hb2
    · -- a great one: divided
      refine ⟨_, rfl, p, _, _, 4, rfl, rfl, h1a, rfl, ?_⟩
      refine ⟨_, rfl, .inl ⟨_, rfl, _, rfl, _, _, rfl, rfl, ⟨hm, hml⟩, _, rfl, _, rfl, l, _, _, j, rfl, rfl, by rw [upd_ne ne.symm]; exact h2a, ixN_at (by rw [List.length_map]; exact hj), ?_⟩⟩
      have h1b : ∀ x, (upd (upd H1 p (.lst [.ref l, .int j, .int (cnt + 1), .int seed, .int 2, .int 30])) l x) p = some (.lst [.ref l, .int j, .int (cnt + 1), .int seed, .int 2, .int 30]) := fun x => by rw [upd_ne ne]; exact upd_same
      have e3 : (cs.map V.int).set j (.int (z / m)) = (cs.set j (z / m)).map V.int := by rw [List.map_set]
      have hl2 : (cs.set j (z / m)).length ≤ 63 := by rw [List.length_set]; exact hlen
      have hz2 : ((cs.map V.int).set j (.int (z / m)))[j]? = some (.int (z / m)) := by rw [List.getElem?_set_self]; rw [List.length_map]; exact hj
      dsimp only [gName]
      refine st_seq (st_ite (b := decide (V.int (z / m) = V.int 0)) (fun Q q => ⟨_, rfl, _, rfl, l, _, _, _, rfl, rfl, SqL.of upd_same, atI_nat (j := j) hz2, rfl, _, rfl, q⟩) (fun e2 => ?_) (fun e2 => ?_))
      · refine ⟨_, rfl, _, _, rfl, rfl, _, rfl, p, _, _, 1, rfl, rfl, h1b _, rfl, _, rfl, p, _, _, 4, rfl, rfl, upd_same, rfl, ?_⟩
        refine ⟨_, rfl, .inl ⟨_, rfl, _, rfl, _, _, rfl, rfl, hm, ?_⟩⟩
        exact q _ _ (Int.emod_nonneg _ (by omega)) (Int.emod_lt_of_pos _ hm) ⟨ne, _, (j : Int) + 1, cnt + 1, seed, 0, upd_same, by rw [upd_ne ne.symm, upd_ne ne.symm, upd_same, e3], by omega, by omega, by omega, hs0, hs1, hl2⟩ fun b hb hb2 => by rw [upd_ne hb, upd_ne hb, upd_ne hb2, upd_ne hb]; exact hfa b hb hb2
      · refine ⟨_, rfl, .inl ⟨_, rfl, _, rfl, _, _, rfl, rfl, hm, ?_⟩⟩
        exact q _ _ (Int.emod_nonneg _ (by omega)) (Int.emod_lt_of_pos _ hm) ⟨ne, _, (j : Int), cnt + 1, seed, 2, h1b _, by rw [upd_same, e3], by omega, by omega, by omega, hs0, hs1, hl2⟩ fun b hb hb2 => by rw [upd_ne hb2, upd_ne hb]; exact hfa b hb hb2
end
/-! ### the classes of errors by number -/
def cs (a : Ads) : List Addr := [a.c_InvalidText, a.c_InvalidSyntax, a.c_InvalidTree, a.c_DuplicateName, a.c_UnknownName, a.c_WrongArguments, a.c_InvalidFinally, a.c_TooLarge, a.c_InvalidRow, a.c_InvalidCase, a.c_InvalidEntry, a.c_InvalidChoices, a.c_InvalidInjection, a.c_InvalidOrder, a.c_InvalidEvent, a.c_InvalidValues, a.c_InvalidQuestion, a.c_InvalidCommand, a.c_UnknownFunction, a.c_LimitExceeded]
def fds : List Str := ["value", "position", "value", "name", "name", "place", "place", "word", "value", "value", "value", "value", "value", "value", "value", "value", "position", "word", "name", "word"]
/-- an error of number i, its field v -/
def spErrs (a : Ads) (lo : Nat) : Sp := fun vs H _ E => ∃ (i : Nat) (v : V) (C : Addr) (f : Str), lo ≤ i ∧ i < 20 ∧ vs = [.int (i : Int), v] ∧ (cs a)[i]? = some C ∧ fds[i]? = some f ∧ ∀ d, H d = none → E (.ref C) (some d) (upd H d (.xd [(f, v)]))
section
variable {P : Program} {w : World} {K : PySem.W.Frag} {mg : Str → Option Value} {base : Heap} {a : Ads}
theorem sc_InvalidText___init__ : FnScope ["self", "value"] ["self", "value"] (defScope s_InvalidText___init__) := ⟨rfl, rfl, rfl, by decide +kernel, rfl, by decide +kernel, by decide +kernel⟩
theorem ok_InvalidText___init__ (T : Txt K mg a) : FnOk P w K mg base CX0 1 a.f_InvalidText___init__ a.f_InvalidText___init___d ["self", "value"] (L2E.spErr a.c_InvalidText "value") := by
  refine T.F_InvalidText___init__.ok sc_InvalidText___init__ (fun vs H Q E h => ?_) (fun cdv A outer s H vs Q E hr h => ?_)
  · obtain ⟨_, _, rfl, _⟩ := h
    rfl
  obtain ⟨x, v, rfl, hx, q⟩ := h
  exact ⟨_, pss_one (L2E.ps_ostE T.e_InvalidText (pv 0) (pv 1)), _, rfl, _, rfl, x, rfl, hx, q⟩
theorem sc_InvalidSyntax___init__ : FnScope ["self", "position"] ["self", "position"] (defScope s_InvalidSyntax___init__) := ⟨rfl, rfl, rfl, by decide +kernel, rfl, by decide +kernel, by decide +kernel⟩
theorem ok_InvalidSyntax___init__ (T : Txt K mg a) : FnOk P w K mg base CX0 1 a.f_InvalidSyntax___init__ a.f_InvalidSyntax___init___d ["self", "position"] (L2E.spErr a.c_InvalidSyntax "position") := by
  refine T.F_InvalidSyntax___init__.ok sc_InvalidSyntax___init__ (fun vs H Q E h => ?_) (fun cdv A outer s H vs Q E hr h => ?_)
  · obtain ⟨_, _, rfl, _⟩ := h
    rfl
  obtain ⟨x, v, rfl, hx, q⟩ := h
  exact ⟨_, pss_one (L2E.ps_ostE T.e_InvalidSyntax (pv 0) (pv 1)), _, rfl, _, rfl, x, rfl, hx, q⟩
theorem sc_InvalidTree___init__ : FnScope ["self", "value"] ["self", "value"] (defScope s_InvalidTree___init__) := ⟨rfl, rfl, rfl, by decide +kernel, rfl, by decide +kernel, by decide +kernel⟩
theorem ok_InvalidTree___init__ (T : Txt K mg a) : FnOk P w K mg base CX0 1 a.f_InvalidTree___init__ a.f_InvalidTree___init___d ["self", "value"] (L2E.spErr a.c_InvalidTree "value") := by
  refine T.F_InvalidTree___init__.ok sc_InvalidTree___init__ (fun vs H Q E h => ?_) (fun cdv A outer s H vs Q E hr h => ?_)
  · obtain ⟨_, _, rfl, _⟩ := h
    rfl
  obtain ⟨x, v, rfl, hx, q⟩ := h
  exact ⟨_, pss_one (L2E.ps_ostE T.e_InvalidTree (pv 0) (pv 1)), _, rfl, _, rfl, x, rfl, hx, q⟩
theorem sc_DuplicateName___init__ : FnScope ["self", "name"] ["self", "name"] (defScope s_DuplicateName___init__) := ⟨rfl, rfl, rfl, by decide +kernel, rfl, by decide +kernel, by decide +kernel⟩
theorem ok_DuplicateName___init__ (T : Txt K mg a) : FnOk P w K mg base CX0 1 a.f_DuplicateName___init__ a.f_DuplicateName___init___d ["self", "name"] (L2E.spErr a.c_DuplicateName "name") := by
  refine T.F_DuplicateName___init__.ok sc_DuplicateName___init__ (fun vs H Q E h => ?_) (fun cdv A outer s H vs Q E hr h => ?_)
  · obtain ⟨_, _, rfl, _⟩ := h
    rfl
  obtain ⟨x, v, rfl, hx, q⟩ := h
  exact ⟨_, pss_one (L2E.ps_ostE T.e_DuplicateName (pv 0) (pv 1)), _, rfl, _, rfl, x, rfl, hx, q⟩
theorem sc_UnknownName___init__ : FnScope ["self", "name"] ["self", "name"] (defScope s_UnknownName___init__) := ⟨rfl, rfl, rfl, by decide +kernel, rfl, by decide +kernel, by decide +kernel⟩
theorem ok_UnknownName___init__ (T : Txt K mg a) : FnOk P w K mg base CX0 1 a.f_UnknownName___init__ a.f_UnknownName___init___d ["self", "name"] (L2E.spErr a.c_UnknownName "name") := by
  refine T.F_UnknownName___init__.ok sc_UnknownName___init__ (fun vs H Q E h => ?_) (fun cdv A outer s H vs Q E hr h => ?_)
  · obtain ⟨_, _, rfl, _⟩ := h
    rfl
  obtain ⟨x, v, rfl, hx, q⟩ := h
  exact ⟨_, pss_one (L2E.ps_ostE T.e_UnknownName (pv 0) (pv 1)), _, rfl, _, rfl, x, rfl, hx, q⟩
theorem sc_WrongArguments___init__ : FnScope ["self", "place"] ["self", "place"] (defScope s_WrongArguments___init__) := ⟨rfl, rfl, rfl, by decide +kernel, rfl, by decide +kernel, by decide +kernel⟩
theorem ok_WrongArguments___init__ (T : Txt K mg a) : FnOk P w K mg base CX0 1 a.f_WrongArguments___init__ a.f_WrongArguments___init___d ["self", "place"] (L2E.spErr a.c_WrongArguments "place") := by
  refine T.F_WrongArguments___init__.ok sc_WrongArguments___init__ (fun vs H Q E h => ?_) (fun cdv A outer s H vs Q E hr h => ?_)
  · obtain ⟨_, _, rfl, _⟩ := h
    rfl
  obtain ⟨x, v, rfl, hx, q⟩ := h
  exact ⟨_, pss_one (L2E.ps_ostE T.e_WrongArguments (pv 0) (pv 1)), _, rfl, _, rfl, x, rfl, hx, q⟩
theorem sc_InvalidFinally___init__ : FnScope ["self", "place"] ["self", "place"] (defScope s_InvalidFinally___init__) := ⟨rfl, rfl, rfl, by decide +kernel, rfl, by decide +kernel, by decide +kernel⟩
theorem ok_InvalidFinally___init__ (T : Txt K mg a) : FnOk P w K mg base CX0 1 a.f_InvalidFinally___init__ a.f_InvalidFinally___init___d ["self", "place"] (L2E.spErr a.c_InvalidFinally "place") := by
  refine T.F_InvalidFinally___init__.ok sc_InvalidFinally___init__ (fun vs H Q E h => ?_) (fun cdv A outer s H vs Q E hr h => ?_)
  · obtain ⟨_, _, rfl, _⟩ := h
    rfl
  obtain ⟨x, v, rfl, hx, q⟩ := h
  exact ⟨_, pss_one (L2E.ps_ostE T.e_InvalidFinally (pv 0) (pv 1)), _, rfl, _, rfl, x, rfl, hx, q⟩
theorem sc_TooLarge___init__ : FnScope ["self", "word"] ["self", "word"] (defScope s_TooLarge___init__) := ⟨rfl, rfl, rfl, by decide +kernel, rfl, by decide +kernel, by decide +kernel⟩
theorem ok_TooLarge___init__ (T : Txt K mg a) : FnOk P w K mg base CX0 1 a.f_TooLarge___init__ a.f_TooLarge___init___d ["self", "word"] (L2E.spErr a.c_TooLarge "word") := by
  refine T.F_TooLarge___init__.ok sc_TooLarge___init__ (fun vs H Q E h => ?_) (fun cdv A outer s H vs Q E hr h => ?_)
  · obtain ⟨_, _, rfl, _⟩ := h
    rfl
  obtain ⟨x, v, rfl, hx, q⟩ := h
  exact ⟨_, pss_one (L2E.ps_ostE T.e_TooLarge (pv 0) (pv 1)), _, rfl, _, rfl, x, rfl, hx, q⟩
theorem sc_InvalidRow___init__ : FnScope ["self", "value"] ["self", "value"] (defScope s_InvalidRow___init__) := ⟨rfl, rfl, rfl, by decide +kernel, rfl, by decide +kernel, by decide +kernel⟩
theorem ok_InvalidRow___init__ (T : Txt K mg a) : FnOk P w K mg base CX0 1 a.f_InvalidRow___init__ a.f_InvalidRow___init___d ["self", "value"] (L2E.spErr a.c_InvalidRow "value") := by
  refine T.F_InvalidRow___init__.ok sc_InvalidRow___init__ (fun vs H Q E h => ?_) (fun cdv A outer s H vs Q E hr h => ?_)
  · obtain ⟨_, _, rfl, _⟩ := h
    rfl
  obtain ⟨x, v, rfl, hx, q⟩ := h
  exact ⟨_, pss_one (L2E.ps_ostE T.e_InvalidRow (pv 0) (pv 1)), _, rfl, _, rfl, x, rfl, hx, q⟩
theorem sc_InvalidCase___init__ : FnScope ["self", "value"] ["self", "value"] (defScope s_InvalidCase___init__) := ⟨rfl, rfl, rfl, by decide +kernel, rfl, by decide +kernel, by decide +kernel⟩
theorem ok_InvalidCase___init__ (T : Txt K mg a) : FnOk P w K mg base CX0 1 a.f_InvalidCase___init__ a.f_InvalidCase___init___d ["self", "value"] (L2E.spErr a.c_InvalidCase "value") := by
  refine T.F_InvalidCase___init__.ok sc_InvalidCase___init__ (fun vs H Q E h => ?_) (fun cdv A outer s H vs Q E hr h => ?_)
  · obtain ⟨_, _, rfl, _⟩ := h
    rfl
  obtain ⟨x, v, rfl, hx, q⟩ := h
  exact ⟨_, pss_one (L2E.ps_ostE T.e_InvalidCase (pv 0) (pv 1)), _, rfl, _, rfl, x, rfl, hx, q⟩
theorem sc_InvalidEntry___init__ : FnScope ["self", "value"] ["self", "value"] (defScope s_InvalidEntry___init__) := ⟨rfl, rfl, rfl, by decide +kernel, rfl, by decide +kernel, by decide +kernel⟩
theorem ok_InvalidEntry___init__ (T : Txt K mg a) : FnOk P w K mg base CX0 1 a.f_InvalidEntry___init__ a.f_InvalidEntry___init___d ["self", "value"] (L2E.spErr a.c_InvalidEntry "value") := by
  refine T.F_InvalidEntry___init__.ok sc_InvalidEntry___init__ (fun vs H Q E h => ?_) (fun cdv A outer s H vs Q E hr h => ?_)
  · obtain ⟨_, _, rfl, _⟩ := h
    rfl
  obtain ⟨x, v, rfl, hx, q⟩ := h
  exact ⟨_, pss_one (L2E.ps_ostE T.e_InvalidEntry (pv 0) (pv 1)), _, rfl, _, rfl, x, rfl, hx, q⟩
theorem sc_InvalidChoices___init__ : FnScope ["self", "value"] ["self", "value"] (defScope s_InvalidChoices___init__) := ⟨rfl, rfl, rfl, by decide +kernel, rfl, by decide +kernel, by decide +kernel⟩
theorem ok_InvalidChoices___init__ (T : Txt K mg a) : FnOk P w K mg base CX0 1 a.f_InvalidChoices___init__ a.f_InvalidChoices___init___d ["self", "value"] (L2E.spErr a.c_InvalidChoices "value") := by
  refine T.F_InvalidChoices___init__.ok sc_InvalidChoices___init__ (fun vs H Q E h => ?_) (fun cdv A outer s H vs Q E hr h => ?_)
  · obtain ⟨_, _, rfl, _⟩ := h
    rfl
  obtain ⟨x, v, rfl, hx, q⟩ := h
  exact ⟨_, pss_one (L2E.ps_ostE T.e_InvalidChoices (pv 0) (pv 1)), _, rfl, _, rfl, x, rfl, hx, q⟩
theorem sc_InvalidInjection___init__ : FnScope ["self", "value"] ["self", "value"] (defScope s_InvalidInjection___init__) := ⟨rfl, rfl, rfl, by decide +kernel, rfl, by decide +kernel, by decide +kernel⟩
theorem ok_InvalidInjection___init__ (T : Txt K mg a) : FnOk P w K mg base CX0 1 a.f_InvalidInjection___init__ a.f_InvalidInjection___init___d ["self", "value"] (L2E.spErr a.c_InvalidInjection "value") := by
  refine T.F_InvalidInjection___init__.ok sc_InvalidInjection___init__ (fun vs H Q E h => ?_) (fun cdv A outer s H vs Q E hr h => ?_)
  · obtain ⟨_, _, rfl, _⟩ := h
    rfl
  obtain ⟨x, v, rfl, hx, q⟩ := h
  exact ⟨_, pss_one (L2E.ps_ostE T.e_InvalidInjection (pv 0) (pv 1)), _, rfl, _, rfl, x, rfl, hx, q⟩
theorem sc_InvalidOrder___init__ : FnScope ["self", "value"] ["self", "value"] (defScope s_InvalidOrder___init__) := ⟨rfl, rfl, rfl, by decide +kernel, rfl, by decide +kernel, by decide +kernel⟩
theorem ok_InvalidOrder___init__ (T : Txt K mg a) : FnOk P w K mg base CX0 1 a.f_InvalidOrder___init__ a.f_InvalidOrder___init___d ["self", "value"] (L2E.spErr a.c_InvalidOrder "value") := by
  refine T.F_InvalidOrder___init__.ok sc_InvalidOrder___init__ (fun vs H Q E h => ?_) (fun cdv A outer s H vs Q E hr h => ?_)
  · obtain ⟨_, _, rfl, _⟩ := h
    rfl
  obtain ⟨x, v, rfl, hx, q⟩ := h
  exact ⟨_, pss_one (L2E.ps_ostE T.e_InvalidOrder (pv 0) (pv 1)), _, rfl, _, rfl, x, rfl, hx, q⟩
theorem sc_InvalidEvent___init__ : FnScope ["self", "value"] ["self", "value"] (defScope s_InvalidEvent___init__) := ⟨rfl, rfl, rfl, by decide +kernel, rfl, by decide +kernel, by decide +kernel⟩
theorem ok_InvalidEvent___init__ (T : Txt K mg a) : FnOk P w K mg base CX0 1 a.f_InvalidEvent___init__ a.f_InvalidEvent___init___d ["self", "value"] (L2E.spErr a.c_InvalidEvent "value") := by
  refine T.F_InvalidEvent___init__.ok sc_InvalidEvent___init__ (fun vs H Q E h => ?_) (fun cdv A outer s H vs Q E hr h => ?_)
  · obtain ⟨_, _, rfl, _⟩ := h
    rfl
  obtain ⟨x, v, rfl, hx, q⟩ := h
  exact ⟨_, pss_one (L2E.ps_ostE T.e_InvalidEvent (pv 0) (pv 1)), _, rfl, _, rfl, x, rfl, hx, q⟩
theorem sc_InvalidValues___init__ : FnScope ["self", "value"] ["self", "value"] (defScope s_InvalidValues___init__) := ⟨rfl, rfl, rfl, by decide +kernel, rfl, by decide +kernel, by decide +kernel⟩
theorem ok_InvalidValues___init__ (T : Txt K mg a) : FnOk P w K mg base CX0 1 a.f_InvalidValues___init__ a.f_InvalidValues___init___d ["self", "value"] (L2E.spErr a.c_InvalidValues "value") := by
  refine T.F_InvalidValues___init__.ok sc_InvalidValues___init__ (fun vs H Q E h => ?_) (fun cdv A outer s H vs Q E hr h => ?_)
  · obtain ⟨_, _, rfl, _⟩ := h
    rfl
  obtain ⟨x, v, rfl, hx, q⟩ := h
  exact ⟨_, pss_one (L2E.ps_ostE T.e_InvalidValues (pv 0) (pv 1)), _, rfl, _, rfl, x, rfl, hx, q⟩
theorem sc_InvalidQuestion___init__ : FnScope ["self", "position"] ["self", "position"] (defScope s_InvalidQuestion___init__) := ⟨rfl, rfl, rfl, by decide +kernel, rfl, by decide +kernel, by decide +kernel⟩
theorem ok_InvalidQuestion___init__ (T : Txt K mg a) : FnOk P w K mg base CX0 1 a.f_InvalidQuestion___init__ a.f_InvalidQuestion___init___d ["self", "position"] (L2E.spErr a.c_InvalidQuestion "position") := by
  refine T.F_InvalidQuestion___init__.ok sc_InvalidQuestion___init__ (fun vs H Q E h => ?_) (fun cdv A outer s H vs Q E hr h => ?_)
  · obtain ⟨_, _, rfl, _⟩ := h
    rfl
  obtain ⟨x, v, rfl, hx, q⟩ := h
  exact ⟨_, pss_one (L2E.ps_ostE T.e_InvalidQuestion (pv 0) (pv 1)), _, rfl, _, rfl, x, rfl, hx, q⟩
theorem sc_InvalidCommand___init__ : FnScope ["self", "word"] ["self", "word"] (defScope s_InvalidCommand___init__) := ⟨rfl, rfl, rfl, by decide +kernel, rfl, by decide +kernel, by decide +kernel⟩
theorem ok_InvalidCommand___init__ (T : Txt K mg a) : FnOk P w K mg base CX0 1 a.f_InvalidCommand___init__ a.f_InvalidCommand___init___d ["self", "word"] (L2E.spErr a.c_InvalidCommand "word") := by
  refine T.F_InvalidCommand___init__.ok sc_InvalidCommand___init__ (fun vs H Q E h => ?_) (fun cdv A outer s H vs Q E hr h => ?_)
  · obtain ⟨_, _, rfl, _⟩ := h
    rfl
  obtain ⟨x, v, rfl, hx, q⟩ := h
  exact ⟨_, pss_one (L2E.ps_ostE T.e_InvalidCommand (pv 0) (pv 1)), _, rfl, _, rfl, x, rfl, hx, q⟩
theorem sc_UnknownFunction___init__ : FnScope ["self", "name"] ["self", "name"] (defScope s_UnknownFunction___init__) := ⟨rfl, rfl, rfl, by decide +kernel, rfl, by decide +kernel, by decide +kernel⟩
theorem ok_UnknownFunction___init__ (T : Txt K mg a) : FnOk P w K mg base CX0 1 a.f_UnknownFunction___init__ a.f_UnknownFunction___init___d ["self", "name"] (L2E.spErr a.c_UnknownFunction "name") := by
  refine T.F_UnknownFunction___init__.ok sc_UnknownFunction___init__ (fun vs H Q E h => ?_) (fun cdv A outer s H vs Q E hr h => ?_)
  · obtain ⟨_, _, rfl, _⟩ := h
    rfl
  obtain ⟨x, v, rfl, hx, q⟩ := h
  exact ⟨_, pss_one (L2E.ps_ostE T.e_UnknownFunction (pv 0) (pv 1)), _, rfl, _, rfl, x, rfl, hx, q⟩
theorem sc_LimitExceeded___init__ : FnScope ["self", "word"] ["self", "word"] (defScope s_LimitExceeded___init__) := ⟨rfl, rfl, rfl, by decide +kernel, rfl, by decide +kernel, by decide +kernel⟩
theorem ok_LimitExceeded___init__ (T : Txt K mg a) : FnOk P w K mg base CX0 1 a.f_LimitExceeded___init__ a.f_LimitExceeded___init___d ["self", "word"] (L2E.spErr a.c_LimitExceeded "word") := by
  refine T.F_LimitExceeded___init__.ok sc_LimitExceeded___init__ (fun vs H Q E h => ?_) (fun cdv A outer s H vs Q E hr h => ?_)
  · obtain ⟨_, _, rfl, _⟩ := h
    rfl
  obtain ⟨x, v, rfl, hx, q⟩ := h
  exact ⟨_, pss_one (L2E.ps_ostE T.e_LimitExceeded (pv 0) (pv 1)), _, rfl, _, rfl, x, rfl, hx, q⟩
end
end K12
namespace K12
open PySem PySem.Spec PyProof.Rows L2 TL
theorem nat_of {i : Nat} {k : Int} (e : decide (V.int (i : Int) = V.int k) = true) : (i : Int) = k := V.int.inj (of_decide_eq_true e)
theorem nne_of {i : Nat} {k : Int} (e : ¬ decide (V.int (i : Int) = V.int k) = true) : (i : Int) ≠ k := fun z => e (decide_eq_true (congrArg V.int z))
theorem leaf {a : Ads} {H : Hp} {E : XK} {i k : Nat} {C C' : Addr} {f f' : Str} {v : V} (hC : (cs a)[i]? = some C) (hf : fds[i]? = some f) (q : ∀ d, H d = none → E (.ref C) (some d) (upd H d (.xd [(f, v)]))) (e : i = k) (h1 : (cs a)[k]? = some C') (h2 : fds[k]? = some f') :
    ∀ d, H d = none → E (.ref C') (some d) (upd H d (.xd [(f', v)])) := by
  subst e
  rw [hC] at h1
  rw [hf] at h2
  cases h1
  cases h2
  exact q
section
variable {P : Program} {w : World} {K : PySem.W.Frag} {mg : Str → Option Value} {base : Heap} {CX : CXT} {x qual : Str} {st : Stmt} {f : Addr} {fd : FuncData} {N ps : List Str} {k : Nat} {sp : Sp}
/-- a def that lets out what CX says -/
theorem okY (F : Fun K x qual st f fd) (S : FnScope N ps (defScope st)) (len : ∀ vs H Q E, sp vs H Q E → vs.length = ps.length)
    (hbody : ∀ (cdv : Value) (A : Around) (outer : List Env) (s : Shared) (H : Hp) (vs : List V) (Q : VK) (E : XK), Room k (A.deeper (envOfC qual (defScope st) s.heap.objs.size f cdv)) → sp vs H Q E →
      ∃ t, PSs (cxOf CX P w K mg base N qual (defScope st) f cdv A outer s H E) (defBody st) t ∧ t { nx := fun _ H' => Q .non H', rt := Q } (start N vs) H) : FnOk P w K mg base CX (k + 1) f fd ps sp := by
  obtain ⟨oc, od, kV, doc, pm, an, cdv, ct, osl, rfl, lk, hcd⟩ := F.ex
  exact fn_of lk hcd S len fun A outer s H vs Q E hr hsp => hbody cdv A outer s H vs Q E hr hsp
/-- a def that is called while the exception p is handled -/
theorem okH (F : Fun K x qual st f fd) (S : FnScope N ps (defScope st)) (len : ∀ vs H Q E, sp vs H Q E → vs.length = ps.length)
    (hbody : ∀ (cdv : Value) (A : Around) (outer : List Env) (s : Shared) (H : Hp) (vs : List V) (Q : VK) (E : XK) (p : Addr × Obj), L2H.Hot1 A p → L2H.RoomH k (A.deeper (envOfC qual (defScope st) s.heap.objs.size f cdv)) → sp vs H Q E →
      ∃ t, PSs (L2H.cxH CX P w K mg base N qual (defScope st) f cdv A outer s H E p) (defBody st) t ∧ t { nx := fun _ H' => Q .non H', rt := Q } (start N vs) H) : L2H.FnH P w K mg base CX (k + 1) f fd ps sp := by
  obtain ⟨oc, od, kV, doc, pm, an, cdv, ct, osl, rfl, lk, hcd⟩ := F.ex
  exact L2H.fn_ofH lk hcd S len fun A outer s H vs Q E p hot hr hsp => hbody cdv A outer s H vs Q E p hot hr hsp
end
section
variable {P : Program} {w : World} {K : PySem.W.Frag} {mg : Str → Option Value} {base : Heap} {a : Ads}
theorem sc__law_second : FnScope ["_law_choice", "_law_value"] ["_law_choice", "_law_value"] (defScope s__law_second) := ⟨rfl, rfl, rfl, by decide +kernel, rfl, by decide +kernel, by decide +kernel⟩
theorem ok__law_second (T : Txt K mg a) : FnOk P w K mg base (L2N.CX P w) 3 a.f__law_second a.f__law_second_d ["_law_choice", "_law_value"] (spErrs a 9) := by
  refine okY T.F__law_second sc__law_second (fun vs H Q E h => ?_) (fun cdv A outer s H vs Q E hr h => ?_)
  · obtain ⟨_, _, _, _, _, _, rfl, _⟩ := h
    rfl
  obtain ⟨i, v, C, f, hlo, hi, rfl, hC, hf, q⟩ := h
  refine ⟨_, (pss_cons (ps_if (pt_cmpR op_eq (pv 0) pe_int (nomark _))
      (pss_one (L2N.ps_raise rfl (L2N.takes_of rfl rfl rfl rfl) (L2E.pmk_err T.e_InvalidCase (ok_InvalidCase___init__ T) (hr.mono (by decide)) T.b_InvalidCase___init__ pass0 rfl T.mg_InvalidCase (pa_cons (pv 1) pa_nil))))
      pss_nil)
    (pss_cons (ps_if (pt_cmpR op_eq (pv 0) pe_int (nomark _))
      (pss_one (L2N.ps_raise rfl (L2N.takes_of rfl rfl rfl rfl) (L2E.pmk_err T.e_InvalidEntry (ok_InvalidEntry___init__ T) (hr.mono (by decide)) T.b_InvalidEntry___init__ pass0 rfl T.mg_InvalidEntry (pa_cons (pv 1) pa_nil))))
      pss_nil)
    (pss_cons (ps_if (pt_cmpR op_eq (pv 0) pe_int (nomark _))
      (pss_one (L2N.ps_raise rfl (L2N.takes_of rfl rfl rfl rfl) (L2E.pmk_err T.e_InvalidChoices (ok_InvalidChoices___init__ T) (hr.mono (by decide)) T.b_InvalidChoices___init__ pass0 rfl T.mg_InvalidChoices (pa_cons (pv 1) pa_nil))))
      pss_nil)
    (pss_cons (ps_if (pt_cmpR op_eq (pv 0) pe_int (nomark _))
      (pss_one (L2N.ps_raise rfl (L2N.takes_of rfl rfl rfl rfl) (L2E.pmk_err T.e_InvalidInjection (ok_InvalidInjection___init__ T) (hr.mono (by decide)) T.b_InvalidInjection___init__ pass0 rfl T.mg_InvalidInjection (pa_cons (pv 1) pa_nil))))
      pss_nil)
    (pss_cons (ps_if (pt_cmpR op_eq (pv 0) pe_int (nomark _))
      (pss_one (L2N.ps_raise rfl (L2N.takes_of rfl rfl rfl rfl) (L2E.pmk_err T.e_InvalidOrder (ok_InvalidOrder___init__ T) (hr.mono (by decide)) T.b_InvalidOrder___init__ pass0 rfl T.mg_InvalidOrder (pa_cons (pv 1) pa_nil))))
      pss_nil)
    (pss_cons (ps_if (pt_cmpR op_eq (pv 0) pe_int (nomark _))
      (pss_one (L2N.ps_raise rfl (L2N.takes_of rfl rfl rfl rfl) (L2E.pmk_err T.e_InvalidEvent (ok_InvalidEvent___init__ T) (hr.mono (by decide)) T.b_InvalidEvent___init__ pass0 rfl T.mg_InvalidEvent (pa_cons (pv 1) pa_nil))))
      pss_nil)
    (pss_cons (ps_if (pt_cmpR op_eq (pv 0) pe_int (nomark _))
      (pss_one (L2N.ps_raise rfl (L2N.takes_of rfl rfl rfl rfl) (L2E.pmk_err T.e_InvalidValues (ok_InvalidValues___init__ T) (hr.mono (by decide)) T.b_InvalidValues___init__ pass0 rfl T.mg_InvalidValues (pa_cons (pv 1) pa_nil))))
      pss_nil)
    (pss_cons (ps_if (pt_cmpR op_eq (pv 0) pe_int (nomark _))
      (pss_one (L2N.ps_raise rfl (L2N.takes_of rfl rfl rfl rfl) (L2E.pmk_err T.e_InvalidQuestion (ok_InvalidQuestion___init__ T) (hr.mono (by decide)) T.b_InvalidQuestion___init__ pass0 rfl T.mg_InvalidQuestion (pa_cons (pv 1) pa_nil))))
      pss_nil)
    (pss_cons (ps_if (pt_cmpR op_eq (pv 0) pe_int (nomark _))
      (pss_one (L2N.ps_raise rfl (L2N.takes_of rfl rfl rfl rfl) (L2E.pmk_err T.e_InvalidCommand (ok_InvalidCommand___init__ T) (hr.mono (by decide)) T.b_InvalidCommand___init__ pass0 rfl T.mg_InvalidCommand (pa_cons (pv 1) pa_nil))))
      pss_nil)
    (pss_cons (ps_if (pt_cmpR op_eq (pv 0) pe_int (nomark _))
      (pss_one (L2N.ps_raise rfl (L2N.takes_of rfl rfl rfl rfl) (L2E.pmk_err T.e_UnknownFunction (ok_UnknownFunction___init__ T) (hr.mono (by decide)) T.b_UnknownFunction___init__ pass0 rfl T.mg_UnknownFunction (pa_cons (pv 1) pa_nil))))
      pss_nil)
    (pss_one (L2N.ps_raise rfl (L2N.takes_of rfl rfl rfl rfl) (L2E.pmk_err T.e_LimitExceeded (ok_LimitExceeded___init__ T) (hr.mono (by decide)) T.b_LimitExceeded___init__ pass0 rfl T.mg_LimitExceeded (pa_cons (pv 1) pa_nil)))))))))))))), ?_⟩
  refine ⟨_, rfl, rfl, _, rfl, ite2 (fun e => ⟨_, rfl, _, rfl, leaf (k := 9) hC hf q (Int.ofNat.inj (nat_of e)) rfl rfl⟩) (fun e => ?_)⟩
  have n9 := nne_of e
  refine ⟨_, rfl, rfl, _, rfl, ite2 (fun e => ⟨_, rfl, _, rfl, leaf (k := 10) hC hf q (Int.ofNat.inj (nat_of e)) rfl rfl⟩) (fun e => ?_)⟩
  have n10 := nne_of e
  refine ⟨_, rfl, rfl, _, rfl, ite2 (fun e => ⟨_, rfl, _, rfl, leaf (k := 11) hC hf q (Int.ofNat.inj (nat_of e)) rfl rfl⟩) (fun e => ?_)⟩
  have n11 := nne_of e
  refine ⟨_, rfl, rfl, _, rfl, ite2 (fun e => ⟨_, rfl, _, rfl, leaf (k := 12) hC hf q (Int.ofNat.inj (nat_of e)) rfl rfl⟩) (fun e => ?_)⟩
  have n12 := nne_of e
  refine ⟨_, rfl, rfl, _, rfl, ite2 (fun e => ⟨_, rfl, _, rfl, leaf (k := 13) hC hf q (Int.ofNat.inj (nat_of e)) rfl rfl⟩) (fun e => ?_)⟩
  have n13 := nne_of e
  refine ⟨_, rfl, rfl, _, rfl, ite2 (fun e => ⟨_, rfl, _, rfl, leaf (k := 14) hC hf q (Int.ofNat.inj (nat_of e)) rfl rfl⟩) (fun e => ?_)⟩
  have n14 := nne_of e
  refine ⟨_, rfl, rfl, _, rfl, ite2 (fun e => ⟨_, rfl, _, rfl, leaf (k := 15) hC hf q (Int.ofNat.inj (nat_of e)) rfl rfl⟩) (fun e => ?_)⟩
  have n15 := nne_of e
  refine ⟨_, rfl, rfl, _, rfl, ite2 (fun e => ⟨_, rfl, _, rfl, leaf (k := 16) hC hf q (Int.ofNat.inj (nat_of e)) rfl rfl⟩) (fun e => ?_)⟩
  have n16 := nne_of e
  refine ⟨_, rfl, rfl, _, rfl, ite2 (fun e => ⟨_, rfl, _, rfl, leaf (k := 17) hC hf q (Int.ofNat.inj (nat_of e)) rfl rfl⟩) (fun e => ?_)⟩
  have n17 := nne_of e
  refine ⟨_, rfl, rfl, _, rfl, ite2 (fun e => ⟨_, rfl, _, rfl, leaf (k := 18) hC hf q (Int.ofNat.inj (nat_of e)) rfl rfl⟩) (fun e => ?_)⟩
  have n18 := nne_of e
  exact ⟨_, rfl, _, rfl, leaf (k := 19) hC hf q (by omega) rfl rfl⟩
theorem sc__law_first : FnScope ["_law_choice", "_law_value"] ["_law_choice", "_law_value"] (defScope s__law_first) := ⟨rfl, rfl, rfl, by decide +kernel, rfl, by decide +kernel, by decide +kernel⟩
theorem ok__law_first (T : Txt K mg a) : FnOk P w K mg base (L2N.CX P w) 4 a.f__law_first a.f__law_first_d ["_law_choice", "_law_value"] (spErrs a 0) := by
  refine okY T.F__law_first sc__law_first (fun vs H Q E h => ?_) (fun cdv A outer s H vs Q E hr h => ?_)
  · obtain ⟨_, _, _, _, _, _, rfl, _⟩ := h
    rfl
  obtain ⟨i, v, C, f, hlo, hi, rfl, hC, hf, q⟩ := h
  refine ⟨_, (pss_cons (ps_if (pt_cmpR op_eq (pv 0) pe_int (nomark _))
      (pss_one (L2N.ps_raise rfl (L2N.takes_of rfl rfl rfl rfl) (L2E.pmk_err T.e_InvalidText (ok_InvalidText___init__ T) (hr.mono (by decide)) T.b_InvalidText___init__ pass0 rfl T.mg_InvalidText (pa_cons (pv 1) pa_nil))))
      pss_nil)
    (pss_cons (ps_if (pt_cmpR op_eq (pv 0) pe_int (nomark _))
      (pss_one (L2N.ps_raise rfl (L2N.takes_of rfl rfl rfl rfl) (L2E.pmk_err T.e_InvalidSyntax (ok_InvalidSyntax___init__ T) (hr.mono (by decide)) T.b_InvalidSyntax___init__ pass0 rfl T.mg_InvalidSyntax (pa_cons (pv 1) pa_nil))))
      pss_nil)
    (pss_cons (ps_if (pt_cmpR op_eq (pv 0) pe_int (nomark _))
      (pss_one (L2N.ps_raise rfl (L2N.takes_of rfl rfl rfl rfl) (L2E.pmk_err T.e_InvalidTree (ok_InvalidTree___init__ T) (hr.mono (by decide)) T.b_InvalidTree___init__ pass0 rfl T.mg_InvalidTree (pa_cons (pv 1) pa_nil))))
      pss_nil)
    (pss_cons (ps_if (pt_cmpR op_eq (pv 0) pe_int (nomark _))
      (pss_one (L2N.ps_raise rfl (L2N.takes_of rfl rfl rfl rfl) (L2E.pmk_err T.e_DuplicateName (ok_DuplicateName___init__ T) (hr.mono (by decide)) T.b_DuplicateName___init__ pass0 rfl T.mg_DuplicateName (pa_cons (pv 1) pa_nil))))
      pss_nil)
    (pss_cons (ps_if (pt_cmpR op_eq (pv 0) pe_int (nomark _))
      (pss_one (L2N.ps_raise rfl (L2N.takes_of rfl rfl rfl rfl) (L2E.pmk_err T.e_UnknownName (ok_UnknownName___init__ T) (hr.mono (by decide)) T.b_UnknownName___init__ pass0 rfl T.mg_UnknownName (pa_cons (pv 1) pa_nil))))
      pss_nil)
    (pss_cons (ps_if (pt_cmpR op_eq (pv 0) pe_int (nomark _))
      (pss_one (L2N.ps_raise rfl (L2N.takes_of rfl rfl rfl rfl) (L2E.pmk_err T.e_WrongArguments (ok_WrongArguments___init__ T) (hr.mono (by decide)) T.b_WrongArguments___init__ pass0 rfl T.mg_WrongArguments (pa_cons (pv 1) pa_nil))))
      pss_nil)
    (pss_cons (ps_if (pt_cmpR op_eq (pv 0) pe_int (nomark _))
      (pss_one (L2N.ps_raise rfl (L2N.takes_of rfl rfl rfl rfl) (L2E.pmk_err T.e_InvalidFinally (ok_InvalidFinally___init__ T) (hr.mono (by decide)) T.b_InvalidFinally___init__ pass0 rfl T.mg_InvalidFinally (pa_cons (pv 1) pa_nil))))
      pss_nil)
    (pss_cons (ps_if (pt_cmpR op_eq (pv 0) pe_int (nomark _))
      (pss_one (L2N.ps_raise rfl (L2N.takes_of rfl rfl rfl rfl) (L2E.pmk_err T.e_TooLarge (ok_TooLarge___init__ T) (hr.mono (by decide)) T.b_TooLarge___init__ pass0 rfl T.mg_TooLarge (pa_cons (pv 1) pa_nil))))
      pss_nil)
    (pss_cons (ps_if (pt_cmpR op_eq (pv 0) pe_int (nomark _))
      (pss_one (L2N.ps_raise rfl (L2N.takes_of rfl rfl rfl rfl) (L2E.pmk_err T.e_InvalidRow (ok_InvalidRow___init__ T) (hr.mono (by decide)) T.b_InvalidRow___init__ pass0 rfl T.mg_InvalidRow (pa_cons (pv 1) pa_nil))))
      pss_nil)
    (pss_one (ps_ret (pe_callS (E := WE (fun cls d _ H => E cls d H)) (ok__law_second T) (hr.mono (by decide)) (by rfl) T.g__law_second T.F__law_second.kp T.b__law_second (fun σ => L2N.passAt (L2N.takes_of rfl rfl rfl rfl) σ) (pa_cons (pv 0) (pa_cons (pv 1) pa_nil)))))))))))))), ?_⟩
  refine ⟨_, rfl, rfl, _, rfl, ite2 (fun e => ⟨_, rfl, _, rfl, leaf (k := 0) hC hf q (Int.ofNat.inj (nat_of e)) rfl rfl⟩) (fun e => ?_)⟩
  have n0 := nne_of e
  refine ⟨_, rfl, rfl, _, rfl, ite2 (fun e => ⟨_, rfl, _, rfl, leaf (k := 1) hC hf q (Int.ofNat.inj (nat_of e)) rfl rfl⟩) (fun e => ?_)⟩
  have n1 := nne_of e
  refine ⟨_, rfl, rfl, _, rfl, ite2 (fun e => ⟨_, rfl, _, rfl, leaf (k := 2) hC hf q (Int.ofNat.inj (nat_of e)) rfl rfl⟩) (fun e => ?_)⟩
  have n2 := nne_of e
  refine ⟨_, rfl, rfl, _, rfl, ite2 (fun e => ⟨_, rfl, _, rfl, leaf (k := 3) hC hf q (Int.ofNat.inj (nat_of e)) rfl rfl⟩) (fun e => ?_)⟩
  have n3 := nne_of e
  refine ⟨_, rfl, rfl, _, rfl, ite2 (fun e => ⟨_, rfl, _, rfl, leaf (k := 4) hC hf q (Int.ofNat.inj (nat_of e)) rfl rfl⟩) (fun e => ?_)⟩
  have n4 := nne_of e
  refine ⟨_, rfl, rfl, _, rfl, ite2 (fun e => ⟨_, rfl, _, rfl, leaf (k := 5) hC hf q (Int.ofNat.inj (nat_of e)) rfl rfl⟩) (fun e => ?_)⟩
  have n5 := nne_of e
  refine ⟨_, rfl, rfl, _, rfl, ite2 (fun e => ⟨_, rfl, _, rfl, leaf (k := 6) hC hf q (Int.ofNat.inj (nat_of e)) rfl rfl⟩) (fun e => ?_)⟩
  have n6 := nne_of e
  refine ⟨_, rfl, rfl, _, rfl, ite2 (fun e => ⟨_, rfl, _, rfl, leaf (k := 7) hC hf q (Int.ofNat.inj (nat_of e)) rfl rfl⟩) (fun e => ?_)⟩
  have n7 := nne_of e
  refine ⟨_, rfl, rfl, _, rfl, ite2 (fun e => ⟨_, rfl, _, rfl, leaf (k := 8) hC hf q (Int.ofNat.inj (nat_of e)) rfl rfl⟩) (fun e => ?_)⟩
  have n8 := nne_of e
  exact ⟨_, rfl, _, rfl, i, v, C, f, by omega, hi, rfl, hC, hf, q⟩
end
end K12
namespace K12
open PySem PySem.Spec PyProof.Rows L2 TL
/-- the bases of the i-th class -/
def bmOf (a : Ads) (i : Nat) : List Value := if i < 18 then .ref a.c_ProgramError :: PySem.HandSPX.veTail else if i = 18 then PySem.ErrB.tKey else PySem.ErrB.tRun
section
variable {K : PySem.W.Frag} {mg : Str → Option Value} {a : Ads}
theorem err_at (T : Txt K mg a) : ∀ {i : Nat} {C : Addr}, (cs a)[i]? = some C → (∃ fI f, fds[i]? = some f ∧ L2E.ErrC K C fI f) ∧ ∀ x : Value, PySem.W.subIn K (.ref C) x = some ((Value.ref C :: bmOf a i).contains x)
  | 0, _, h => by cases h; exact ⟨⟨_, _, rfl, T.e_InvalidText⟩, T.s_InvalidText⟩
  | 1, _, h => by cases h; exact ⟨⟨_, _, rfl, T.e_InvalidSyntax⟩, T.s_InvalidSyntax⟩
  | 2, _, h => by cases h; exact ⟨⟨_, _, rfl, T.e_InvalidTree⟩, T.s_InvalidTree⟩
  | 3, _, h => by cases h; exact ⟨⟨_, _, rfl, T.e_DuplicateName⟩, T.s_DuplicateName⟩
  | 4, _, h => by cases h; exact ⟨⟨_, _, rfl, T.e_UnknownName⟩, T.s_UnknownName⟩
  | 5, _, h => by cases h; exact ⟨⟨_, _, rfl, T.e_WrongArguments⟩, T.s_WrongArguments⟩
  | 6, _, h => by cases h; exact ⟨⟨_, _, rfl, T.e_InvalidFinally⟩, T.s_InvalidFinally⟩
  | 7, _, h => by cases h; exact ⟨⟨_, _, rfl, T.e_TooLarge⟩, T.s_TooLarge⟩
  | 8, _, h => by cases h; exact ⟨⟨_, _, rfl, T.e_InvalidRow⟩, T.s_InvalidRow⟩
  | 9, _, h => by cases h; exact ⟨⟨_, _, rfl, T.e_InvalidCase⟩, T.s_InvalidCase⟩
  | 10, _, h => by cases h; exact ⟨⟨_, _, rfl, T.e_InvalidEntry⟩, T.s_InvalidEntry⟩
  | 11, _, h => by cases h; exact ⟨⟨_, _, rfl, T.e_InvalidChoices⟩, T.s_InvalidChoices⟩
  | 12, _, h => by cases h; exact ⟨⟨_, _, rfl, T.e_InvalidInjection⟩, T.s_InvalidInjection⟩
  | 13, _, h => by cases h; exact ⟨⟨_, _, rfl, T.e_InvalidOrder⟩, T.s_InvalidOrder⟩
  | 14, _, h => by cases h; exact ⟨⟨_, _, rfl, T.e_InvalidEvent⟩, T.s_InvalidEvent⟩
  | 15, _, h => by cases h; exact ⟨⟨_, _, rfl, T.e_InvalidValues⟩, T.s_InvalidValues⟩
  | 16, _, h => by cases h; exact ⟨⟨_, _, rfl, T.e_InvalidQuestion⟩, T.s_InvalidQuestion⟩
  | 17, _, h => by cases h; exact ⟨⟨_, _, rfl, T.e_InvalidCommand⟩, T.s_InvalidCommand⟩
  | 18, _, h => by cases h; exact ⟨⟨_, _, rfl, T.e_UnknownFunction⟩, T.s_UnknownFunction⟩
  | 19, _, h => by cases h; exact ⟨⟨_, _, rfl, T.e_LimitExceeded⟩, T.s_LimitExceeded⟩
  | n + 20, _, h => by
    have z : (cs a)[n + 20]? = none := List.getElem?_eq_none (by show 20 ≤ n + 20; omega)
    rw [z] at h
    cases h
theorem inj_at (T : Txt K mg a) {i j : Nat} {C D : Addr} (hC : (cs a)[i]? = some C) (hD : (cs a)[j]? = some D) : (C = D → i = j) ∧ D ≠ a.c_ProgramError := by
  have nd : (cs a ++ [a.c_ProgramError]).Nodup := T.nd
  have hi : i < (cs a).length := (List.getElem?_eq_some_iff.mp hC).1
  have hj : j < (cs a).length := (List.getElem?_eq_some_iff.mp hD).1
  have e1 : (cs a ++ [a.c_ProgramError])[i]? = some C := by rw [List.getElem?_append_left hi]; exact hC
  have e2 : (cs a ++ [a.c_ProgramError])[j]? = some D := by rw [List.getElem?_append_left hj]; exact hD
  have e3 : (cs a ++ [a.c_ProgramError])[(cs a).length]? = some a.c_ProgramError := by rw [List.getElem?_append_right (Nat.le_refl _), Nat.sub_self]; rfl
  refine ⟨fun e => ?_, fun e => ?_⟩
  · exact (List.getElem?_inj (i := i) (j := j) (by rw [List.length_append]; exact Nat.lt_of_lt_of_le hi (Nat.le_add_right _ _)) nd).mp (by rw [e1, e2, e])
  · have := (List.getElem?_inj (i := j) (j := (cs a).length) (by rw [List.length_append]; exact Nat.lt_of_lt_of_le hj (Nat.le_add_right _ _)) nd).mp (e2.trans ((congrArg some e).trans e3.symm))
    exact Nat.lt_irrefl _ (this ▸ hj)
theorem refs_tail (a : Ads) (i : Nat) (D : Addr) : (bmOf a i).contains (.ref D) = (decide (i < 18) && (Value.ref D == Value.ref a.c_ProgramError)) := by
  unfold bmOf
  by_cases h : i < 18
  · rw [if_pos h, List.contains_cons, decide_eq_true h, Bool.true_and]
    show ((Value.ref D == Value.ref a.c_ProgramError) || false) = _
    rw [Bool.or_false]
  · rw [if_neg h, decide_eq_false h, Bool.false_and]
    by_cases h2 : i = 18
    · rw [if_pos h2]
      rfl
    · rw [if_neg h2]
      rfl
theorem ref_beq {C D : Addr} : (Value.ref D == Value.ref C) = decide (D = C) := by
  by_cases h : D = C
  · rw [h, decide_eq_true rfl]
    exact beq_self_eq_true _
  · rw [decide_eq_false h]
    exact Bool.eq_false_iff.mpr fun z => h (Value.ref.inj (beq_iff_eq.mp z))
/-- the i-th class below the j-th: only itself -/
theorem sub_at (T : Txt K mg a) {i j : Nat} {C D : Addr} (hC : (cs a)[i]? = some C) (hD : (cs a)[j]? = some D) : PySem.W.subIn K (.ref C) (.ref D) = some (decide (j = i)) := by
  obtain ⟨h1, h2⟩ := inj_at T hC hD
  rw [(err_at T hC).2, List.contains_cons, refs_tail, ref_beq, ref_beq, decide_eq_false h2, Bool.and_false, Bool.or_false]
  congr 1
  by_cases e : j = i
  · subst e
    rw [hC] at hD
    cases hD
    rw [decide_eq_true rfl, decide_eq_true rfl]
  · rw [decide_eq_false e, decide_eq_false fun z => e (h1 z.symm).symm]
theorem sub_pe (T : Txt K mg a) {i : Nat} {C : Addr} (hC : (cs a)[i]? = some C) : PySem.W.subIn K (.ref C) (.ref a.c_ProgramError) = some (decide (i < 18)) := by
  obtain ⟨_, h2⟩ := inj_at T hC hC
  rw [(err_at T hC).2, List.contains_cons, refs_tail, ref_beq, ref_beq, decide_eq_false h2.symm, decide_eq_true rfl, Bool.and_true, Bool.false_or]
theorem kit_at (T : Txt K mg a) {i j : Nat} {C D : Addr} (hC : (cs a)[i]? = some C) (hD : (cs a)[j]? = some D) : PySem.W.kitOne K (.ref C) (.ref D) = some (decide (j = i)) := by
  obtain ⟨⟨fI, f, _, T1⟩, _⟩ := err_at T hD
  refine T1.clsP.one (sub_at T hC hD) fun e => ?_
  cases e
  exact decide_eq_true ((inj_at T hD hC).1 rfl)
end
def kdL (i : Nat) : List V := (List.range 20).map fun j => V.bl (decide (j = i))
def spKinds (a : Ads) (p : Addr × Obj) : Sp := fun vs H Q _ => ∃ (i : Nat) (C dd : Addr) (fs : List (Str × V)), vs = [.ref p.1] ∧ (cs a)[i]? = some C ∧ Zc (.ref C) (some dd) p.2 ∧ (∃ ws, p.2.data = .fields ws) ∧ H dd = some (.xd fs) ∧
  ∀ H' l, Same H H' → H l = none → H' l = some (.lst (kdL i)) → Q (.ref l) H'
section
variable {P : Program} {w : World} {K : PySem.W.Frag} {mg : Str → Option Value} {base : Heap} {a : Ads}
theorem sc__law_kinds : FnScope ["_law_e", "_law_found"] ["_law_e"] (defScope s__law_kinds) := ⟨rfl, rfl, rfl, by decide +kernel, rfl, by decide +kernel, by decide +kernel⟩
theorem ok__law_kinds (T : Txt K mg a) : L2E.FnHp P w K mg base CX0 1 a.f__law_kinds a.f__law_kinds_d ["_law_e"] (spKinds a) := by
  obtain ⟨oc, od, kV, doc, pm, an, cdv, ct, osl, efd, lk, hcd⟩ := T.F__law_kinds.ex
  rw [efd] at lk ⊢
  refine L2E.fn_ofHp lk hcd sc__law_kinds (fun p vs H Q E h => ?_) (fun A outer s H vs Q E p hot hr h => ?_)
  · obtain ⟨_, _, _, _, rfl, _⟩ := h
    rfl
  obtain ⟨i, C, dd, fs, rfl, hC, hz, hf, hdd, q⟩ := h
  obtain ⟨⟨fI, fx, _, TE⟩, _⟩ := err_at T hC
  refine ⟨_, (pss_cons (ps_set (i := 1) sc__law_kinds.nd rfl (Or.inl rfl) (pe_lst (pa_cons (pe_callB (L2E.call_isX TE T.rd (List.mem_cons_self ..) hz hf) (by rfl) T.isinstance (by decide +kernel) (pa_cons (pv 0) (pa_cons (pe_glob (v := .ref a.c_InvalidText) rfl T.mg_InvalidText rfl) pa_nil))) (pa_cons (pe_callB (L2E.call_isX TE T.rd (List.mem_cons_self ..) hz hf) (by rfl) T.isinstance (by decide +kernel) (pa_cons (pv 0) (pa_cons (pe_glob (v := .ref a.c_InvalidSyntax) rfl T.mg_InvalidSyntax rfl) pa_nil))) (pa_cons (pe_callB (L2E.call_isX TE T.rd (List.mem_cons_self ..) hz hf) (by rfl) T.isinstance (by decide +kernel) (pa_cons (pv 0) (pa_cons (pe_glob (v := .ref a.c_InvalidTree) rfl T.mg_InvalidTree rfl) pa_nil))) pa_nil)))))
    (pss_cons (ps_set (i := 1) sc__law_kinds.nd rfl (Or.inl rfl) (pe_op op_cat (pv 1) (pe_lst (pa_cons (pe_callB (L2E.call_isX TE T.rd (List.mem_cons_self ..) hz hf) (by rfl) T.isinstance (by decide +kernel) (pa_cons (pv 0) (pa_cons (pe_glob (v := .ref a.c_DuplicateName) rfl T.mg_DuplicateName rfl) pa_nil))) (pa_cons (pe_callB (L2E.call_isX TE T.rd (List.mem_cons_self ..) hz hf) (by rfl) T.isinstance (by decide +kernel) (pa_cons (pv 0) (pa_cons (pe_glob (v := .ref a.c_UnknownName) rfl T.mg_UnknownName rfl) pa_nil))) (pa_cons (pe_callB (L2E.call_isX TE T.rd (List.mem_cons_self ..) hz hf) (by rfl) T.isinstance (by decide +kernel) (pa_cons (pv 0) (pa_cons (pe_glob (v := .ref a.c_WrongArguments) rfl T.mg_WrongArguments rfl) pa_nil))) pa_nil))))))
    (pss_cons (ps_set (i := 1) sc__law_kinds.nd rfl (Or.inl rfl) (pe_op op_cat (pv 1) (pe_lst (pa_cons (pe_callB (L2E.call_isX TE T.rd (List.mem_cons_self ..) hz hf) (by rfl) T.isinstance (by decide +kernel) (pa_cons (pv 0) (pa_cons (pe_glob (v := .ref a.c_InvalidFinally) rfl T.mg_InvalidFinally rfl) pa_nil))) (pa_cons (pe_callB (L2E.call_isX TE T.rd (List.mem_cons_self ..) hz hf) (by rfl) T.isinstance (by decide +kernel) (pa_cons (pv 0) (pa_cons (pe_glob (v := .ref a.c_TooLarge) rfl T.mg_TooLarge rfl) pa_nil))) (pa_cons (pe_callB (L2E.call_isX TE T.rd (List.mem_cons_self ..) hz hf) (by rfl) T.isinstance (by decide +kernel) (pa_cons (pv 0) (pa_cons (pe_glob (v := .ref a.c_InvalidRow) rfl T.mg_InvalidRow rfl) pa_nil))) pa_nil))))))
    (pss_cons (ps_set (i := 1) sc__law_kinds.nd rfl (Or.inl rfl) (pe_op op_cat (pv 1) (pe_lst (pa_cons (pe_callB (L2E.call_isX TE T.rd (List.mem_cons_self ..) hz hf) (by rfl) T.isinstance (by decide +kernel) (pa_cons (pv 0) (pa_cons (pe_glob (v := .ref a.c_InvalidCase) rfl T.mg_InvalidCase rfl) pa_nil))) (pa_cons (pe_callB (L2E.call_isX TE T.rd (List.mem_cons_self ..) hz hf) (by rfl) T.isinstance (by decide +kernel) (pa_cons (pv 0) (pa_cons (pe_glob (v := .ref a.c_InvalidEntry) rfl T.mg_InvalidEntry rfl) pa_nil))) (pa_cons (pe_callB (L2E.call_isX TE T.rd (List.mem_cons_self ..) hz hf) (by rfl) T.isinstance (by decide +kernel) (pa_cons (pv 0) (pa_cons (pe_glob (v := .ref a.c_InvalidChoices) rfl T.mg_InvalidChoices rfl) pa_nil))) pa_nil))))))
    (pss_cons (ps_set (i := 1) sc__law_kinds.nd rfl (Or.inl rfl) (pe_op op_cat (pv 1) (pe_lst (pa_cons (pe_callB (L2E.call_isX TE T.rd (List.mem_cons_self ..) hz hf) (by rfl) T.isinstance (by decide +kernel) (pa_cons (pv 0) (pa_cons (pe_glob (v := .ref a.c_InvalidInjection) rfl T.mg_InvalidInjection rfl) pa_nil))) (pa_cons (pe_callB (L2E.call_isX TE T.rd (List.mem_cons_self ..) hz hf) (by rfl) T.isinstance (by decide +kernel) (pa_cons (pv 0) (pa_cons (pe_glob (v := .ref a.c_InvalidOrder) rfl T.mg_InvalidOrder rfl) pa_nil))) (pa_cons (pe_callB (L2E.call_isX TE T.rd (List.mem_cons_self ..) hz hf) (by rfl) T.isinstance (by decide +kernel) (pa_cons (pv 0) (pa_cons (pe_glob (v := .ref a.c_InvalidEvent) rfl T.mg_InvalidEvent rfl) pa_nil))) pa_nil))))))
    (pss_cons (ps_set (i := 1) sc__law_kinds.nd rfl (Or.inl rfl) (pe_op op_cat (pv 1) (pe_lst (pa_cons (pe_callB (L2E.call_isX TE T.rd (List.mem_cons_self ..) hz hf) (by rfl) T.isinstance (by decide +kernel) (pa_cons (pv 0) (pa_cons (pe_glob (v := .ref a.c_InvalidValues) rfl T.mg_InvalidValues rfl) pa_nil))) (pa_cons (pe_callB (L2E.call_isX TE T.rd (List.mem_cons_self ..) hz hf) (by rfl) T.isinstance (by decide +kernel) (pa_cons (pv 0) (pa_cons (pe_glob (v := .ref a.c_InvalidQuestion) rfl T.mg_InvalidQuestion rfl) pa_nil))) (pa_cons (pe_callB (L2E.call_isX TE T.rd (List.mem_cons_self ..) hz hf) (by rfl) T.isinstance (by decide +kernel) (pa_cons (pv 0) (pa_cons (pe_glob (v := .ref a.c_InvalidCommand) rfl T.mg_InvalidCommand rfl) pa_nil))) pa_nil))))))
    (pss_one (ps_ret (pe_op op_cat (pv 1) (pe_lst (pa_cons (pe_callB (L2E.call_isX TE T.rd (List.mem_cons_self ..) hz hf) (by rfl) T.isinstance (by decide +kernel) (pa_cons (pv 0) (pa_cons (pe_glob (v := .ref a.c_UnknownFunction) rfl T.mg_UnknownFunction rfl) pa_nil))) (pa_cons (pe_callB (L2E.call_isX TE T.rd (List.mem_cons_self ..) hz hf) (by rfl) T.isinstance (by decide +kernel) (pa_cons (pv 0) (pa_cons (pe_glob (v := .ref a.c_LimitExceeded) rfl T.mg_LimitExceeded rfl) pa_nil))) pa_nil)))))))))))), ?_⟩
  have hd := hdd
  have s0 : Same H H := fun _ _ e => e
  refine ⟨_, rfl, _, _, _, fs, rfl, fun u r => r, kit_at T hC (j := 0) rfl, hd, _, rfl, _, _, _, fs, rfl, fun u r => r, kit_at T hC (j := 1) rfl, hd, _, rfl, _, _, _, fs, rfl, fun u r => r, kit_at T hC (j := 2) rfl, hd, (by show 3 ≤ sizeLine; decide), fun l nl => ?_⟩
  have hl : (upd H l (.lst [V.bl (decide (0 = i)), V.bl (decide (1 = i)), V.bl (decide (2 = i))])) l = some (.lst [V.bl (decide (0 = i)), V.bl (decide (1 = i)), V.bl (decide (2 = i))]) := upd_same
  replace s0 := s0.trans (same_upd (o := .lst [V.bl (decide (0 = i)), V.bl (decide (1 = i)), V.bl (decide (2 = i))]) nl)
  replace hd := (same_upd (o := .lst [V.bl (decide (0 = i)), V.bl (decide (1 = i)), V.bl (decide (2 = i))]) nl) _ _ hd
  show tSeq _ _ _ _ (upd H l (.lst [V.bl (decide (0 = i)), V.bl (decide (1 = i)), V.bl (decide (2 = i))]))
  generalize (upd H l (.lst [V.bl (decide (0 = i)), V.bl (decide (1 = i)), V.bl (decide (2 = i))])) = H0 at s0 hd hl ⊢
  refine ⟨_, rfl, _, rfl, _, _, _, fs, rfl, fun u r => r, kit_at T hC (j := 3) rfl, hd, _, rfl, _, _, _, fs, rfl, fun u r => r, kit_at T hC (j := 4) rfl, hd, _, rfl, _, _, _, fs, rfl, fun u r => r, kit_at T hC (j := 5) rfl, hd, (by show 3 ≤ sizeLine; decide), fun m nm => ⟨l, m, _, _, rfl, rfl, (same_upd nm) _ _ hl, upd_same, (by show 3 + 3 ≤ sizeLine; decide), fun n nn => ?_⟩⟩
  have s1 : Same H (upd (upd H0 m (.lst [V.bl (decide (3 = i)), V.bl (decide (4 = i)), V.bl (decide (5 = i))])) n (.lst [V.bl (decide (0 = i)), V.bl (decide (1 = i)), V.bl (decide (2 = i)), V.bl (decide (3 = i)), V.bl (decide (4 = i)), V.bl (decide (5 = i))])) := s0.trans ((same_upd nm).trans (same_upd nn))
  have hl : (upd (upd H0 m (.lst [V.bl (decide (3 = i)), V.bl (decide (4 = i)), V.bl (decide (5 = i))])) n (.lst [V.bl (decide (0 = i)), V.bl (decide (1 = i)), V.bl (decide (2 = i)), V.bl (decide (3 = i)), V.bl (decide (4 = i)), V.bl (decide (5 = i))])) n = some (.lst [V.bl (decide (0 = i)), V.bl (decide (1 = i)), V.bl (decide (2 = i)), V.bl (decide (3 = i)), V.bl (decide (4 = i)), V.bl (decide (5 = i))]) := upd_same
  replace hd := (same_upd (o := .lst [V.bl (decide (0 = i)), V.bl (decide (1 = i)), V.bl (decide (2 = i)), V.bl (decide (3 = i)), V.bl (decide (4 = i)), V.bl (decide (5 = i))]) nn) _ _ ((same_upd (o := .lst [V.bl (decide (3 = i)), V.bl (decide (4 = i)), V.bl (decide (5 = i))]) nm) _ _ hd)
  show tSeq _ _ _ _ (upd (upd H0 m (.lst [V.bl (decide (3 = i)), V.bl (decide (4 = i)), V.bl (decide (5 = i))])) n (.lst [V.bl (decide (0 = i)), V.bl (decide (1 = i)), V.bl (decide (2 = i)), V.bl (decide (3 = i)), V.bl (decide (4 = i)), V.bl (decide (5 = i))]))
  generalize (upd (upd H0 m (.lst [V.bl (decide (3 = i)), V.bl (decide (4 = i)), V.bl (decide (5 = i))])) n (.lst [V.bl (decide (0 = i)), V.bl (decide (1 = i)), V.bl (decide (2 = i)), V.bl (decide (3 = i)), V.bl (decide (4 = i)), V.bl (decide (5 = i))])) = H1 at s1 hd hl ⊢
  refine ⟨_, rfl, _, rfl, _, _, _, fs, rfl, fun u r => r, kit_at T hC (j := 6) rfl, hd, _, rfl, _, _, _, fs, rfl, fun u r => r, kit_at T hC (j := 7) rfl, hd, _, rfl, _, _, _, fs, rfl, fun u r => r, kit_at T hC (j := 8) rfl, hd, (by show 3 ≤ sizeLine; decide), fun m nm => ⟨n, m, _, _, rfl, rfl, (same_upd nm) _ _ hl, upd_same, (by show 6 + 3 ≤ sizeLine; decide), fun n nn => ?_⟩⟩
  have s2 : Same H (upd (upd H1 m (.lst [V.bl (decide (6 = i)), V.bl (decide (7 = i)), V.bl (decide (8 = i))])) n (.lst [V.bl (decide (0 = i)), V.bl (decide (1 = i)), V.bl (decide (2 = i)), V.bl (decide (3 = i)), V.bl (decide (4 = i)), V.bl (decide (5 = i)), V.bl (decide (6 = i)), V.bl (decide (7 = i)), V.bl (decide (8 = i))])) := s1.trans ((same_upd nm).trans (same_upd nn))
  have hl : (upd (upd H1 m (.lst [V.bl (decide (6 = i)), V.bl (decide (7 = i)), V.bl (decide (8 = i))])) n (.lst [V.bl (decide (0 = i)), V.bl (decide (1 = i)), V.bl (decide (2 = i)), V.bl (decide (3 = i)), V.bl (decide (4 = i)), V.bl (decide (5 = i)), V.bl (decide (6 = i)), V.bl (decide (7 = i)), V.bl (decide (8 = i))])) n = some (.lst [V.bl (decide (0 = i)), V.bl (decide (1 = i)), V.bl (decide (2 = i)), V.bl (decide (3 = i)), V.bl (decide (4 = i)), V.bl (decide (5 = i)), V.bl (decide (6 = i)), V.bl (decide (7 = i)), V.bl (decide (8 = i))]) := upd_same
  replace hd := (same_upd (o := .lst [V.bl (decide (0 = i)), V.bl (decide (1 = i)), V.bl (decide (2 = i)), V.bl (decide (3 = i)), V.bl (decide (4 = i)), V.bl (decide (5 = i)), V.bl (decide (6 = i)), V.bl (decide (7 = i)), V.bl (decide (8 = i))]) nn) _ _ ((same_upd (o := .lst [V.bl (decide (6 = i)), V.bl (decide (7 = i)), V.bl (decide (8 = i))]) nm) _ _ hd)
  show tSeq _ _ _ _ (upd (upd H1 m (.lst [V.bl (decide (6 = i)), V.bl (decide (7 = i)), V.bl (decide (8 = i))])) n (.lst [V.bl (decide (0 = i)), V.bl (decide (1 = i)), V.bl (decide (2 = i)), V.bl (decide (3 = i)), V.bl (decide (4 = i)), V.bl (decide (5 = i)), V.bl (decide (6 = i)), V.bl (decide (7 = i)), V.bl (decide (8 = i))]))
  generalize (upd (upd H1 m (.lst [V.bl (decide (6 = i)), V.bl (decide (7 = i)), V.bl (decide (8 = i))])) n (.lst [V.bl (decide (0 = i)), V.bl (decide (1 = i)), V.bl (decide (2 = i)), V.bl (decide (3 = i)), V.bl (decide (4 = i)), V.bl (decide (5 = i)), V.bl (decide (6 = i)), V.bl (decide (7 = i)), V.bl (decide (8 = i))])) = H2 at s2 hd hl ⊢
  refine ⟨_, rfl, _, rfl, _, _, _, fs, rfl, fun u r => r, kit_at T hC (j := 9) rfl, hd, _, rfl, _, _, _, fs, rfl, fun u r => r, kit_at T hC (j := 10) rfl, hd, _, rfl, _, _, _, fs, rfl, fun u r => r, kit_at T hC (j := 11) rfl, hd, (by show 3 ≤ sizeLine; decide), fun m nm => ⟨n, m, _, _, rfl, rfl, (same_upd nm) _ _ hl, upd_same, (by show 9 + 3 ≤ sizeLine; decide), fun n nn => ?_⟩⟩
  have s3 : Same H (upd (upd H2 m (.lst [V.bl (decide (9 = i)), V.bl (decide (10 = i)), V.bl (decide (11 = i))])) n (.lst [V.bl (decide (0 = i)), V.bl (decide (1 = i)), V.bl (decide (2 = i)), V.bl (decide (3 = i)), V.bl (decide (4 = i)), V.bl (decide (5 = i)), V.bl (decide (6 = i)), V.bl (decide (7 = i)), V.bl (decide (8 = i)), V.bl (decide (9 = i)), V.bl (decide (10 = i)), V.bl (decide (11 = i))])) := s2.trans ((same_upd nm).trans (same_upd nn))
  have hl : (upd (upd H2 m (.lst [V.bl (decide (9 = i)), V.bl (decide (10 = i)), V.bl (decide (11 = i))])) n (.lst [V.bl (decide (0 = i)), V.bl (decide (1 = i)), V.bl (decide (2 = i)), V.bl (decide (3 = i)), V.bl (decide (4 = i)), V.bl (decide (5 = i)), V.bl (decide (6 = i)), V.bl (decide (7 = i)), V.bl (decide (8 = i)), V.bl (decide (9 = i)), V.bl (decide (10 = i)), V.bl (decide (11 = i))])) n = some (.lst [V.bl (decide (0 = i)), V.bl (decide (1 = i)), V.bl (decide (2 = i)), V.bl (decide (3 = i)), V.bl (decide (4 = i)), V.bl (decide (5 = i)), V.bl (decide (6 = i)), V.bl (decide (7 = i)), V.bl (decide (8 = i)), V.bl (decide (9 = i)), V.bl (decide (10 = i)), V.bl (decide (11 = i))]) := upd_same
  replace hd := (same_upd (o := .lst [V.bl (decide (0 = i)), V.bl (decide (1 = i)), V.bl (decide (2 = i)), V.bl (decide (3 = i)), V.bl (decide (4 = i)), V.bl (decide (5 = i)), V.bl (decide (6 = i)), V.bl (decide (7 = i)), V.bl (decide (8 = i)), V.bl (decide (9 = i)), V.bl (decide (10 = i)), V.bl (decide (11 = i))]) nn) _ _ ((same_upd (o := .lst [V.bl (decide (9 = i)), V.bl (decide (10 = i)), V.bl (decide (11 = i))]) nm) _ _ hd)
  show tSeq _ _ _ _ (upd (upd H2 m (.lst [V.bl (decide (9 = i)), V.bl (decide (10 = i)), V.bl (decide (11 = i))])) n (.lst [V.bl (decide (0 = i)), V.bl (decide (1 = i)), V.bl (decide (2 = i)), V.bl (decide (3 = i)), V.bl (decide (4 = i)), V.bl (decide (5 = i)), V.bl (decide (6 = i)), V.bl (decide (7 = i)), V.bl (decide (8 = i)), V.bl (decide (9 = i)), V.bl (decide (10 = i)), V.bl (decide (11 = i))]))
  generalize (upd (upd H2 m (.lst [V.bl (decide (9 = i)), V.bl (decide (10 = i)), V.bl (decide (11 = i))])) n (.lst [V.bl (decide (0 = i)), V.bl (decide (1 = i)), V.bl (decide (2 = i)), V.bl (decide (3 = i)), V.bl (decide (4 = i)), V.bl (decide (5 = i)), V.bl (decide (6 = i)), V.bl (decide (7 = i)), V.bl (decide (8 = i)), V.bl (decide (9 = i)), V.bl (decide (10 = i)), V.bl (decide (11 = i))])) = H3 at s3 hd hl ⊢
  refine ⟨_, rfl, _, rfl, _, _, _, fs, rfl, fun u r => r, kit_at T hC (j := 12) rfl, hd, _, rfl, _, _, _, fs, rfl, fun u r => r, kit_at T hC (j := 13) rfl, hd, _, rfl, _, _, _, fs, rfl, fun u r => r, kit_at T hC (j := 14) rfl, hd, (by show 3 ≤ sizeLine; decide), fun m nm => ⟨n, m, _, _, rfl, rfl, (same_upd nm) _ _ hl, upd_same, (by show 12 + 3 ≤ sizeLine; decide), fun n nn => ?_⟩⟩
  have s4 : Same H (upd (upd H3 m (.lst [V.bl (decide (12 = i)), V.bl (decide (13 = i)), V.bl (decide (14 = i))])) n (.lst [V.bl (decide (0 = i)), V.bl (decide (1 = i)), V.bl (decide (2 = i)), V.bl (decide (3 = i)), V.bl (decide (4 = i)), V.bl (decide (5 = i)), V.bl (decide (6 = i)), V.bl (decide (7 = i)), V.bl (decide (8 = i)), V.bl (decide (9 = i)), V.bl (decide (10 = i)), V.bl (decide (11 = i)), V.bl (decide (12 = i)), V.bl (decide (13 = i)), V.bl (decide (14 = i))])) := s3.trans ((same_upd nm).trans (same_upd nn))
  have hl : (upd (upd H3 m (.lst [V.bl (decide (12 = i)), V.bl (decide (13 = i)), V.bl (decide (14 = i))])) n (.lst [V.bl (decide (0 = i)), V.bl (decide (1 = i)), V.bl (decide (2 = i)), V.bl (decide (3 = i)), V.bl (decide (4 = i)), V.bl (decide (5 = i)), V.bl (decide (6 = i)), V.bl (decide (7 = i)), V.bl (decide (8 = i)), V.bl (decide (9 = i)), V.bl (decide (10 = i)), V.bl (decide (11 = i)), V.bl (decide (12 = i)), V.bl (decide (13 = i)), V.bl (decide (14 = i))])) n = some (.lst [V.bl (decide (0 = i)), V.bl (decide (1 = i)), V.bl (decide (2 = i)), V.bl (decide (3 = i)), V.bl (decide (4 = i)), V.bl (decide (5 = i)), V.bl (decide (6 = i)), V.bl (decide (7 = i)), V.bl (decide (8 = i)), V.bl (decide (9 = i)), V.bl (decide (10 = i)), V.bl (decide (11 = i)), V.bl (decide (12 = i)), V.bl (decide (13 = i)), V.bl (decide (14 = i))]) := upd_same
  replace hd := (same_upd (o := .lst [V.bl (decide (0 = i)), V.bl (decide (1 = i)), V.bl (decide (2 = i)), V.bl (decide (3 = i)), V.bl (decide (4 = i)), V.bl (decide (5 = i)), V.bl (decide (6 = i)), V.bl (decide (7 = i)), V.bl (decide (8 = i)), V.bl (decide (9 = i)), V.bl (decide (10 = i)), V.bl (decide (11 = i)), V.bl (decide (12 = i)), V.bl (decide (13 = i)), V.bl (decide (14 = i))]) nn) _ _ ((same_upd (o := .lst [V.bl (decide (12 = i)), V.bl (decide (13 = i)), V.bl (decide (14 = i))]) nm) _ _ hd)
  show tSeq _ _ _ _ (upd (upd H3 m (.lst [V.bl (decide (12 = i)), V.bl (decide (13 = i)), V.bl (decide (14 = i))])) n (.lst [V.bl (decide (0 = i)), V.bl (decide (1 = i)), V.bl (decide (2 = i)), V.bl (decide (3 = i)), V.bl (decide (4 = i)), V.bl (decide (5 = i)), V.bl (decide (6 = i)), V.bl (decide (7 = i)), V.bl (decide (8 = i)), V.bl (decide (9 = i)), V.bl (decide (10 = i)), V.bl (decide (11 = i)), V.bl (decide (12 = i)), V.bl (decide (13 = i)), V.bl (decide (14 = i))]))
  generalize (upd (upd H3 m (.lst [V.bl (decide (12 = i)), V.bl (decide (13 = i)), V.bl (decide (14 = i))])) n (.lst [V.bl (decide (0 = i)), V.bl (decide (1 = i)), V.bl (decide (2 = i)), V.bl (decide (3 = i)), V.bl (decide (4 = i)), V.bl (decide (5 = i)), V.bl (decide (6 = i)), V.bl (decide (7 = i)), V.bl (decide (8 = i)), V.bl (decide (9 = i)), V.bl (decide (10 = i)), V.bl (decide (11 = i)), V.bl (decide (12 = i)), V.bl (decide (13 = i)), V.bl (decide (14 = i))])) = H4 at s4 hd hl ⊢
  refine ⟨_, rfl, _, rfl, _, _, _, fs, rfl, fun u r => r, kit_at T hC (j := 15) rfl, hd, _, rfl, _, _, _, fs, rfl, fun u r => r, kit_at T hC (j := 16) rfl, hd, _, rfl, _, _, _, fs, rfl, fun u r => r, kit_at T hC (j := 17) rfl, hd, (by show 3 ≤ sizeLine; decide), fun m nm => ⟨n, m, _, _, rfl, rfl, (same_upd nm) _ _ hl, upd_same, (by show 15 + 3 ≤ sizeLine; decide), fun n nn => ?_⟩⟩
  have s5 : Same H (upd (upd H4 m (.lst [V.bl (decide (15 = i)), V.bl (decide (16 = i)), V.bl (decide (17 = i))])) n (.lst [V.bl (decide (0 = i)), V.bl (decide (1 = i)), V.bl (decide (2 = i)), V.bl (decide (3 = i)), V.bl (decide (4 = i)), V.bl (decide (5 = i)), V.bl (decide (6 = i)), V.bl (decide (7 = i)), V.bl (decide (8 = i)), V.bl (decide (9 = i)), V.bl (decide (10 = i)), V.bl (decide (11 = i)), V.bl (decide (12 = i)), V.bl (decide (13 = i)), V.bl (decide (14 = i)), V.bl (decide (15 = i)), V.bl (decide (16 = i)), V.bl (decide (17 = i))])) := s4.trans ((same_upd nm).trans (same_upd nn))
  have hl : (upd (upd H4 m (.lst [V.bl (decide (15 = i)), V.bl (decide (16 = i)), V.bl (decide (17 = i))])) n (.lst [V.bl (decide (0 = i)), V.bl (decide (1 = i)), V.bl (decide (2 = i)), V.bl (decide (3 = i)), V.bl (decide (4 = i)), V.bl (decide (5 = i)), V.bl (decide (6 = i)), V.bl (decide (7 = i)), V.bl (decide (8 = i)), V.bl (decide (9 = i)), V.bl (decide (10 = i)), V.bl (decide (11 = i)), V.bl (decide (12 = i)), V.bl (decide (13 = i)), V.bl (decide (14 = i)), V.bl (decide (15 = i)), V.bl (decide (16 = i)), V.bl (decide (17 = i))])) n = some (.lst [V.bl (decide (0 = i)), V.bl (decide (1 = i)), V.bl (decide (2 = i)), V.bl (decide (3 = i)), V.bl (decide (4 = i)), V.bl (decide (5 = i)), V.bl (decide (6 = i)), V.bl (decide (7 = i)), V.bl (decide (8 = i)), V.bl (decide (9 = i)), V.bl (decide (10 = i)), V.bl (decide (11 = i)), V.bl (decide (12 = i)), V.bl (decide (13 = i)), V.bl (decide (14 = i)), V.bl (decide (15 = i)), V.bl (decide (16 = i)), V.bl (decide (17 = i))]) := upd_same
  replace hd := (same_upd (o := .lst [V.bl (decide (0 = i)), V.bl (decide (1 = i)), V.bl (decide (2 = i)), V.bl (decide (3 = i)), V.bl (decide (4 = i)), V.bl (decide (5 = i)), V.bl (decide (6 = i)), V.bl (decide (7 = i)), V.bl (decide (8 = i)), V.bl (decide (9 = i)), V.bl (decide (10 = i)), V.bl (decide (11 = i)), V.bl (decide (12 = i)), V.bl (decide (13 = i)), V.bl (decide (14 = i)), V.bl (decide (15 = i)), V.bl (decide (16 = i)), V.bl (decide (17 = i))]) nn) _ _ ((same_upd (o := .lst [V.bl (decide (15 = i)), V.bl (decide (16 = i)), V.bl (decide (17 = i))]) nm) _ _ hd)
  show tSeq _ _ _ _ (upd (upd H4 m (.lst [V.bl (decide (15 = i)), V.bl (decide (16 = i)), V.bl (decide (17 = i))])) n (.lst [V.bl (decide (0 = i)), V.bl (decide (1 = i)), V.bl (decide (2 = i)), V.bl (decide (3 = i)), V.bl (decide (4 = i)), V.bl (decide (5 = i)), V.bl (decide (6 = i)), V.bl (decide (7 = i)), V.bl (decide (8 = i)), V.bl (decide (9 = i)), V.bl (decide (10 = i)), V.bl (decide (11 = i)), V.bl (decide (12 = i)), V.bl (decide (13 = i)), V.bl (decide (14 = i)), V.bl (decide (15 = i)), V.bl (decide (16 = i)), V.bl (decide (17 = i))]))
  generalize (upd (upd H4 m (.lst [V.bl (decide (15 = i)), V.bl (decide (16 = i)), V.bl (decide (17 = i))])) n (.lst [V.bl (decide (0 = i)), V.bl (decide (1 = i)), V.bl (decide (2 = i)), V.bl (decide (3 = i)), V.bl (decide (4 = i)), V.bl (decide (5 = i)), V.bl (decide (6 = i)), V.bl (decide (7 = i)), V.bl (decide (8 = i)), V.bl (decide (9 = i)), V.bl (decide (10 = i)), V.bl (decide (11 = i)), V.bl (decide (12 = i)), V.bl (decide (13 = i)), V.bl (decide (14 = i)), V.bl (decide (15 = i)), V.bl (decide (16 = i)), V.bl (decide (17 = i))])) = H5 at s5 hd hl ⊢
  refine ⟨_, rfl, _, rfl, _, _, _, fs, rfl, fun u r => r, kit_at T hC (j := 18) rfl, hd, _, rfl, _, _, _, fs, rfl, fun u r => r, kit_at T hC (j := 19) rfl, hd, (by show 2 ≤ sizeLine; decide), fun m nm => ⟨n, m, _, _, rfl, rfl, (same_upd nm) _ _ hl, upd_same, (by show 18 + 2 ≤ sizeLine; decide), fun n nn => ?_⟩⟩
  have s6 : Same H (upd (upd H5 m (.lst [V.bl (decide (18 = i)), V.bl (decide (19 = i))])) n (.lst [V.bl (decide (0 = i)), V.bl (decide (1 = i)), V.bl (decide (2 = i)), V.bl (decide (3 = i)), V.bl (decide (4 = i)), V.bl (decide (5 = i)), V.bl (decide (6 = i)), V.bl (decide (7 = i)), V.bl (decide (8 = i)), V.bl (decide (9 = i)), V.bl (decide (10 = i)), V.bl (decide (11 = i)), V.bl (decide (12 = i)), V.bl (decide (13 = i)), V.bl (decide (14 = i)), V.bl (decide (15 = i)), V.bl (decide (16 = i)), V.bl (decide (17 = i)), V.bl (decide (18 = i)), V.bl (decide (19 = i))])) := s5.trans ((same_upd nm).trans (same_upd nn))
  exact q _ n s6 (s5.free ((same_upd nm).free nn)) upd_same
end
end K12
namespace K12
open PySem PySem.Spec PyProof.Rows L2 TL
section
variable {K : PySem.W.Frag} {mg : Str → Option Value} {a : Ads}
/-- the i-th class against some of the others -/
theorem any_at (T : Txt K mg a) {i : Nat} {C : Addr} (hC : (cs a)[i]? = some C) (js : List Nat) (hj : ∀ j ∈ js, j < 20) : L2E.anyOf K (.ref C) (js.map fun j => Value.ref ((cs a).getD j 0)) (js.any fun j => decide (j = i)) := by
  have one : ∀ j, j < 20 → PySem.W.exmOne K (.ref C) (.ref ((cs a).getD j 0)) = some (decide (j = i)) := fun j h => by
    have e : (cs a)[j]? = some ((cs a).getD j 0) := by
      rw [List.getD_eq_getElem?_getD, List.getElem?_eq_getElem (show j < (cs a).length from h)]
      rfl
    obtain ⟨⟨fI, f, _, T1⟩, _⟩ := err_at T e
    exact T1.clsP.exm (sub_at T hC e)
  refine ⟨fun c hc => ?_, ?_⟩
  · obtain ⟨j, h1, rfl⟩ := List.mem_map.mp hc
    exact ⟨_, one j (hj j h1)⟩
  · rw [List.any_map]
    induction js with
    | nil => rfl
    | cons j js ih =>
      rw [List.any_cons, List.any_cons, ih fun k h => hj k (List.mem_cons_of_mem _ h)]
      congr 1
      show _ = (PySem.W.exmOne K (.ref C) (.ref ((cs a).getD j 0)) == some true)
      rw [one j (hj j (List.mem_cons_self ..))]
      cases decide (j = i) <;> rfl
theorem cls_at {i : Nat} (h : i < 20) : ∃ C f, (cs a)[i]? = some C ∧ fds[i]? = some f := ⟨_, _, List.getElem?_eq_getElem (show i < (cs a).length from h), List.getElem?_eq_getElem (show i < fds.length from h)⟩
end
def spField : Sp := fun vs H Q _ => ∃ (i : Nat) (v : V), i < 20 ∧ vs = [.int (i : Int), v] ∧ ∀ H', Same H H' → Q v H'
section
variable {P : Program} {w : World} {K : PySem.W.Frag} {mg : Str → Option Value} {base : Heap} {a : Ads}
theorem sc__law_field : FnScope ["_law_choice", "_law_value", "_law_e"] ["_law_choice", "_law_value"] (defScope s__law_field) := ⟨rfl, rfl, rfl, by decide +kernel, rfl, by decide +kernel, by decide +kernel⟩
theorem ok__law_field (T : Txt K mg a) : FnOk P w K mg base CX0 5 a.f__law_field a.f__law_field_d ["_law_choice", "_law_value"] spField := by
  refine T.F__law_field.ok sc__law_field (fun vs H Q E h => ?_) (fun cdv A outer s H vs Q E hr h => ?_)
  · obtain ⟨_, _, _, rfl, _⟩ := h
    rfl
  obtain ⟨i, v, hi, rfl, q⟩ := h
  obtain ⟨C, f, hC, hf⟩ := cls_at (a := a) hi
  obtain ⟨⟨fI, f', hf', TE⟩, _⟩ := err_at T hC
  rw [hf] at hf'
  cases hf'
  refine ⟨_, pss_cons (L2E.ps_try_ases (i := 2) (n := "_law_e") (tb := fun W => tDrop (tCallS (spErrs a 0) (WE W) (tCons (tVar 0) (tCons (tVar 1) tNil)))) (Wout := fun _ _ _ _ => False) rfl rfl sc__law_field.nd rfl rfl L2E.takesN0
      (fun W pn xe tk _ => pss_one (ps_expr (pe_callS (E := WE W) (ok__law_first T) (hr.mono (by decide)) (by rfl) T.g__law_first T.F__law_first.kp T.b__law_first (fun σ => L2N.passAt tk σ) (pa_cons (pv 0) (pa_cons (pv 1) pa_nil)))))
      (.cons (ts := fun a' cls d => tRet (L2E.tXfA K a' cls d "position" (tVar 2))) (.tup (.cons ⟨(by rfl), (by decide), .inl T.mg_InvalidSyntax⟩ (.cons ⟨(by rfl), (by decide), .inl T.mg_InvalidQuestion⟩ .nil)) (by simp)) (fun a' oe cls d pn hz hf => pss_one (ps_ret (L2E.pe_xfA hz.zc hf (pv 2))))
    (.cons (ts := fun a' cls d => tRet (L2E.tXfA K a' cls d "name" (tVar 2))) (.tup (.cons ⟨(by rfl), (by decide), .inl T.mg_DuplicateName⟩ (.cons ⟨(by rfl), (by decide), .inl T.mg_UnknownName⟩ (.cons ⟨(by rfl), (by decide), .inl T.mg_UnknownFunction⟩ .nil))) (by simp)) (fun a' oe cls d pn hz hf => pss_one (ps_ret (L2E.pe_xfA hz.zc hf (pv 2))))
    (.cons (ts := fun a' cls d => tRet (L2E.tXfA K a' cls d "place" (tVar 2))) (.tup (.cons ⟨(by rfl), (by decide), .inl T.mg_WrongArguments⟩ (.cons ⟨(by rfl), (by decide), .inl T.mg_InvalidFinally⟩ .nil)) (by simp)) (fun a' oe cls d pn hz hf => pss_one (ps_ret (L2E.pe_xfA hz.zc hf (pv 2))))
    (.cons (ts := fun a' cls d => tRet (L2E.tXfA K a' cls d "word" (tVar 2))) (.tup (.cons ⟨(by rfl), (by decide), .inl T.mg_TooLarge⟩ (.cons ⟨(by rfl), (by decide), .inl T.mg_InvalidCommand⟩ (.cons ⟨(by rfl), (by decide), .inl T.mg_LimitExceeded⟩ .nil))) (by simp)) (fun a' oe cls d pn hz hf => pss_one (ps_ret (L2E.pe_xfA hz.zc hf (pv 2))))
    (.cons (ts := fun a' cls d => tRet (L2E.tXfA K a' cls d "value" (tVar 2))) (.tup (.cons ⟨(by rfl), (by decide), .inl T.mg_InvalidText⟩ (.cons ⟨(by rfl), (by decide), .inl T.mg_InvalidTree⟩ (.cons ⟨(by rfl), (by decide), .inl T.mg_InvalidRow⟩ (.cons ⟨(by rfl), (by decide), .inl T.mg_InvalidCase⟩ (.cons ⟨(by rfl), (by decide), .inl T.mg_InvalidEntry⟩ (.cons ⟨(by rfl), (by decide), .inl T.mg_InvalidChoices⟩ .nil)))))) (by simp)) (fun a' oe cls d pn hz hf => pss_one (ps_ret (L2E.pe_xfA hz.zc hf (pv 2))))
    (.cons (ts := fun a' cls d => tRet (L2E.tXfA K a' cls d "value" (tVar 2))) (.tup (.cons ⟨(by rfl), (by decide), .inl T.mg_InvalidInjection⟩ (.cons ⟨(by rfl), (by decide), .inl T.mg_InvalidOrder⟩ (.cons ⟨(by rfl), (by decide), .inl T.mg_InvalidEvent⟩ (.cons ⟨(by rfl), (by decide), .inl T.mg_InvalidValues⟩ .nil)))) (by simp)) (fun a' oe cls d pn hz hf => pss_one (ps_ret (L2E.pe_xfA hz.zc hf (pv 2))))
    .nil))))))) (pss_one (ps_ret pe_non)), ?_⟩
  refine ⟨_, rfl, _, rfl, i, v, C, f, Nat.zero_le _, hi, rfl, hC, hf, fun d nd => ?_⟩
  have leaf : ∀ {f' : Str} {a' : Addr}, fds[i]? = some f' → f' = f → L2E.tXfA K a' (.ref C) (some d) f' (tVar 2) [some (V.int i), some v, some (V.ref a')] (upd H d (.xd [(f, v)])) (fun x H' => Q x H') := fun {f' a'} _ e => by
    subst e
    exact ⟨_, rfl, rfl, C, d, _, v, rfl, TE.xfC, TE.nf, rfl, upd_same, by simp [List.lookup], q _ (same_upd nd)⟩
  refine ⟨_, any_at T hC [1, 16] (by decide), fun hb a' na => ?_, fun hb => ?_⟩
  · have e : fds[i]? = some "position" := by
      simp only [List.any_cons, List.any_nil, Bool.or_false, Bool.or_eq_true, decide_eq_true_eq] at hb
      rcases hb with rfl | rfl <;> rfl
    exact leaf e (Option.some.inj (e.symm.trans hf))
  simp only [List.any_cons, List.any_nil, Bool.or_false, Bool.or_eq_false_iff, decide_eq_false_iff_not] at hb
  have n1 := hb
  clear hb
  refine ⟨_, any_at T hC [3, 4, 18] (by decide), fun hb a' na => ?_, fun hb => ?_⟩
  · have e : fds[i]? = some "name" := by
      simp only [List.any_cons, List.any_nil, Bool.or_false, Bool.or_eq_true, decide_eq_true_eq] at hb
      rcases hb with rfl | rfl | rfl <;> rfl
    exact leaf e (Option.some.inj (e.symm.trans hf))
  simp only [List.any_cons, List.any_nil, Bool.or_false, Bool.or_eq_false_iff, decide_eq_false_iff_not] at hb
  have n3 := hb
  clear hb
  refine ⟨_, any_at T hC [5, 6] (by decide), fun hb a' na => ?_, fun hb => ?_⟩
  · have e : fds[i]? = some "place" := by
      simp only [List.any_cons, List.any_nil, Bool.or_false, Bool.or_eq_true, decide_eq_true_eq] at hb
      rcases hb with rfl | rfl <;> rfl
    exact leaf e (Option.some.inj (e.symm.trans hf))
  simp only [List.any_cons, List.any_nil, Bool.or_false, Bool.or_eq_false_iff, decide_eq_false_iff_not] at hb
  have n5 := hb
  clear hb
  refine ⟨_, any_at T hC [7, 17, 19] (by decide), fun hb a' na => ?_, fun hb => ?_⟩
  · have e : fds[i]? = some "word" := by
      simp only [List.any_cons, List.any_nil, Bool.or_false, Bool.or_eq_true, decide_eq_true_eq] at hb
      rcases hb with rfl | rfl | rfl <;> rfl
    exact leaf e (Option.some.inj (e.symm.trans hf))
  simp only [List.any_cons, List.any_nil, Bool.or_false, Bool.or_eq_false_iff, decide_eq_false_iff_not] at hb
  have n7 := hb
  clear hb
  refine ⟨_, any_at T hC [0, 2, 8, 9, 10, 11] (by decide), fun hb a' na => ?_, fun hb => ?_⟩
  · have e : fds[i]? = some "value" := by
      simp only [List.any_cons, List.any_nil, Bool.or_false, Bool.or_eq_true, decide_eq_true_eq] at hb
      rcases hb with rfl | rfl | rfl | rfl | rfl | rfl <;> rfl
    exact leaf e (Option.some.inj (e.symm.trans hf))
  simp only [List.any_cons, List.any_nil, Bool.or_false, Bool.or_eq_false_iff, decide_eq_false_iff_not] at hb
  have n0 := hb
  clear hb
  refine ⟨_, any_at T hC [12, 13, 14, 15] (by decide), fun hb a' na => ?_, fun hb => ?_⟩
  · have e : fds[i]? = some "value" := by
      simp only [List.any_cons, List.any_nil, Bool.or_false, Bool.or_eq_true, decide_eq_true_eq] at hb
      rcases hb with rfl | rfl | rfl | rfl <;> rfl
    exact leaf e (Option.some.inj (e.symm.trans hf))
  simp only [List.any_cons, List.any_nil, Bool.or_false, Bool.or_eq_false_iff, decide_eq_false_iff_not] at hb
  have n12 := hb
  clear hb
  show False
  omega
end
end K12
namespace K12
open PySem PySem.Spec PyProof.Rows L2 TL
/-- a short text times a small number -/
def rRepS : R2 := fun x y H Q => ∃ (z : Str) (k : Int), x = .str z ∧ y = .int k ∧ z.length ≤ 16 ∧ 0 ≤ k ∧ k ≤ 1000 ∧ ∀ u : Str, Q (.str u) H
theorem op_repS {X : Cx} : OpR X (binaryOp .Mult) rRepS := by
  intro pins s σ H x y v u Q I rx ry h
  obtain ⟨z, k, rfl, rfl, hz, h0, h1, q⟩ := h
  obtain ⟨t, rfl⟩ := rx
  obtain ⟨t2, rfl⟩ := ry
  exact PySem.W.KXi.mul rfl hz (by omega) (by omega) fun t' k' _ _ => ⟨.str _, H, I.kept (t' := k') fun _ _ e => e, ⟨_, rfl⟩, q _⟩
theorem hot1 {X : Cx} {a' : Addr} {oe : Obj} {cls : Value} {d : Option Addr} {pn : List (Addr × Obj)} (hz : L2N.Zn cls d oe) (hf : ∃ vs, oe.data = .fields vs) : L2H.Hot1 (X.suite a' ((a', oe) :: pn)).A (a', oe) := by
  obtain ⟨vs, e⟩ := hf
  exact ⟨rfl, vs, e, hz.2.2 vs e⟩
theorem hotC {X : Cx} {a' : Addr} {oe : Obj} {cls : Value} {d : Option Addr} {pn : List (Addr × Obj)} (hz : L2N.Zn cls d oe) (hf : ∃ vs, oe.data = .fields vs) : L2H.HotC (X.suite a' ((a', oe) :: pn)) := ⟨(a', oe), hot1 hz hf, List.mem_cons_self ..⟩
/-- the list of kinds of the exception at hand -/
def tKd (a : Ads) (a' : Addr) (cls : Value) (d : Option Addr) : TE := fun σ H Q => ∃ (i : Nat) (C dd : Addr) (fs : List (Str × V)), σ[4]? = some (some (.ref a')) ∧ cls = .ref C ∧ d = some dd ∧ (cs a)[i]? = some C ∧ H dd = some (.xd fs) ∧
  ∀ H' l, Same H H' → H l = none → H' l = some (.lst (kdL i)) → Q (.ref l) H'
theorem pe_kinds {X : Cx} {K : PySem.W.Frag} {mg : Str → Option Value} {a : Ads} {a' : Addr} {oe : Obj} {cls : Value} {d : Option Addr} {e : Expr} {E : L2.St → XK} (T : Txt K mg a) (hz : L2N.Zn cls d oe) (hf : ∃ vs, oe.data = .fields vs)
    (h : PE X e (tCallS (spKinds a (a', oe)) E (tCons (tVar 4) tNil))) : PE X e (tKd a a' cls d) :=
  ⟨fun pins s σ H Q I q => by
    obtain ⟨i, C, dd, fs, hs, ec, ed, hC, hd, k⟩ := q
    subst ec ed
    exact h.run pins s σ H Q I ⟨_, hs, i, C, dd, fs, rfl, hC, hz.zc, hf, hd, k⟩⟩
/-- what each suite of the law says -/
def tSuite (K : PySem.W.Frag) (a : Ads) (tst : TE) (B : String) : Addr → Value → Option Addr → TS := fun a' cls d => tRet (tAndV tst (tAndV (tCB (L2E.rIsXA K a' cls d) (tCons (tVar 4) (tCons (tC (.ty B)) tNil)))
  (tOp (rEqD K) (tKd a a' cls d) (tLc (iRng1 (tCons (tC (.int 20)) tNil)) (gName 5) tYes (tOp rEq (tVar 5) (tVar 2)) [5]))))
section
variable {K : PySem.W.Frag} {mg : Str → Option Value} {a : Ads}
theorem any_pe (T : Txt K mg a) {i : Nat} {C : Addr} (hC : (cs a)[i]? = some C) : L2E.anyOf K (.ref C) [.ref a.c_ProgramError] (decide (i < 18)) := by
  have e := T.pe.exm (sub_pe T hC)
  refine ⟨fun c hc => ?_, ?_⟩
  · obtain rfl : c = Value.ref a.c_ProgramError := by simpa using hc
    exact ⟨_, e⟩
  · rw [List.any_cons, List.any_nil, Bool.or_false, e]
    cases decide (i < 18) <;> rfl
theorem kit_base (T : Txt K mg a) {i : Nat} {C : Addr} {B : String} (hC : (cs a)[i]? = some C) (hm : PySem.W.kitMeta B = true) (h : (Value.ref C :: bmOf a i).contains (.type B) = true) : PySem.W.kitOne K (.ref C) (.type B) = some true :=
  L2E.kit_type hm rfl (by rw [(err_at T hC).2, h])
end
theorem dp_bls {K : PySem.W.Frag} {H : Hp} : ∀ bs : List Bool, DpAll K H (bs.map V.bl) (bs.map PyData.bool)
  | [] => .nil
  | b :: bs => .cons (.bl b) (dp_bls bs)
def kdB (i : Nat) : List Bool := (List.range 20).map fun j => decide (j = i)
theorem kd_ok : ∀ i, i < 20 → SeqAt.shaped (.list ((kdB i).map PyData.bool)) = true ∧ PyData.eqv (.list ((kdB i).map PyData.bool)) (.list ((kdB i).map PyData.bool)) = true := by decide +kernel
theorem kd_eq (i : Nat) : kdL i = (kdB i).map V.bl := by
  unfold kdL kdB
  rw [List.map_map]
  rfl
theorem dec_ji {i j : Nat} : decide (V.int (0 + (j : Int)) = V.int (i : Int)) = decide (j = i) := by
  by_cases h : j = i
  · rw [decide_eq_true h, decide_eq_true (by rw [h, Int.zero_add])]
  · rw [decide_eq_false h, decide_eq_false fun z => h (by have := V.int.inj z; omega)]
theorem suite_ok {K : PySem.W.Frag} {mg : Str → Option Value} {a : Ads} (T : Txt K mg a) {i : Nat} {C a' d : Addr} {fx : Str} {v : V} {tst : TE} {B : String} {D : Ends} {H : Hp} {σ0 σ1 σ3 w5 : Option V} (hi : i < 20) (hC : (cs a)[i]? = some C) (hd : H d = some (.xd [(fx, v)]))
    (ht : ∀ Q : VK, Q (.bl true) H → tst [σ0, σ1, some (.int (i : Int)), σ3, some (.ref a'), w5] H Q) (hm : PySem.W.kitMeta B = true) (hB : (Value.ref C :: bmOf a i).contains (.type B) = true) (q : ∀ H', D.rt (.bl true) H') :
    tSuite K a tst B a' (.ref C) (some d) D [σ0, σ1, some (.int (i : Int)), σ3, some (.ref a'), w5] H := by
  obtain ⟨⟨fI, f', _, TE⟩, _⟩ := err_at T hC
  refine ht _ ⟨true, rfl, iteT ⟨_, rfl, C, d, fI, f', _, _, true, _, rfl, rfl, TE, rfl, fun u r => r, kit_base T hC hm hB, hd, true, rfl, iteT ?_⟩⟩
  refine ⟨i, C, d, _, rfl, rfl, rfl, hC, hd, fun H1 l s1 nl hl => ⟨20, rfl, by decide, by decide, fun L nL => ?_⟩⟩
  refine lc_range (lo := 0) (n := 20) (fun j H' => Same H1 H' ∧ H' L = some (.lst (((List.range j).map fun k => decide (k = i)).map V.bl))) ⟨same_upd nL, upd_same⟩ ?_ ?_
  · rintro j H2 hj ⟨s2, h2⟩
    refine ⟨rfl, _, rfl, _, rfl, rfl, _, h2, ?_, same_mut s2 nL, ?_⟩
    · rw [List.length_map, List.length_map, List.length_range]
      exact small1000 (by omega)
    · rw [upd_same, List.range_succ, List.map_append, List.map_append, dec_ji]
      rfl
  · rintro H2 ⟨s2, h2⟩
    refine ⟨_, _, .lst (ds := (kdB i).map PyData.bool) (SqL.of (s2 _ _ hl)) (by rw [kd_eq]; exact dp_bls _), .lst (ds := (kdB i).map PyData.bool) (SqL.of h2) (dp_bls _), (kd_ok i hi).1, (kd_ok i hi).1, ?_⟩
    rw [(kd_ok i hi).2]
    exact q _
theorem tail_ve {a : Ads} {i : Nat} {C : Addr} (h : i < 18) : (Value.ref C :: bmOf a i).contains (.type "ValueError") = true := by
  unfold bmOf
  rw [if_pos h, List.contains_cons, List.contains_cons]
  rfl
def spLaw (K : PySem.W.Frag) : Sp := fun vs H Q _ => ∃ (a : Addr) (ns : List Int), vs = [.ref a] ∧ SqL K H a (ns.map V.int) ∧ ns.length ≤ 63 ∧ ∀ H', Q (.bl true) H'
section
variable {P : Program} {w : World} {K : PySem.W.Frag} {mg : Str → Option Value} {base : Heap} {a : Ads}
theorem sc_law : FnScope ["_law_script", "_law_pool_here", "_law_choice", "_law_value", "_law_e", "_law_k"] ["_law_script"] (defScope s_law) := ⟨rfl, rfl, rfl, by decide +kernel, rfl, by decide +kernel, by decide +kernel⟩
theorem ok_law (T : Txt K mg a) : FnOk P w K mg base CX0 28 a.f_law a.f_law_d ["_law_script"] (spLaw K) := by
  refine T.F_law.ok sc_law (fun vs H Q E h => ?_) (fun cdv A outer s H vs Q E hr h => ?_)
  · obtain ⟨p, ns, rfl, _⟩ := h
    rfl
  obtain ⟨scr, zs, rfl, hS, hlen, q⟩ := h
  refine ⟨_, (pss_cons (ps_set (i := 1) sc_law.nd rfl (Or.inl rfl) (pe_call (ok__law_pool T) (hr.mono (by decide)) (by rfl) T.g__law_pool T.F__law_pool.kp T.b__law_pool .nil pass0 (pa_cons (pv 0) pa_nil)))
    (pss_cons (ps_set (i := 2) sc_law.nd rfl (Or.inr rfl) (pe_call (ok__law_draw T) (hr.mono (by decide)) (by rfl) T.g__law_draw T.F__law_draw.kp T.b__law_draw .nil pass0 (pa_cons (pv 1) (pa_cons pe_int pa_nil))))
    (pss_cons (ps_set (i := 3) sc_law.nd rfl (Or.inl rfl) (pe_ix ix_list (pe_lst (pa_cons (pe_call (ok__law_draw T) (hr.mono (by decide)) (by rfl) T.g__law_draw T.F__law_draw.kp T.b__law_draw .nil pass0 (pa_cons (pv 1) (pa_cons (pe_op op_pow pe_int pe_int) pa_nil))) (pa_cons (pe_op op_repS pe_str (pe_call (ok__law_draw T) (hr.mono (by decide)) (by rfl) T.g__law_draw T.F__law_draw.kp T.b__law_draw .nil pass0 (pa_cons (pv 1) (pa_cons pe_int pa_nil)))) pa_nil))) (pe_call (ok__law_draw T) (hr.mono (by decide)) (by rfl) T.g__law_draw T.F__law_draw.kp T.b__law_draw .nil pass0 (pa_cons (pv 1) (pa_cons pe_int pa_nil))) (fun _ _ => rfl)))
    (pss_cons (ps_if (pt_cmpR op_ne (pe_call (ok__law_field T) (hr.mono (by decide)) (by rfl) T.g__law_field T.F__law_field.kp T.b__law_field .nil pass0 (pa_cons (pv 2) (pa_cons (pv 3) pa_nil))) (pv 3) (nomark _))
      (pss_one (ps_ret pe_bl))
      pss_nil)
    (pss_cons (L2E.ps_try_ases (i := 4) (n := "_law_e") (tb := fun W => tDrop (tCallS (spErrs a 0) (WE W) (tCons (tVar 2) (tCons (tVar 3) tNil)))) (Wout := fun _ _ _ _ => False) rfl rfl sc_law.nd rfl rfl L2E.takesN0
      (fun W pn xe tk _ => pss_one (ps_expr (pe_callS (E := WE W) (ok__law_first T) (hr.mono (by decide)) (by rfl) T.g__law_first T.F__law_first.kp T.b__law_first (fun σ => L2N.passAt tk σ) (pa_cons (pv 2) (pa_cons (pv 3) pa_nil)))))
      (.cons (ts := tSuite K a (tOp (rI0 fun i j => .bl (decide (i < j))) (tVar 2) (tC (.int 18))) "ValueError") (.one (x := "ProgramError") ⟨(by rfl), (by decide), .inl T.mg_ProgramError⟩) (fun a' oe cls d pn hz hf => (pss_one (ps_ret (pe_and (pe_cmpR op_lt (pv 2) pe_int (nomark _)) (pe_and (pe_callB (L2E.call_isXA T.rd (List.mem_cons_self ..) hz.zc hf) (by rfl) T.isinstance (by decide +kernel) (pa_cons (pv 4) (pa_cons (pe_bltn (v := .ty "ValueError") (by rfl) T.ValueError (by decide +kernel) rfl) pa_nil))) (pe_one (pe_cmpR (op_eqD hr.units) (pe_kinds T hz hf (L2E.pe_callHp (p := (a', oe)) (E := fun _ => E0) (ok__law_kinds T) (L2H.roomH_mark (hr.mono (by decide)) _) (hot1 hz hf) (List.mem_cons_self ..) (by rfl) T.g__law_kinds T.F__law_kinds.kp T.b__law_kinds (fun _ _ _ _ _ _ _ h => h.elim) (pa_cons (pv 4) pa_nil)))
        (L2E.pe_lcH (own := [("_law_k", 5)]) (g := gName 5) (hotC hz hf) sc_law.nd (L2H.pi_range1H (by rfl) T.range (pa_cons pe_int pa_nil)) (blkOk_by (own := [("_law_k", 5)]) (N := ["_law_script", "_law_pool_here", "_law_choice", "_law_value", "_law_e", "_law_k"]) (sc := defScope s_law) (by decide +kernel)) (fun _ _ _ _ _ _ => pg_name (i := 5) sc_law.nd rfl (Or.inl rfl)) (fun _ _ _ _ _ _ => pe_cmpR op_eq (pv 5) (pv 2) (nomark _))) (nomark _))))))))
      (.cons (ts := tSuite K a (tOp rEq (tVar 2) (tC (.int 18))) "KeyError") (.one (x := "UnknownFunction") ⟨(by rfl), (by decide), .inl T.mg_UnknownFunction⟩) (fun a' oe cls d pn hz hf => (pss_one (ps_ret (pe_and (pe_cmpR op_eq (pv 2) pe_int (nomark _)) (pe_and (pe_callB (L2E.call_isXA T.rd (List.mem_cons_self ..) hz.zc hf) (by rfl) T.isinstance (by decide +kernel) (pa_cons (pv 4) (pa_cons (pe_bltn (v := .ty "KeyError") (by rfl) T.KeyError (by decide +kernel) rfl) pa_nil))) (pe_one (pe_cmpR (op_eqD hr.units) (pe_kinds T hz hf (L2E.pe_callHp (p := (a', oe)) (E := fun _ => E0) (ok__law_kinds T) (L2H.roomH_mark (hr.mono (by decide)) _) (hot1 hz hf) (List.mem_cons_self ..) (by rfl) T.g__law_kinds T.F__law_kinds.kp T.b__law_kinds (fun _ _ _ _ _ _ _ h => h.elim) (pa_cons (pv 4) pa_nil)))
        (L2E.pe_lcH (own := [("_law_k", 5)]) (g := gName 5) (hotC hz hf) sc_law.nd (L2H.pi_range1H (by rfl) T.range (pa_cons pe_int pa_nil)) (blkOk_by (own := [("_law_k", 5)]) (N := ["_law_script", "_law_pool_here", "_law_choice", "_law_value", "_law_e", "_law_k"]) (sc := defScope s_law) (by decide +kernel)) (fun _ _ _ _ _ _ => pg_name (i := 5) sc_law.nd rfl (Or.inl rfl)) (fun _ _ _ _ _ _ => pe_cmpR op_eq (pv 5) (pv 2) (nomark _))) (nomark _))))))))
      (.cons (ts := tSuite K a (tOp rEq (tVar 2) (tC (.int 19))) "RuntimeError") (.one (x := "LimitExceeded") ⟨(by rfl), (by decide), .inl T.mg_LimitExceeded⟩) (fun a' oe cls d pn hz hf => (pss_one (ps_ret (pe_and (pe_cmpR op_eq (pv 2) pe_int (nomark _)) (pe_and (pe_callB (L2E.call_isXA T.rd (List.mem_cons_self ..) hz.zc hf) (by rfl) T.isinstance (by decide +kernel) (pa_cons (pv 4) (pa_cons (pe_bltn (v := .ty "RuntimeError") (by rfl) T.RuntimeError (by decide +kernel) rfl) pa_nil))) (pe_one (pe_cmpR (op_eqD hr.units) (pe_kinds T hz hf (L2E.pe_callHp (p := (a', oe)) (E := fun _ => E0) (ok__law_kinds T) (L2H.roomH_mark (hr.mono (by decide)) _) (hot1 hz hf) (List.mem_cons_self ..) (by rfl) T.g__law_kinds T.F__law_kinds.kp T.b__law_kinds (fun _ _ _ _ _ _ _ h => h.elim) (pa_cons (pv 4) pa_nil)))
        (L2E.pe_lcH (own := [("_law_k", 5)]) (g := gName 5) (hotC hz hf) sc_law.nd (L2H.pi_range1H (by rfl) T.range (pa_cons pe_int pa_nil)) (blkOk_by (own := [("_law_k", 5)]) (N := ["_law_script", "_law_pool_here", "_law_choice", "_law_value", "_law_e", "_law_k"]) (sc := defScope s_law) (by decide +kernel)) (fun _ _ _ _ _ _ => pg_name (i := 5) sc_law.nd rfl (Or.inl rfl)) (fun _ _ _ _ _ _ => pe_cmpR op_eq (pv 5) (pv 2) (nomark _))) (nomark _))))))))
      .nil))))
    (pss_one (ps_ret pe_bl))))))), ?_⟩
  -- pool, choice
  refine ⟨_, rfl, scr, zs, rfl, hS, hlen, fun H1 p l s1 np0 nl0 P1 => ?_⟩
  refine ⟨_, rfl, p, l, 0, 20, rfl, P1, by decide, by decide, by decide +kernel, fun r H2 r0 r1 P2 f2 => ?_⟩
  obtain ⟨i, rfl⟩ : ∃ i : Nat, r = (i : Int) := ⟨r.toNat, by omega⟩
  have hi : i < 20 := by omega
  dsimp only [gName]
  -- the value
  refine ⟨_, rfl, _, _, rfl, rfl, ⟨by decide, by decide, by decide⟩, p, l, 1, _, rfl, P2, by decide, by decide, by decide +kernel, fun r2 H3 _ _ P3 f3 => ?_⟩
  refine ⟨_, rfl, p, l, 2, 5, rfl, P3, by decide, by decide, by decide +kernel, fun r3 H4 r30 r31 P4 f4 => ⟨"q", r3, rfl, rfl, by decide, r30, by omega, fun u => ?_⟩⟩
  refine ⟨(by show 2 ≤ sizeLine; decide), fun ls nls => ?_⟩
  have P5 := P4.same (same_upd (o := .lst [V.int r2, V.str u]) nls)
  refine ⟨_, rfl, p, l, 3, 2, rfl, P5, by decide, by decide, by decide +kernel, fun r5 H5 r50 r51 P6 f6 => ?_⟩
  obtain ⟨v, hat, hv⟩ : ∃ v, atI [V.int r2, V.str u] r5 = some v ∧ scal v v = true := by
    rcases (by omega : r5 = 0 ∨ r5 = 1) with rfl | rfl
    · exact ⟨_, atI_nat (j := 0) rfl, rfl⟩
    · exact ⟨_, atI_nat (j := 1) rfl, rfl⟩
  have nlp : ls ≠ p ∧ ls ≠ l := by
    obtain ⟨_, cs', ix, cnt, seed, ph, h1, h2, _⟩ := P4
    exact ⟨fun z => (by rw [← z, nls] at h1; cases h1), fun z => (by rw [← z, nls] at h2; cases h2)⟩
  refine ⟨ls, _, _, _, rfl, rfl, SqL.of (by rw [f6 _ nlp.1 nlp.2]; exact upd_same), hat, ?_⟩
  dsimp only [gName]
  -- its field
  refine ⟨_, rfl, _, rfl, i, v, hi, rfl, fun H6 s6 => ⟨_, rfl, hv, _, rfl, ite2 (fun e => ?_) (fun _ => ?_)⟩⟩
  · rw [decide_eq_true rfl] at e
    cases e
  -- its classes
  obtain ⟨C, f, hC, hf⟩ := cls_at (a := a) hi
  refine ⟨_, rfl, _, rfl, i, v, C, f, Nat.zero_le _, hi, rfl, hC, hf, fun d nd => ?_⟩
  refine ⟨_, any_pe T hC, fun hb a' na => ?_, fun hb => ?_⟩
  · have h18 : i < 18 := of_decide_eq_true hb
    exact suite_ok T hi hC upd_same (fun Q k => ⟨_, rfl, _, _, rfl, rfl, by show Q (.bl (decide ((i : Int) < 18))) _; rw [decide_eq_true (show (i : Int) < 18 by omega)]; exact k⟩) (by decide +kernel) (tail_ve h18) fun H' => q H'
  have n18 : ¬ i < 18 := of_decide_eq_false hb
  refine ⟨_, any_at T hC [18] (by decide), fun hb a' na => ?_, fun hb => ?_⟩
  · have e18 : i = 18 := by
      simp only [List.any_cons, List.any_nil, Bool.or_false, decide_eq_true_eq] at hb
      exact hb.symm
    exact suite_ok T hi hC upd_same (fun Q k => ⟨_, rfl, rfl, by rw [decide_eq_true (show V.int (i : Int) = V.int 18 by rw [e18]; rfl)]; exact k⟩) (by decide +kernel) (by rw [e18]; rfl) fun H' => q H'
  simp only [List.any_cons, List.any_nil, Bool.or_false, decide_eq_false_iff_not] at hb
  have e19 : i = 19 := by omega
  refine ⟨_, any_at T hC [19] (by decide), fun hb a' na => ?_, fun hb => ?_⟩
  · exact suite_ok T hi hC upd_same (fun Q k => ⟨_, rfl, rfl, by rw [decide_eq_true (show V.int (i : Int) = V.int 19 by rw [e19]; rfl)]; exact k⟩) (by decide +kernel) (by rw [e19]; rfl) fun H' => q H'
  · simp only [List.any_cons, List.any_nil, Bool.or_false, decide_eq_false_iff_not] at hb
    exact absurd e19.symm hb
end
end K12
namespace K12
open PySem PySem.Spec PyProof.Rows L2 TL
theorem all_mk {l : PySem.W.OpenLaw} {w : World} {K : PySem.W.Frag} {h : Heap} {mg : Str → Option Value} {fa f_InvalidText___init__ f_InvalidSyntax___init__ f_InvalidTree___init__ f_DuplicateName___init__ f_UnknownName___init__ f_WrongArguments___init__ f_InvalidFinally___init__ f_TooLarge___init__ f_InvalidRow___init__ f_InvalidCase___init__ f_InvalidEntry___init__ f_InvalidChoices___init__ f_InvalidInjection___init__ f_InvalidOrder___init__ f_InvalidEvent___init__ f_InvalidValues___init__ f_InvalidQuestion___init__ f_InvalidCommand___init__ f_UnknownFunction___init__ f_LimitExceeded___init__ f__law_pool f__law_mixed f__law_draw f__law_first f__law_second f__law_kinds f__law_field f_law c_InvalidText c_InvalidSyntax c_InvalidTree c_DuplicateName c_UnknownName c_WrongArguments c_InvalidFinally c_TooLarge c_InvalidRow c_InvalidCase c_InvalidEntry c_InvalidChoices c_InvalidInjection c_InvalidOrder c_InvalidEvent c_InvalidValues c_InvalidQuestion c_InvalidCommand c_UnknownFunction c_LimitExceeded c_ProgramError : Addr} (X : K.In h) (G : h.Ns mainGlobals mg) (hfa : mg "law" = some (.ref fa))
    {od_InvalidText___init__ an_InvalidText___init__ : Option Addr} {sl_InvalidText___init__ : Array (Option Value)} {oc_InvalidText___init__ kV_InvalidText___init__ dc_InvalidText___init__ pm_InvalidText___init__ cd_InvalidText___init__ ct_InvalidText___init__ : Value}
    (a_InvalidText___init__ : PySem.W.findIn K (.ref c_InvalidText) "__init__" = some (some (.ref f_InvalidText___init__)))
    (l_InvalidText___init__ : K.lookup f_InvalidText___init__ = some ⟨oc_InvalidText___init__, od_InvalidText___init__, .func (PySem.W.fnOf "__init__" "InvalidText.__init__" (defArgs s_InvalidText___init__) (defBody s_InvalidText___init__) (defScope s_InvalidText___init__) .none kV_InvalidText___init__ dc_InvalidText___init__ pm_InvalidText___init__ an_InvalidText___init__ cd_InvalidText___init__ ct_InvalidText___init__), sl_InvalidText___init__⟩) (e_InvalidText___init__ : PySem.W.codeIn K cd_InvalidText___init__ "InvalidText.__init__" = true) (k_InvalidText___init__ : PySem.W.keepIn K (.ref f_InvalidText___init__) = true)
    (i_InvalidText___init__ : PySem.W.isFn K (.ref f_InvalidText___init__) = true)
    {od_InvalidSyntax___init__ an_InvalidSyntax___init__ : Option Addr} {sl_InvalidSyntax___init__ : Array (Option Value)} {oc_InvalidSyntax___init__ kV_InvalidSyntax___init__ dc_InvalidSyntax___init__ pm_InvalidSyntax___init__ cd_InvalidSyntax___init__ ct_InvalidSyntax___init__ : Value}
    (a_InvalidSyntax___init__ : PySem.W.findIn K (.ref c_InvalidSyntax) "__init__" = some (some (.ref f_InvalidSyntax___init__)))
    (l_InvalidSyntax___init__ : K.lookup f_InvalidSyntax___init__ = some ⟨oc_InvalidSyntax___init__, od_InvalidSyntax___init__, .func (PySem.W.fnOf "__init__" "InvalidSyntax.__init__" (defArgs s_InvalidSyntax___init__) (defBody s_InvalidSyntax___init__) (defScope s_InvalidSyntax___init__) .none kV_InvalidSyntax___init__ dc_InvalidSyntax___init__ pm_InvalidSyntax___init__ an_InvalidSyntax___init__ cd_InvalidSyntax___init__ ct_InvalidSyntax___init__), sl_InvalidSyntax___init__⟩) (e_InvalidSyntax___init__ : PySem.W.codeIn K cd_InvalidSyntax___init__ "InvalidSyntax.__init__" = true) (k_InvalidSyntax___init__ : PySem.W.keepIn K (.ref f_InvalidSyntax___init__) = true)
    (i_InvalidSyntax___init__ : PySem.W.isFn K (.ref f_InvalidSyntax___init__) = true)
    {od_InvalidTree___init__ an_InvalidTree___init__ : Option Addr} {sl_InvalidTree___init__ : Array (Option Value)} {oc_InvalidTree___init__ kV_InvalidTree___init__ dc_InvalidTree___init__ pm_InvalidTree___init__ cd_InvalidTree___init__ ct_InvalidTree___init__ : Value}
    (a_InvalidTree___init__ : PySem.W.findIn K (.ref c_InvalidTree) "__init__" = some (some (.ref f_InvalidTree___init__)))
    (l_InvalidTree___init__ : K.lookup f_InvalidTree___init__ = some ⟨oc_InvalidTree___init__, od_InvalidTree___init__, .func (PySem.W.fnOf "__init__" "InvalidTree.__init__" (defArgs s_InvalidTree___init__) (defBody s_InvalidTree___init__) (defScope s_InvalidTree___init__) .none kV_InvalidTree___init__ dc_InvalidTree___init__ pm_InvalidTree___init__ an_InvalidTree___init__ cd_InvalidTree___init__ ct_InvalidTree___init__), sl_InvalidTree___init__⟩) (e_InvalidTree___init__ : PySem.W.codeIn K cd_InvalidTree___init__ "InvalidTree.__init__" = true) (k_InvalidTree___init__ : PySem.W.keepIn K (.ref f_InvalidTree___init__) = true)
    (i_InvalidTree___init__ : PySem.W.isFn K (.ref f_InvalidTree___init__) = true)
    {od_DuplicateName___init__ an_DuplicateName___init__ : Option Addr} {sl_DuplicateName___init__ : Array (Option Value)} {oc_DuplicateName___init__ kV_DuplicateName___init__ dc_DuplicateName___init__ pm_DuplicateName___init__ cd_DuplicateName___init__ ct_DuplicateName___init__ : Value}
    (a_DuplicateName___init__ : PySem.W.findIn K (.ref c_DuplicateName) "__init__" = some (some (.ref f_DuplicateName___init__)))
    (l_DuplicateName___init__ : K.lookup f_DuplicateName___init__ = some ⟨oc_DuplicateName___init__, od_DuplicateName___init__, .func (PySem.W.fnOf "__init__" "DuplicateName.__init__" (defArgs s_DuplicateName___init__) (defBody s_DuplicateName___init__) (defScope s_DuplicateName___init__) .none kV_DuplicateName___init__ dc_DuplicateName___init__ pm_DuplicateName___init__ an_DuplicateName___init__ cd_DuplicateName___init__ ct_DuplicateName___init__), sl_DuplicateName___init__⟩) (e_DuplicateName___init__ : PySem.W.codeIn K cd_DuplicateName___init__ "DuplicateName.__init__" = true) (k_DuplicateName___init__ : PySem.W.keepIn K (.ref f_DuplicateName___init__) = true)
    (i_DuplicateName___init__ : PySem.W.isFn K (.ref f_DuplicateName___init__) = true)
    {od_UnknownName___init__ an_UnknownName___init__ : Option Addr} {sl_UnknownName___init__ : Array (Option Value)} {oc_UnknownName___init__ kV_UnknownName___init__ dc_UnknownName___init__ pm_UnknownName___init__ cd_UnknownName___init__ ct_UnknownName___init__ : Value}
    (a_UnknownName___init__ : PySem.W.findIn K (.ref c_UnknownName) "__init__" = some (some (.ref f_UnknownName___init__)))
    (l_UnknownName___init__ : K.lookup f_UnknownName___init__ = some ⟨oc_UnknownName___init__, od_UnknownName___init__, .func (PySem.W.fnOf "__init__" "UnknownName.__init__" (defArgs s_UnknownName___init__) (defBody s_UnknownName___init__) (defScope s_UnknownName___init__) .none kV_UnknownName___init__ dc_UnknownName___init__ pm_UnknownName___init__ an_UnknownName___init__ cd_UnknownName___init__ ct_UnknownName___init__), sl_UnknownName___init__⟩) (e_UnknownName___init__ : PySem.W.codeIn K cd_UnknownName___init__ "UnknownName.__init__" = true) (k_UnknownName___init__ : PySem.W.keepIn K (.ref f_UnknownName___init__) = true)
    (i_UnknownName___init__ : PySem.W.isFn K (.ref f_UnknownName___init__) = true)
    {od_WrongArguments___init__ an_WrongArguments___init__ : Option Addr} {sl_WrongArguments___init__ : Array (Option Value)} {oc_WrongArguments___init__ kV_WrongArguments___init__ dc_WrongArguments___init__ pm_WrongArguments___init__ cd_WrongArguments___init__ ct_WrongArguments___init__ : Value}
    (a_WrongArguments___init__ : PySem.W.findIn K (.ref c_WrongArguments) "__init__" = some (some (.ref f_WrongArguments___init__)))
    (l_WrongArguments___init__ : K.lookup f_WrongArguments___init__ = some ⟨oc_WrongArguments___init__, od_WrongArguments___init__, .func (PySem.W.fnOf "__init__" "WrongArguments.__init__" (defArgs s_WrongArguments___init__) (defBody s_WrongArguments___init__) (defScope s_WrongArguments___init__) .none kV_WrongArguments___init__ dc_WrongArguments___init__ pm_WrongArguments___init__ an_WrongArguments___init__ cd_WrongArguments___init__ ct_WrongArguments___init__), sl_WrongArguments___init__⟩) (e_WrongArguments___init__ : PySem.W.codeIn K cd_WrongArguments___init__ "WrongArguments.__init__" = true) (k_WrongArguments___init__ : PySem.W.keepIn K (.ref f_WrongArguments___init__) = true)
    (i_WrongArguments___init__ : PySem.W.isFn K (.ref f_WrongArguments___init__) = true)
    {od_InvalidFinally___init__ an_InvalidFinally___init__ : Option Addr} {sl_InvalidFinally___init__ : Array (Option Value)} {oc_InvalidFinally___init__ kV_InvalidFinally___init__ dc_InvalidFinally___init__ pm_InvalidFinally___init__ cd_InvalidFinally___init__ ct_InvalidFinally___init__ : Value}
    (a_InvalidFinally___init__ : PySem.W.findIn K (.ref c_InvalidFinally) "__init__" = some (some (.ref f_InvalidFinally___init__)))
    (l_InvalidFinally___init__ : K.lookup f_InvalidFinally___init__ = some ⟨oc_InvalidFinally___init__, od_InvalidFinally___init__, .func (PySem.W.fnOf "__init__" "InvalidFinally.__init__" (defArgs s_InvalidFinally___init__) (defBody s_InvalidFinally___init__) (defScope s_InvalidFinally___init__) .none kV_InvalidFinally___init__ dc_InvalidFinally___init__ pm_InvalidFinally___init__ an_InvalidFinally___init__ cd_InvalidFinally___init__ ct_InvalidFinally___init__), sl_InvalidFinally___init__⟩) (e_InvalidFinally___init__ : PySem.W.codeIn K cd_InvalidFinally___init__ "InvalidFinally.__init__" = true) (k_InvalidFinally___init__ : PySem.W.keepIn K (.ref f_InvalidFinally___init__) = true)
    (i_InvalidFinally___init__ : PySem.W.isFn K (.ref f_InvalidFinally___init__) = true)
    {od_TooLarge___init__ an_TooLarge___init__ : Option Addr} {sl_TooLarge___init__ : Array (Option Value)} {oc_TooLarge___init__ kV_TooLarge___init__ dc_TooLarge___init__ pm_TooLarge___init__ cd_TooLarge___init__ ct_TooLarge___init__ : Value}
    (a_TooLarge___init__ : PySem.W.findIn K (.ref c_TooLarge) "__init__" = some (some (.ref f_TooLarge___init__)))
    (l_TooLarge___init__ : K.lookup f_TooLarge___init__ = some ⟨oc_TooLarge___init__, od_TooLarge___init__, .func (PySem.W.fnOf "__init__" "TooLarge.__init__" (defArgs s_TooLarge___init__) (defBody s_TooLarge___init__) (defScope s_TooLarge___init__) .none kV_TooLarge___init__ dc_TooLarge___init__ pm_TooLarge___init__ an_TooLarge___init__ cd_TooLarge___init__ ct_TooLarge___init__), sl_TooLarge___init__⟩) (e_TooLarge___init__ : PySem.W.codeIn K cd_TooLarge___init__ "TooLarge.__init__" = true) (k_TooLarge___init__ : PySem.W.keepIn K (.ref f_TooLarge___init__) = true)
    (i_TooLarge___init__ : PySem.W.isFn K (.ref f_TooLarge___init__) = true)
    {od_InvalidRow___init__ an_InvalidRow___init__ : Option Addr} {sl_InvalidRow___init__ : Array (Option Value)} {oc_InvalidRow___init__ kV_InvalidRow___init__ dc_InvalidRow___init__ pm_InvalidRow___init__ cd_InvalidRow___init__ ct_InvalidRow___init__ : Value}
    (a_InvalidRow___init__ : PySem.W.findIn K (.ref c_InvalidRow) "__init__" = some (some (.ref f_InvalidRow___init__)))
    (l_InvalidRow___init__ : K.lookup f_InvalidRow___init__ = some ⟨oc_InvalidRow___init__, od_InvalidRow___init__, .func (PySem.W.fnOf "__init__" "InvalidRow.__init__" (defArgs s_InvalidRow___init__) (defBody s_InvalidRow___init__) (defScope s_InvalidRow___init__) .none kV_InvalidRow___init__ dc_InvalidRow___init__ pm_InvalidRow___init__ an_InvalidRow___init__ cd_InvalidRow___init__ ct_InvalidRow___init__), sl_InvalidRow___init__⟩) (e_InvalidRow___init__ : PySem.W.codeIn K cd_InvalidRow___init__ "InvalidRow.__init__" = true) (k_InvalidRow___init__ : PySem.W.keepIn K (.ref f_InvalidRow___init__) = true)
    (i_InvalidRow___init__ : PySem.W.isFn K (.ref f_InvalidRow___init__) = true)
    {od_InvalidCase___init__ an_InvalidCase___init__ : Option Addr} {sl_InvalidCase___init__ : Array (Option Value)} {oc_InvalidCase___init__ kV_InvalidCase___init__ dc_InvalidCase___init__ pm_InvalidCase___init__ cd_InvalidCase___init__ ct_InvalidCase___init__ : Value}
    (a_InvalidCase___init__ : PySem.W.findIn K (.ref c_InvalidCase) "__init__" = some (some (.ref f_InvalidCase___init__)))
    (l_InvalidCase___init__ : K.lookup f_InvalidCase___init__ = some ⟨oc_InvalidCase___init__, od_InvalidCase___init__, .func (PySem.W.fnOf "__init__" "InvalidCase.__init__" (defArgs s_InvalidCase___init__) (defBody s_InvalidCase___init__) (defScope s_InvalidCase___init__) .none kV_InvalidCase___init__ dc_InvalidCase___init__ pm_InvalidCase___init__ an_InvalidCase___init__ cd_InvalidCase___init__ ct_InvalidCase___init__), sl_InvalidCase___init__⟩) (e_InvalidCase___init__ : PySem.W.codeIn K cd_InvalidCase___init__ "InvalidCase.__init__" = true) (k_InvalidCase___init__ : PySem.W.keepIn K (.ref f_InvalidCase___init__) = true)
    (i_InvalidCase___init__ : PySem.W.isFn K (.ref f_InvalidCase___init__) = true)
    {od_InvalidEntry___init__ an_InvalidEntry___init__ : Option Addr} {sl_InvalidEntry___init__ : Array (Option Value)} {oc_InvalidEntry___init__ kV_InvalidEntry___init__ dc_InvalidEntry___init__ pm_InvalidEntry___init__ cd_InvalidEntry___init__ ct_InvalidEntry___init__ : Value}
    (a_InvalidEntry___init__ : PySem.W.findIn K (.ref c_InvalidEntry) "__init__" = some (some (.ref f_InvalidEntry___init__)))
    (l_InvalidEntry___init__ : K.lookup f_InvalidEntry___init__ = some ⟨oc_InvalidEntry___init__, od_InvalidEntry___init__, .func (PySem.W.fnOf "__init__" "InvalidEntry.__init__" (defArgs s_InvalidEntry___init__) (defBody s_InvalidEntry___init__) (defScope s_InvalidEntry___init__) .none kV_InvalidEntry___init__ dc_InvalidEntry___init__ pm_InvalidEntry___init__ an_InvalidEntry___init__ cd_InvalidEntry___init__ ct_InvalidEntry___init__), sl_InvalidEntry___init__⟩) (e_InvalidEntry___init__ : PySem.W.codeIn K cd_InvalidEntry___init__ "InvalidEntry.__init__" = true) (k_InvalidEntry___init__ : PySem.W.keepIn K (.ref f_InvalidEntry___init__) = true)
    (i_InvalidEntry___init__ : PySem.W.isFn K (.ref f_InvalidEntry___init__) = true)
    {od_InvalidChoices___init__ an_InvalidChoices___init__ : Option Addr} {sl_InvalidChoices___init__ : Array (Option Value)} {oc_InvalidChoices___init__ kV_InvalidChoices___init__ dc_InvalidChoices___init__ pm_InvalidChoices___init__ cd_InvalidChoices___init__ ct_InvalidChoices___init__ : Value}
    (a_InvalidChoices___init__ : PySem.W.findIn K (.ref c_InvalidChoices) "__init__" = some (some (.ref f_InvalidChoices___init__)))
    (l_InvalidChoices___init__ : K.lookup f_InvalidChoices___init__ = some ⟨oc_InvalidChoices___init__, od_InvalidChoices___init__, .func (PySem.W.fnOf "__init__" "InvalidChoices.__init__" (defArgs s_InvalidChoices___init__) (defBody s_InvalidChoices___init__) (defScope s_InvalidChoices___init__) .none kV_InvalidChoices___init__ dc_InvalidChoices___init__ pm_InvalidChoices___init__ an_InvalidChoices___init__ cd_InvalidChoices___init__ ct_InvalidChoices___init__), sl_InvalidChoices___init__⟩) (e_InvalidChoices___init__ : PySem.W.codeIn K cd_InvalidChoices___init__ "InvalidChoices.__init__" = true) (k_InvalidChoices___init__ : PySem.W.keepIn K (.ref f_InvalidChoices___init__) = true)
    (i_InvalidChoices___init__ : PySem.W.isFn K (.ref f_InvalidChoices___init__) = true)
    {od_InvalidInjection___init__ an_InvalidInjection___init__ : Option Addr} {sl_InvalidInjection___init__ : Array (Option Value)} {oc_InvalidInjection___init__ kV_InvalidInjection___init__ dc_InvalidInjection___init__ pm_InvalidInjection___init__ cd_InvalidInjection___init__ ct_InvalidInjection___init__ : Value}
    (a_InvalidInjection___init__ : PySem.W.findIn K (.ref c_InvalidInjection) "__init__" = some (some (.ref f_InvalidInjection___init__)))
    (l_InvalidInjection___init__ : K.lookup f_InvalidInjection___init__ = some ⟨oc_InvalidInjection___init__, od_InvalidInjection___init__, .func (PySem.W.fnOf "__init__" "InvalidInjection.__init__" (defArgs s_InvalidInjection___init__) (defBody s_InvalidInjection___init__) (defScope s_InvalidInjection___init__) .none kV_InvalidInjection___init__ dc_InvalidInjection___init__ pm_InvalidInjection___init__ an_InvalidInjection___init__ cd_InvalidInjection___init__ ct_InvalidInjection___init__), sl_InvalidInjection___init__⟩) (e_InvalidInjection___init__ : PySem.W.codeIn K cd_InvalidInjection___init__ "InvalidInjection.__init__" = true) (k_InvalidInjection___init__ : PySem.W.keepIn K (.ref f_InvalidInjection___init__) = true)
    (i_InvalidInjection___init__ : PySem.W.isFn K (.ref f_InvalidInjection___init__) = true)
    {od_InvalidOrder___init__ an_InvalidOrder___init__ : Option Addr} {sl_InvalidOrder___init__ : Array (Option Value)} {oc_InvalidOrder___init__ kV_InvalidOrder___init__ dc_InvalidOrder___init__ pm_InvalidOrder___init__ cd_InvalidOrder___init__ ct_InvalidOrder___init__ : Value}
    (a_InvalidOrder___init__ : PySem.W.findIn K (.ref c_InvalidOrder) "__init__" = some (some (.ref f_InvalidOrder___init__)))
    (l_InvalidOrder___init__ : K.lookup f_InvalidOrder___init__ = some ⟨oc_InvalidOrder___init__, od_InvalidOrder___init__, .func (PySem.W.fnOf "__init__" "InvalidOrder.__init__" (defArgs s_InvalidOrder___init__) (defBody s_InvalidOrder___init__) (defScope s_InvalidOrder___init__) .none kV_InvalidOrder___init__ dc_InvalidOrder___init__ pm_InvalidOrder___init__ an_InvalidOrder___init__ cd_InvalidOrder___init__ ct_InvalidOrder___init__), sl_InvalidOrder___init__⟩) (e_InvalidOrder___init__ : PySem.W.codeIn K cd_InvalidOrder___init__ "InvalidOrder.__init__" = true) (k_InvalidOrder___init__ : PySem.W.keepIn K (.ref f_InvalidOrder___init__) = true)
    (i_InvalidOrder___init__ : PySem.W.isFn K (.ref f_InvalidOrder___init__) = true)
    {od_InvalidEvent___init__ an_InvalidEvent___init__ : Option Addr} {sl_InvalidEvent___init__ : Array (Option Value)} {oc_InvalidEvent___init__ kV_InvalidEvent___init__ dc_InvalidEvent___init__ pm_InvalidEvent___init__ cd_InvalidEvent___init__ ct_InvalidEvent___init__ : Value}
    (a_InvalidEvent___init__ : PySem.W.findIn K (.ref c_InvalidEvent) "__init__" = some (some (.ref f_InvalidEvent___init__)))
    (l_InvalidEvent___init__ : K.lookup f_InvalidEvent___init__ = some ⟨oc_InvalidEvent___init__, od_InvalidEvent___init__, .func (PySem.W.fnOf "__init__" "InvalidEvent.__init__" (defArgs s_InvalidEvent___init__) (defBody s_InvalidEvent___init__) (defScope s_InvalidEvent___init__) .none kV_InvalidEvent___init__ dc_InvalidEvent___init__ pm_InvalidEvent___init__ an_InvalidEvent___init__ cd_InvalidEvent___init__ ct_InvalidEvent___init__), sl_InvalidEvent___init__⟩) (e_InvalidEvent___init__ : PySem.W.codeIn K cd_InvalidEvent___init__ "InvalidEvent.__init__" = true) (k_InvalidEvent___init__ : PySem.W.keepIn K (.ref f_InvalidEvent___init__) = true)
    (i_InvalidEvent___init__ : PySem.W.isFn K (.ref f_InvalidEvent___init__) = true)
    {od_InvalidValues___init__ an_InvalidValues___init__ : Option Addr} {sl_InvalidValues___init__ : Array (Option Value)} {oc_InvalidValues___init__ kV_InvalidValues___init__ dc_InvalidValues___init__ pm_InvalidValues___init__ cd_InvalidValues___init__ ct_InvalidValues___init__ : Value}
    (a_InvalidValues___init__ : PySem.W.findIn K (.ref c_InvalidValues) "__init__" = some (some (.ref f_InvalidValues___init__)))
    (l_InvalidValues___init__ : K.lookup f_InvalidValues___init__ = some ⟨oc_InvalidValues___init__, od_InvalidValues___init__, .func (PySem.W.fnOf "__init__" "InvalidValues.__init__" (defArgs s_InvalidValues___init__) (defBody s_InvalidValues___init__) (defScope s_InvalidValues___init__) .none kV_InvalidValues___init__ dc_InvalidValues___init__ pm_InvalidValues___init__ an_InvalidValues___init__ cd_InvalidValues___init__ ct_InvalidValues___init__), sl_InvalidValues___init__⟩) (e_InvalidValues___init__ : PySem.W.codeIn K cd_InvalidValues___init__ "InvalidValues.__init__" = true) (k_InvalidValues___init__ : PySem.W.keepIn K (.ref f_InvalidValues___init__) = true)
    (i_InvalidValues___init__ : PySem.W.isFn K (.ref f_InvalidValues___init__) = true)
    {od_InvalidQuestion___init__ an_InvalidQuestion___init__ : Option Addr} {sl_InvalidQuestion___init__ : Array (Option Value)} {oc_InvalidQuestion___init__ kV_InvalidQuestion___init__ dc_InvalidQuestion___init__ pm_InvalidQuestion___init__ cd_InvalidQuestion___init__ ct_InvalidQuestion___init__ : Value}
    (a_InvalidQuestion___init__ : PySem.W.findIn K (.ref c_InvalidQuestion) "__init__" = some (some (.ref f_InvalidQuestion___init__)))
    (l_InvalidQuestion___init__ : K.lookup f_InvalidQuestion___init__ = some ⟨oc_InvalidQuestion___init__, od_InvalidQuestion___init__, .func (PySem.W.fnOf "__init__" "InvalidQuestion.__init__" (defArgs s_InvalidQuestion___init__) (defBody s_InvalidQuestion___init__) (defScope s_InvalidQuestion___init__) .none kV_InvalidQuestion___init__ dc_InvalidQuestion___init__ pm_InvalidQuestion___init__ an_InvalidQuestion___init__ cd_InvalidQuestion___init__ ct_InvalidQuestion___init__), sl_InvalidQuestion___init__⟩) (e_InvalidQuestion___init__ : PySem.W.codeIn K cd_InvalidQuestion___init__ "InvalidQuestion.__init__" = true) (k_InvalidQuestion___init__ : PySem.W.keepIn K (.ref f_InvalidQuestion___init__) = true)
    (i_InvalidQuestion___init__ : PySem.W.isFn K (.ref f_InvalidQuestion___init__) = true)
    {od_InvalidCommand___init__ an_InvalidCommand___init__ : Option Addr} {sl_InvalidCommand___init__ : Array (Option Value)} {oc_InvalidCommand___init__ kV_InvalidCommand___init__ dc_InvalidCommand___init__ pm_InvalidCommand___init__ cd_InvalidCommand___init__ ct_InvalidCommand___init__ : Value}
    (a_InvalidCommand___init__ : PySem.W.findIn K (.ref c_InvalidCommand) "__init__" = some (some (.ref f_InvalidCommand___init__)))
    (l_InvalidCommand___init__ : K.lookup f_InvalidCommand___init__ = some ⟨oc_InvalidCommand___init__, od_InvalidCommand___init__, .func (PySem.W.fnOf "__init__" "InvalidCommand.__init__" (defArgs s_InvalidCommand___init__) (defBody s_InvalidCommand___init__) (defScope s_InvalidCommand___init__) .none kV_InvalidCommand___init__ dc_InvalidCommand___init__ pm_InvalidCommand___init__ an_InvalidCommand___init__ cd_InvalidCommand___init__ ct_InvalidCommand___init__), sl_InvalidCommand___init__⟩) (e_InvalidCommand___init__ : PySem.W.codeIn K cd_InvalidCommand___init__ "InvalidCommand.__init__" = true) (k_InvalidCommand___init__ : PySem.W.keepIn K (.ref f_InvalidCommand___init__) = true)
    (i_InvalidCommand___init__ : PySem.W.isFn K (.ref f_InvalidCommand___init__) = true)
    {od_UnknownFunction___init__ an_UnknownFunction___init__ : Option Addr} {sl_UnknownFunction___init__ : Array (Option Value)} {oc_UnknownFunction___init__ kV_UnknownFunction___init__ dc_UnknownFunction___init__ pm_UnknownFunction___init__ cd_UnknownFunction___init__ ct_UnknownFunction___init__ : Value}
    (a_UnknownFunction___init__ : PySem.W.findIn K (.ref c_UnknownFunction) "__init__" = some (some (.ref f_UnknownFunction___init__)))
    (l_UnknownFunction___init__ : K.lookup f_UnknownFunction___init__ = some ⟨oc_UnknownFunction___init__, od_UnknownFunction___init__, .func (PySem.W.fnOf "__init__" "UnknownFunction.__init__" (defArgs s_UnknownFunction___init__) (defBody s_UnknownFunction___init__) (defScope s_UnknownFunction___init__) .none kV_UnknownFunction___init__ dc_UnknownFunction___init__ pm_UnknownFunction___init__ an_UnknownFunction___init__ cd_UnknownFunction___init__ ct_UnknownFunction___init__), sl_UnknownFunction___init__⟩) (e_UnknownFunction___init__ : PySem.W.codeIn K cd_UnknownFunction___init__ "UnknownFunction.__init__" = true) (k_UnknownFunction___init__ : PySem.W.keepIn K (.ref f_UnknownFunction___init__) = true)
    (i_UnknownFunction___init__ : PySem.W.isFn K (.ref f_UnknownFunction___init__) = true)
    {od_LimitExceeded___init__ an_LimitExceeded___init__ : Option Addr} {sl_LimitExceeded___init__ : Array (Option Value)} {oc_LimitExceeded___init__ kV_LimitExceeded___init__ dc_LimitExceeded___init__ pm_LimitExceeded___init__ cd_LimitExceeded___init__ ct_LimitExceeded___init__ : Value}
    (a_LimitExceeded___init__ : PySem.W.findIn K (.ref c_LimitExceeded) "__init__" = some (some (.ref f_LimitExceeded___init__)))
    (l_LimitExceeded___init__ : K.lookup f_LimitExceeded___init__ = some ⟨oc_LimitExceeded___init__, od_LimitExceeded___init__, .func (PySem.W.fnOf "__init__" "LimitExceeded.__init__" (defArgs s_LimitExceeded___init__) (defBody s_LimitExceeded___init__) (defScope s_LimitExceeded___init__) .none kV_LimitExceeded___init__ dc_LimitExceeded___init__ pm_LimitExceeded___init__ an_LimitExceeded___init__ cd_LimitExceeded___init__ ct_LimitExceeded___init__), sl_LimitExceeded___init__⟩) (e_LimitExceeded___init__ : PySem.W.codeIn K cd_LimitExceeded___init__ "LimitExceeded.__init__" = true) (k_LimitExceeded___init__ : PySem.W.keepIn K (.ref f_LimitExceeded___init__) = true)
    (i_LimitExceeded___init__ : PySem.W.isFn K (.ref f_LimitExceeded___init__) = true)
    {od__law_pool an__law_pool : Option Addr} {sl__law_pool : Array (Option Value)} {oc__law_pool kV__law_pool dc__law_pool pm__law_pool cd__law_pool ct__law_pool : Value}
    (a__law_pool : PySem.W.nsIn K mainGlobals "_law_pool" = some (some (.ref f__law_pool)))
    (l__law_pool : K.lookup f__law_pool = some ⟨oc__law_pool, od__law_pool, .func (PySem.W.fnOf "_law_pool" "_law_pool" (defArgs s__law_pool) (defBody s__law_pool) (defScope s__law_pool) .none kV__law_pool dc__law_pool pm__law_pool an__law_pool cd__law_pool ct__law_pool), sl__law_pool⟩) (e__law_pool : PySem.W.codeIn K cd__law_pool "_law_pool" = true) (k__law_pool : PySem.W.keepIn K (.ref f__law_pool) = true)
    {od__law_mixed an__law_mixed : Option Addr} {sl__law_mixed : Array (Option Value)} {oc__law_mixed kV__law_mixed dc__law_mixed pm__law_mixed cd__law_mixed ct__law_mixed : Value}
    (a__law_mixed : PySem.W.nsIn K mainGlobals "_law_mixed" = some (some (.ref f__law_mixed)))
    (l__law_mixed : K.lookup f__law_mixed = some ⟨oc__law_mixed, od__law_mixed, .func (PySem.W.fnOf "_law_mixed" "_law_mixed" (defArgs s__law_mixed) (defBody s__law_mixed) (defScope s__law_mixed) .none kV__law_mixed dc__law_mixed pm__law_mixed an__law_mixed cd__law_mixed ct__law_mixed), sl__law_mixed⟩) (e__law_mixed : PySem.W.codeIn K cd__law_mixed "_law_mixed" = true) (k__law_mixed : PySem.W.keepIn K (.ref f__law_mixed) = true)
    {od__law_draw an__law_draw : Option Addr} {sl__law_draw : Array (Option Value)} {oc__law_draw kV__law_draw dc__law_draw pm__law_draw cd__law_draw ct__law_draw : Value}
    (a__law_draw : PySem.W.nsIn K mainGlobals "_law_draw" = some (some (.ref f__law_draw)))
    (l__law_draw : K.lookup f__law_draw = some ⟨oc__law_draw, od__law_draw, .func (PySem.W.fnOf "_law_draw" "_law_draw" (defArgs s__law_draw) (defBody s__law_draw) (defScope s__law_draw) .none kV__law_draw dc__law_draw pm__law_draw an__law_draw cd__law_draw ct__law_draw), sl__law_draw⟩) (e__law_draw : PySem.W.codeIn K cd__law_draw "_law_draw" = true) (k__law_draw : PySem.W.keepIn K (.ref f__law_draw) = true)
    {od__law_first an__law_first : Option Addr} {sl__law_first : Array (Option Value)} {oc__law_first kV__law_first dc__law_first pm__law_first cd__law_first ct__law_first : Value}
    (a__law_first : PySem.W.nsIn K mainGlobals "_law_first" = some (some (.ref f__law_first)))
    (l__law_first : K.lookup f__law_first = some ⟨oc__law_first, od__law_first, .func (PySem.W.fnOf "_law_first" "_law_first" (defArgs s__law_first) (defBody s__law_first) (defScope s__law_first) .none kV__law_first dc__law_first pm__law_first an__law_first cd__law_first ct__law_first), sl__law_first⟩) (e__law_first : PySem.W.codeIn K cd__law_first "_law_first" = true) (k__law_first : PySem.W.keepIn K (.ref f__law_first) = true)
    {od__law_second an__law_second : Option Addr} {sl__law_second : Array (Option Value)} {oc__law_second kV__law_second dc__law_second pm__law_second cd__law_second ct__law_second : Value}
    (a__law_second : PySem.W.nsIn K mainGlobals "_law_second" = some (some (.ref f__law_second)))
    (l__law_second : K.lookup f__law_second = some ⟨oc__law_second, od__law_second, .func (PySem.W.fnOf "_law_second" "_law_second" (defArgs s__law_second) (defBody s__law_second) (defScope s__law_second) .none kV__law_second dc__law_second pm__law_second an__law_second cd__law_second ct__law_second), sl__law_second⟩) (e__law_second : PySem.W.codeIn K cd__law_second "_law_second" = true) (k__law_second : PySem.W.keepIn K (.ref f__law_second) = true)
    {od__law_kinds an__law_kinds : Option Addr} {sl__law_kinds : Array (Option Value)} {oc__law_kinds kV__law_kinds dc__law_kinds pm__law_kinds cd__law_kinds ct__law_kinds : Value}
    (a__law_kinds : PySem.W.nsIn K mainGlobals "_law_kinds" = some (some (.ref f__law_kinds)))
    (l__law_kinds : K.lookup f__law_kinds = some ⟨oc__law_kinds, od__law_kinds, .func (PySem.W.fnOf "_law_kinds" "_law_kinds" (defArgs s__law_kinds) (defBody s__law_kinds) (defScope s__law_kinds) .none kV__law_kinds dc__law_kinds pm__law_kinds an__law_kinds cd__law_kinds ct__law_kinds), sl__law_kinds⟩) (e__law_kinds : PySem.W.codeIn K cd__law_kinds "_law_kinds" = true) (k__law_kinds : PySem.W.keepIn K (.ref f__law_kinds) = true)
    {od__law_field an__law_field : Option Addr} {sl__law_field : Array (Option Value)} {oc__law_field kV__law_field dc__law_field pm__law_field cd__law_field ct__law_field : Value}
    (a__law_field : PySem.W.nsIn K mainGlobals "_law_field" = some (some (.ref f__law_field)))
    (l__law_field : K.lookup f__law_field = some ⟨oc__law_field, od__law_field, .func (PySem.W.fnOf "_law_field" "_law_field" (defArgs s__law_field) (defBody s__law_field) (defScope s__law_field) .none kV__law_field dc__law_field pm__law_field an__law_field cd__law_field ct__law_field), sl__law_field⟩) (e__law_field : PySem.W.codeIn K cd__law_field "_law_field" = true) (k__law_field : PySem.W.keepIn K (.ref f__law_field) = true)
    {od_law an_law : Option Addr} {sl_law : Array (Option Value)} {oc_law kV_law dc_law pm_law cd_law ct_law : Value}
    (a_law : PySem.W.nsIn K mainGlobals "law" = some (some (.ref f_law)))
    (l_law : K.lookup f_law = some ⟨oc_law, od_law, .func (PySem.W.fnOf "law" "law" (defArgs s_law) (defBody s_law) (defScope s_law) .none kV_law dc_law pm_law an_law cd_law ct_law), sl_law⟩) (e_law : PySem.W.codeIn K cd_law "law" = true) (k_law : PySem.W.keepIn K (.ref f_law) = true)
    {nm_InvalidText q_InvalidText : Str} {N_InvalidText : Addr} {bs_InvalidText : List Value} {sn_InvalidText : List Str} {sub_InvalidText : List Value} {ab_InvalidText : Bool} {col_InvalidText : Option Bool} {dd_InvalidText : Option Addr} {k0_InvalidText k1_InvalidText k2_InvalidText k3_InvalidText k5_InvalidText : Option Value} (ac_InvalidText : PySem.W.nsIn K mainGlobals "InvalidText" = some (some (.ref c_InvalidText))) (xl_InvalidText : K.lookup c_InvalidText = some (excClassObj nm_InvalidText q_InvalidText c_InvalidText N_InvalidText bs_InvalidText (.ref c_ProgramError :: PySem.HandSPX.veTail) true sn_InvalidText sub_InvalidText ab_InvalidText col_InvalidText dd_InvalidText k0_InvalidText k1_InvalidText k2_InvalidText k3_InvalidText k5_InvalidText "ValueError.__new__"))
    (sa_InvalidText : PySem.W.findIn K (.ref c_InvalidText) "__setattr__" = some (some (.builtin "object.__setattr__"))) (ty_InvalidText : PySem.W.typeIn K (.ref c_InvalidText) = some (.type "type")) (kp_InvalidText : PySem.W.keepIn K (.ref c_InvalidText) = true) (tn_InvalidText : PySem.W.typeIn K (.ref f_InvalidText___init__) = some (.type "function")) (nf_InvalidText : PySem.W.findIn K (.ref c_InvalidText) "value" = some none) (ga_InvalidText : PySem.W.findIn K (.ref c_InvalidText) "__getattribute__" = some (some (.builtin "BaseException.__getattribute__"))) (gg_InvalidText : PySem.W.findIn K (.ref c_InvalidText) "__getattr__" = some none) (ha_InvalidText : PySem.W.findIn K (.ref c_InvalidText) "__class__" = some (some (.builtin "object.__class__")))
    {nm_InvalidSyntax q_InvalidSyntax : Str} {N_InvalidSyntax : Addr} {bs_InvalidSyntax : List Value} {sn_InvalidSyntax : List Str} {sub_InvalidSyntax : List Value} {ab_InvalidSyntax : Bool} {col_InvalidSyntax : Option Bool} {dd_InvalidSyntax : Option Addr} {k0_InvalidSyntax k1_InvalidSyntax k2_InvalidSyntax k3_InvalidSyntax k5_InvalidSyntax : Option Value} (ac_InvalidSyntax : PySem.W.nsIn K mainGlobals "InvalidSyntax" = some (some (.ref c_InvalidSyntax))) (xl_InvalidSyntax : K.lookup c_InvalidSyntax = some (excClassObj nm_InvalidSyntax q_InvalidSyntax c_InvalidSyntax N_InvalidSyntax bs_InvalidSyntax (.ref c_ProgramError :: PySem.HandSPX.veTail) true sn_InvalidSyntax sub_InvalidSyntax ab_InvalidSyntax col_InvalidSyntax dd_InvalidSyntax k0_InvalidSyntax k1_InvalidSyntax k2_InvalidSyntax k3_InvalidSyntax k5_InvalidSyntax "ValueError.__new__"))
    (sa_InvalidSyntax : PySem.W.findIn K (.ref c_InvalidSyntax) "__setattr__" = some (some (.builtin "object.__setattr__"))) (ty_InvalidSyntax : PySem.W.typeIn K (.ref c_InvalidSyntax) = some (.type "type")) (kp_InvalidSyntax : PySem.W.keepIn K (.ref c_InvalidSyntax) = true) (tn_InvalidSyntax : PySem.W.typeIn K (.ref f_InvalidSyntax___init__) = some (.type "function")) (nf_InvalidSyntax : PySem.W.findIn K (.ref c_InvalidSyntax) "position" = some none) (ga_InvalidSyntax : PySem.W.findIn K (.ref c_InvalidSyntax) "__getattribute__" = some (some (.builtin "BaseException.__getattribute__"))) (gg_InvalidSyntax : PySem.W.findIn K (.ref c_InvalidSyntax) "__getattr__" = some none) (ha_InvalidSyntax : PySem.W.findIn K (.ref c_InvalidSyntax) "__class__" = some (some (.builtin "object.__class__")))
    {nm_InvalidTree q_InvalidTree : Str} {N_InvalidTree : Addr} {bs_InvalidTree : List Value} {sn_InvalidTree : List Str} {sub_InvalidTree : List Value} {ab_InvalidTree : Bool} {col_InvalidTree : Option Bool} {dd_InvalidTree : Option Addr} {k0_InvalidTree k1_InvalidTree k2_InvalidTree k3_InvalidTree k5_InvalidTree : Option Value} (ac_InvalidTree : PySem.W.nsIn K mainGlobals "InvalidTree" = some (some (.ref c_InvalidTree))) (xl_InvalidTree : K.lookup c_InvalidTree = some (excClassObj nm_InvalidTree q_InvalidTree c_InvalidTree N_InvalidTree bs_InvalidTree (.ref c_ProgramError :: PySem.HandSPX.veTail) true sn_InvalidTree sub_InvalidTree ab_InvalidTree col_InvalidTree dd_InvalidTree k0_InvalidTree k1_InvalidTree k2_InvalidTree k3_InvalidTree k5_InvalidTree "ValueError.__new__"))
    (sa_InvalidTree : PySem.W.findIn K (.ref c_InvalidTree) "__setattr__" = some (some (.builtin "object.__setattr__"))) (ty_InvalidTree : PySem.W.typeIn K (.ref c_InvalidTree) = some (.type "type")) (kp_InvalidTree : PySem.W.keepIn K (.ref c_InvalidTree) = true) (tn_InvalidTree : PySem.W.typeIn K (.ref f_InvalidTree___init__) = some (.type "function")) (nf_InvalidTree : PySem.W.findIn K (.ref c_InvalidTree) "value" = some none) (ga_InvalidTree : PySem.W.findIn K (.ref c_InvalidTree) "__getattribute__" = some (some (.builtin "BaseException.__getattribute__"))) (gg_InvalidTree : PySem.W.findIn K (.ref c_InvalidTree) "__getattr__" = some none) (ha_InvalidTree : PySem.W.findIn K (.ref c_InvalidTree) "__class__" = some (some (.builtin "object.__class__")))
    {nm_DuplicateName q_DuplicateName : Str} {N_DuplicateName : Addr} {bs_DuplicateName : List Value} {sn_DuplicateName : List Str} {sub_DuplicateName : List Value} {ab_DuplicateName : Bool} {col_DuplicateName : Option Bool} {dd_DuplicateName : Option Addr} {k0_DuplicateName k1_DuplicateName k2_DuplicateName k3_DuplicateName k5_DuplicateName : Option Value} (ac_DuplicateName : PySem.W.nsIn K mainGlobals "DuplicateName" = some (some (.ref c_DuplicateName))) (xl_DuplicateName : K.lookup c_DuplicateName = some (excClassObj nm_DuplicateName q_DuplicateName c_DuplicateName N_DuplicateName bs_DuplicateName (.ref c_ProgramError :: PySem.HandSPX.veTail) true sn_DuplicateName sub_DuplicateName ab_DuplicateName col_DuplicateName dd_DuplicateName k0_DuplicateName k1_DuplicateName k2_DuplicateName k3_DuplicateName k5_DuplicateName "ValueError.__new__"))
    (sa_DuplicateName : PySem.W.findIn K (.ref c_DuplicateName) "__setattr__" = some (some (.builtin "object.__setattr__"))) (ty_DuplicateName : PySem.W.typeIn K (.ref c_DuplicateName) = some (.type "type")) (kp_DuplicateName : PySem.W.keepIn K (.ref c_DuplicateName) = true) (tn_DuplicateName : PySem.W.typeIn K (.ref f_DuplicateName___init__) = some (.type "function")) (nf_DuplicateName : PySem.W.findIn K (.ref c_DuplicateName) "name" = some none) (ga_DuplicateName : PySem.W.findIn K (.ref c_DuplicateName) "__getattribute__" = some (some (.builtin "BaseException.__getattribute__"))) (gg_DuplicateName : PySem.W.findIn K (.ref c_DuplicateName) "__getattr__" = some none) (ha_DuplicateName : PySem.W.findIn K (.ref c_DuplicateName) "__class__" = some (some (.builtin "object.__class__")))
    {nm_UnknownName q_UnknownName : Str} {N_UnknownName : Addr} {bs_UnknownName : List Value} {sn_UnknownName : List Str} {sub_UnknownName : List Value} {ab_UnknownName : Bool} {col_UnknownName : Option Bool} {dd_UnknownName : Option Addr} {k0_UnknownName k1_UnknownName k2_UnknownName k3_UnknownName k5_UnknownName : Option Value} (ac_UnknownName : PySem.W.nsIn K mainGlobals "UnknownName" = some (some (.ref c_UnknownName))) (xl_UnknownName : K.lookup c_UnknownName = some (excClassObj nm_UnknownName q_UnknownName c_UnknownName N_UnknownName bs_UnknownName (.ref c_ProgramError :: PySem.HandSPX.veTail) true sn_UnknownName sub_UnknownName ab_UnknownName col_UnknownName dd_UnknownName k0_UnknownName k1_UnknownName k2_UnknownName k3_UnknownName k5_UnknownName "ValueError.__new__"))
    (sa_UnknownName : PySem.W.findIn K (.ref c_UnknownName) "__setattr__" = some (some (.builtin "object.__setattr__"))) (ty_UnknownName : PySem.W.typeIn K (.ref c_UnknownName) = some (.type "type")) (kp_UnknownName : PySem.W.keepIn K (.ref c_UnknownName) = true) (tn_UnknownName : PySem.W.typeIn K (.ref f_UnknownName___init__) = some (.type "function")) (nf_UnknownName : PySem.W.findIn K (.ref c_UnknownName) "name" = some none) (ga_UnknownName : PySem.W.findIn K (.ref c_UnknownName) "__getattribute__" = some (some (.builtin "BaseException.__getattribute__"))) (gg_UnknownName : PySem.W.findIn K (.ref c_UnknownName) "__getattr__" = some none) (ha_UnknownName : PySem.W.findIn K (.ref c_UnknownName) "__class__" = some (some (.builtin "object.__class__")))
    {nm_WrongArguments q_WrongArguments : Str} {N_WrongArguments : Addr} {bs_WrongArguments : List Value} {sn_WrongArguments : List Str} {sub_WrongArguments : List Value} {ab_WrongArguments : Bool} {col_WrongArguments : Option Bool} {dd_WrongArguments : Option Addr} {k0_WrongArguments k1_WrongArguments k2_WrongArguments k3_WrongArguments k5_WrongArguments : Option Value} (ac_WrongArguments : PySem.W.nsIn K mainGlobals "WrongArguments" = some (some (.ref c_WrongArguments))) (xl_WrongArguments : K.lookup c_WrongArguments = some (excClassObj nm_WrongArguments q_WrongArguments c_WrongArguments N_WrongArguments bs_WrongArguments (.ref c_ProgramError :: PySem.HandSPX.veTail) true sn_WrongArguments sub_WrongArguments ab_WrongArguments col_WrongArguments dd_WrongArguments k0_WrongArguments k1_WrongArguments k2_WrongArguments k3_WrongArguments k5_WrongArguments "ValueError.__new__"))
    (sa_WrongArguments : PySem.W.findIn K (.ref c_WrongArguments) "__setattr__" = some (some (.builtin "object.__setattr__"))) (ty_WrongArguments : PySem.W.typeIn K (.ref c_WrongArguments) = some (.type "type")) (kp_WrongArguments : PySem.W.keepIn K (.ref c_WrongArguments) = true) (tn_WrongArguments : PySem.W.typeIn K (.ref f_WrongArguments___init__) = some (.type "function")) (nf_WrongArguments : PySem.W.findIn K (.ref c_WrongArguments) "place" = some none) (ga_WrongArguments : PySem.W.findIn K (.ref c_WrongArguments) "__getattribute__" = some (some (.builtin "BaseException.__getattribute__"))) (gg_WrongArguments : PySem.W.findIn K (.ref c_WrongArguments) "__getattr__" = some none) (ha_WrongArguments : PySem.W.findIn K (.ref c_WrongArguments) "__class__" = some (some (.builtin "object.__class__")))
    {nm_InvalidFinally q_InvalidFinally : Str} {N_InvalidFinally : Addr} {bs_InvalidFinally : List Value} {sn_InvalidFinally : List Str} {sub_InvalidFinally : List Value} {ab_InvalidFinally : Bool} {col_InvalidFinally : Option Bool} {dd_InvalidFinally : Option Addr} {k0_InvalidFinally k1_InvalidFinally k2_InvalidFinally k3_InvalidFinally k5_InvalidFinally : Option Value} (ac_InvalidFinally : PySem.W.nsIn K mainGlobals "InvalidFinally" = some (some (.ref c_InvalidFinally))) (xl_InvalidFinally : K.lookup c_InvalidFinally = some (excClassObj nm_InvalidFinally q_InvalidFinally c_InvalidFinally N_InvalidFinally bs_InvalidFinally (.ref c_ProgramError :: PySem.HandSPX.veTail) true sn_InvalidFinally sub_InvalidFinally ab_InvalidFinally col_InvalidFinally dd_InvalidFinally k0_InvalidFinally k1_InvalidFinally k2_InvalidFinally k3_InvalidFinally k5_InvalidFinally "ValueError.__new__"))
    (sa_InvalidFinally : PySem.W.findIn K (.ref c_InvalidFinally) "__setattr__" = some (some (.builtin "object.__setattr__"))) (ty_InvalidFinally : PySem.W.typeIn K (.ref c_InvalidFinally) = some (.type "type")) (kp_InvalidFinally : PySem.W.keepIn K (.ref c_InvalidFinally) = true) (tn_InvalidFinally : PySem.W.typeIn K (.ref f_InvalidFinally___init__) = some (.type "function")) (nf_InvalidFinally : PySem.W.findIn K (.ref c_InvalidFinally) "place" = some none) (ga_InvalidFinally : PySem.W.findIn K (.ref c_InvalidFinally) "__getattribute__" = some (some (.builtin "BaseException.__getattribute__"))) (gg_InvalidFinally : PySem.W.findIn K (.ref c_InvalidFinally) "__getattr__" = some none) (ha_InvalidFinally : PySem.W.findIn K (.ref c_InvalidFinally) "__class__" = some (some (.builtin "object.__class__")))
    {nm_TooLarge q_TooLarge : Str} {N_TooLarge : Addr} {bs_TooLarge : List Value} {sn_TooLarge : List Str} {sub_TooLarge : List Value} {ab_TooLarge : Bool} {col_TooLarge : Option Bool} {dd_TooLarge : Option Addr} {k0_TooLarge k1_TooLarge k2_TooLarge k3_TooLarge k5_TooLarge : Option Value} (ac_TooLarge : PySem.W.nsIn K mainGlobals "TooLarge" = some (some (.ref c_TooLarge))) (xl_TooLarge : K.lookup c_TooLarge = some (excClassObj nm_TooLarge q_TooLarge c_TooLarge N_TooLarge bs_TooLarge (.ref c_ProgramError :: PySem.HandSPX.veTail) true sn_TooLarge sub_TooLarge ab_TooLarge col_TooLarge dd_TooLarge k0_TooLarge k1_TooLarge k2_TooLarge k3_TooLarge k5_TooLarge "ValueError.__new__"))
    (sa_TooLarge : PySem.W.findIn K (.ref c_TooLarge) "__setattr__" = some (some (.builtin "object.__setattr__"))) (ty_TooLarge : PySem.W.typeIn K (.ref c_TooLarge) = some (.type "type")) (kp_TooLarge : PySem.W.keepIn K (.ref c_TooLarge) = true) (tn_TooLarge : PySem.W.typeIn K (.ref f_TooLarge___init__) = some (.type "function")) (nf_TooLarge : PySem.W.findIn K (.ref c_TooLarge) "word" = some none) (ga_TooLarge : PySem.W.findIn K (.ref c_TooLarge) "__getattribute__" = some (some (.builtin "BaseException.__getattribute__"))) (gg_TooLarge : PySem.W.findIn K (.ref c_TooLarge) "__getattr__" = some none) (ha_TooLarge : PySem.W.findIn K (.ref c_TooLarge) "__class__" = some (some (.builtin "object.__class__")))
    {nm_InvalidRow q_InvalidRow : Str} {N_InvalidRow : Addr} {bs_InvalidRow : List Value} {sn_InvalidRow : List Str} {sub_InvalidRow : List Value} {ab_InvalidRow : Bool} {col_InvalidRow : Option Bool} {dd_InvalidRow : Option Addr} {k0_InvalidRow k1_InvalidRow k2_InvalidRow k3_InvalidRow k5_InvalidRow : Option Value} (ac_InvalidRow : PySem.W.nsIn K mainGlobals "InvalidRow" = some (some (.ref c_InvalidRow))) (xl_InvalidRow : K.lookup c_InvalidRow = some (excClassObj nm_InvalidRow q_InvalidRow c_InvalidRow N_InvalidRow bs_InvalidRow (.ref c_ProgramError :: PySem.HandSPX.veTail) true sn_InvalidRow sub_InvalidRow ab_InvalidRow col_InvalidRow dd_InvalidRow k0_InvalidRow k1_InvalidRow k2_InvalidRow k3_InvalidRow k5_InvalidRow "ValueError.__new__"))
    (sa_InvalidRow : PySem.W.findIn K (.ref c_InvalidRow) "__setattr__" = some (some (.builtin "object.__setattr__"))) (ty_InvalidRow : PySem.W.typeIn K (.ref c_InvalidRow) = some (.type "type")) (kp_InvalidRow : PySem.W.keepIn K (.ref c_InvalidRow) = true) (tn_InvalidRow : PySem.W.typeIn K (.ref f_InvalidRow___init__) = some (.type "function")) (nf_InvalidRow : PySem.W.findIn K (.ref c_InvalidRow) "value" = some none) (ga_InvalidRow : PySem.W.findIn K (.ref c_InvalidRow) "__getattribute__" = some (some (.builtin "BaseException.__getattribute__"))) (gg_InvalidRow : PySem.W.findIn K (.ref c_InvalidRow) "__getattr__" = some none) (ha_InvalidRow : PySem.W.findIn K (.ref c_InvalidRow) "__class__" = some (some (.builtin "object.__class__")))
    {nm_InvalidCase q_InvalidCase : Str} {N_InvalidCase : Addr} {bs_InvalidCase : List Value} {sn_InvalidCase : List Str} {sub_InvalidCase : List Value} {ab_InvalidCase : Bool} {col_InvalidCase : Option Bool} {dd_InvalidCase : Option Addr} {k0_InvalidCase k1_InvalidCase k2_InvalidCase k3_InvalidCase k5_InvalidCase : Option Value} (ac_InvalidCase : PySem.W.nsIn K mainGlobals "InvalidCase" = some (some (.ref c_InvalidCase))) (xl_InvalidCase : K.lookup c_InvalidCase = some (excClassObj nm_InvalidCase q_InvalidCase c_InvalidCase N_InvalidCase bs_InvalidCase (.ref c_ProgramError :: PySem.HandSPX.veTail) true sn_InvalidCase sub_InvalidCase ab_InvalidCase col_InvalidCase dd_InvalidCase k0_InvalidCase k1_InvalidCase k2_InvalidCase k3_InvalidCase k5_InvalidCase "ValueError.__new__"))
    (sa_InvalidCase : PySem.W.findIn K (.ref c_InvalidCase) "__setattr__" = some (some (.builtin "object.__setattr__"))) (ty_InvalidCase : PySem.W.typeIn K (.ref c_InvalidCase) = some (.type "type")) (kp_InvalidCase : PySem.W.keepIn K (.ref c_InvalidCase) = true) (tn_InvalidCase : PySem.W.typeIn K (.ref f_InvalidCase___init__) = some (.type "function")) (nf_InvalidCase : PySem.W.findIn K (.ref c_InvalidCase) "value" = some none) (ga_InvalidCase : PySem.W.findIn K (.ref c_InvalidCase) "__getattribute__" = some (some (.builtin "BaseException.__getattribute__"))) (gg_InvalidCase : PySem.W.findIn K (.ref c_InvalidCase) "__getattr__" = some none) (ha_InvalidCase : PySem.W.findIn K (.ref c_InvalidCase) "__class__" = some (some (.builtin "object.__class__")))
    {nm_InvalidEntry q_InvalidEntry : Str} {N_InvalidEntry : Addr} {bs_InvalidEntry : List Value} {sn_InvalidEntry : List Str} {sub_InvalidEntry : List Value} {ab_InvalidEntry : Bool} {col_InvalidEntry : Option Bool} {dd_InvalidEntry : Option Addr} {k0_InvalidEntry k1_InvalidEntry k2_InvalidEntry k3_InvalidEntry k5_InvalidEntry : Option Value} (ac_InvalidEntry : PySem.W.nsIn K mainGlobals "InvalidEntry" = some (some (.ref c_InvalidEntry))) (xl_InvalidEntry : K.lookup c_InvalidEntry = some (excClassObj nm_InvalidEntry q_InvalidEntry c_InvalidEntry N_InvalidEntry bs_InvalidEntry (.ref c_ProgramError :: PySem.HandSPX.veTail) true sn_InvalidEntry sub_InvalidEntry ab_InvalidEntry col_InvalidEntry dd_InvalidEntry k0_InvalidEntry k1_InvalidEntry k2_InvalidEntry k3_InvalidEntry k5_InvalidEntry "ValueError.__new__"))
    (sa_InvalidEntry : PySem.W.findIn K (.ref c_InvalidEntry) "__setattr__" = some (some (.builtin "object.__setattr__"))) (ty_InvalidEntry : PySem.W.typeIn K (.ref c_InvalidEntry) = some (.type "type")) (kp_InvalidEntry : PySem.W.keepIn K (.ref c_InvalidEntry) = true) (tn_InvalidEntry : PySem.W.typeIn K (.ref f_InvalidEntry___init__) = some (.type "function")) (nf_InvalidEntry : PySem.W.findIn K (.ref c_InvalidEntry) "value" = some none) (ga_InvalidEntry : PySem.W.findIn K (.ref c_InvalidEntry) "__getattribute__" = some (some (.builtin "BaseException.__getattribute__"))) (gg_InvalidEntry : PySem.W.findIn K (.ref c_InvalidEntry) "__getattr__" = some none) (ha_InvalidEntry : PySem.W.findIn K (.ref c_InvalidEntry) "__class__" = some (some (.builtin "object.__class__")))
    {nm_InvalidChoices q_InvalidChoices : Str} {N_InvalidChoices : Addr} {bs_InvalidChoices : List Value} {sn_InvalidChoices : List Str} {sub_InvalidChoices : List Value} {ab_InvalidChoices : Bool} {col_InvalidChoices : Option Bool} {dd_InvalidChoices : Option Addr} {k0_InvalidChoices k1_InvalidChoices k2_InvalidChoices k3_InvalidChoices k5_InvalidChoices : Option Value} (ac_InvalidChoices : PySem.W.nsIn K mainGlobals "InvalidChoices" = some (some (.ref c_InvalidChoices))) (xl_InvalidChoices : K.lookup c_InvalidChoices = some (excClassObj nm_InvalidChoices q_InvalidChoices c_InvalidChoices N_InvalidChoices bs_InvalidChoices (.ref c_ProgramError :: PySem.HandSPX.veTail) true sn_InvalidChoices sub_InvalidChoices ab_InvalidChoices col_InvalidChoices dd_InvalidChoices k0_InvalidChoices k1_InvalidChoices k2_InvalidChoices k3_InvalidChoices k5_InvalidChoices "ValueError.__new__"))
    (sa_InvalidChoices : PySem.W.findIn K (.ref c_InvalidChoices) "__setattr__" = some (some (.builtin "object.__setattr__"))) (ty_InvalidChoices : PySem.W.typeIn K (.ref c_InvalidChoices) = some (.type "type")) (kp_InvalidChoices : PySem.W.keepIn K (.ref c_InvalidChoices) = true) (tn_InvalidChoices : PySem.W.typeIn K (.ref f_InvalidChoices___init__) = some (.type "function")) (nf_InvalidChoices : PySem.W.findIn K (.ref c_InvalidChoices) "value" = some none) (ga_InvalidChoices : PySem.W.findIn K (.ref c_InvalidChoices) "__getattribute__" = some (some (.builtin "BaseException.__getattribute__"))) (gg_InvalidChoices : PySem.W.findIn K (.ref c_InvalidChoices) "__getattr__" = some none) (ha_InvalidChoices : PySem.W.findIn K (.ref c_InvalidChoices) "__class__" = some (some (.builtin "object.__class__")))
    {nm_InvalidInjection q_InvalidInjection : Str} {N_InvalidInjection : Addr} {bs_InvalidInjection : List Value} {sn_InvalidInjection : List Str} {sub_InvalidInjection : List Value} {ab_InvalidInjection : Bool} {col_InvalidInjection : Option Bool} {dd_InvalidInjection : Option Addr} {k0_InvalidInjection k1_InvalidInjection k2_InvalidInjection k3_InvalidInjection k5_InvalidInjection : Option Value} (ac_InvalidInjection : PySem.W.nsIn K mainGlobals "InvalidInjection" = some (some (.ref c_InvalidInjection))) (xl_InvalidInjection : K.lookup c_InvalidInjection = some (excClassObj nm_InvalidInjection q_InvalidInjection c_InvalidInjection N_InvalidInjection bs_InvalidInjection (.ref c_ProgramError :: PySem.HandSPX.veTail) true sn_InvalidInjection sub_InvalidInjection ab_InvalidInjection col_InvalidInjection dd_InvalidInjection k0_InvalidInjection k1_InvalidInjection k2_InvalidInjection k3_InvalidInjection k5_InvalidInjection "ValueError.__new__"))
    (sa_InvalidInjection : PySem.W.findIn K (.ref c_InvalidInjection) "__setattr__" = some (some (.builtin "object.__setattr__"))) (ty_InvalidInjection : PySem.W.typeIn K (.ref c_InvalidInjection) = some (.type "type")) (kp_InvalidInjection : PySem.W.keepIn K (.ref c_InvalidInjection) = true) (tn_InvalidInjection : PySem.W.typeIn K (.ref f_InvalidInjection___init__) = some (.type "function")) (nf_InvalidInjection : PySem.W.findIn K (.ref c_InvalidInjection) "value" = some none) (ga_InvalidInjection : PySem.W.findIn K (.ref c_InvalidInjection) "__getattribute__" = some (some (.builtin "BaseException.__getattribute__"))) (gg_InvalidInjection : PySem.W.findIn K (.ref c_InvalidInjection) "__getattr__" = some none) (ha_InvalidInjection : PySem.W.findIn K (.ref c_InvalidInjection) "__class__" = some (some (.builtin "object.__class__")))
    {nm_InvalidOrder q_InvalidOrder : Str} {N_InvalidOrder : Addr} {bs_InvalidOrder : List Value} {sn_InvalidOrder : List Str} {sub_InvalidOrder : List Value} {ab_InvalidOrder : Bool} {col_InvalidOrder : Option Bool} {dd_InvalidOrder : Option Addr} {k0_InvalidOrder k1_InvalidOrder k2_InvalidOrder k3_InvalidOrder k5_InvalidOrder : Option Value} (ac_InvalidOrder : PySem.W.nsIn K mainGlobals "InvalidOrder" = some (some (.ref c_InvalidOrder))) (xl_InvalidOrder : K.lookup c_InvalidOrder = some (excClassObj nm_InvalidOrder q_InvalidOrder c_InvalidOrder N_InvalidOrder bs_InvalidOrder (.ref c_ProgramError :: PySem.HandSPX.veTail) true sn_InvalidOrder sub_InvalidOrder ab_InvalidOrder col_InvalidOrder dd_InvalidOrder k0_InvalidOrder k1_InvalidOrder k2_InvalidOrder k3_InvalidOrder k5_InvalidOrder "ValueError.__new__"))
    (sa_InvalidOrder : PySem.W.findIn K (.ref c_InvalidOrder) "__setattr__" = some (some (.builtin "object.__setattr__"))) (ty_InvalidOrder : PySem.W.typeIn K (.ref c_InvalidOrder) = some (.type "type")) (kp_InvalidOrder : PySem.W.keepIn K (.ref c_InvalidOrder) = true) (tn_InvalidOrder : PySem.W.typeIn K (.ref f_InvalidOrder___init__) = some (.type "function")) (nf_InvalidOrder : PySem.W.findIn K (.ref c_InvalidOrder) "value" = some none) (ga_InvalidOrder : PySem.W.findIn K (.ref c_InvalidOrder) "__getattribute__" = some (some (.builtin "BaseException.__getattribute__"))) (gg_InvalidOrder : PySem.W.findIn K (.ref c_InvalidOrder) "__getattr__" = some none) (ha_InvalidOrder : PySem.W.findIn K (.ref c_InvalidOrder) "__class__" = some (some (.builtin "object.__class__")))
    {nm_InvalidEvent q_InvalidEvent : Str} {N_InvalidEvent : Addr} {bs_InvalidEvent : List Value} {sn_InvalidEvent : List Str} {sub_InvalidEvent : List Value} {ab_InvalidEvent : Bool} {col_InvalidEvent : Option Bool} {dd_InvalidEvent : Option Addr} {k0_InvalidEvent k1_InvalidEvent k2_InvalidEvent k3_InvalidEvent k5_InvalidEvent : Option Value} (ac_InvalidEvent : PySem.W.nsIn K mainGlobals "InvalidEvent" = some (some (.ref c_InvalidEvent))) (xl_InvalidEvent : K.lookup c_InvalidEvent = some (excClassObj nm_InvalidEvent q_InvalidEvent c_InvalidEvent N_InvalidEvent bs_InvalidEvent (.ref c_ProgramError :: PySem.HandSPX.veTail) true sn_InvalidEvent sub_InvalidEvent ab_InvalidEvent col_InvalidEvent dd_InvalidEvent k0_InvalidEvent k1_InvalidEvent k2_InvalidEvent k3_InvalidEvent k5_InvalidEvent "ValueError.__new__"))
    (sa_InvalidEvent : PySem.W.findIn K (.ref c_InvalidEvent) "__setattr__" = some (some (.builtin "object.__setattr__"))) (ty_InvalidEvent : PySem.W.typeIn K (.ref c_InvalidEvent) = some (.type "type")) (kp_InvalidEvent : PySem.W.keepIn K (.ref c_InvalidEvent) = true) (tn_InvalidEvent : PySem.W.typeIn K (.ref f_InvalidEvent___init__) = some (.type "function")) (nf_InvalidEvent : PySem.W.findIn K (.ref c_InvalidEvent) "value" = some none) (ga_InvalidEvent : PySem.W.findIn K (.ref c_InvalidEvent) "__getattribute__" = some (some (.builtin "BaseException.__getattribute__"))) (gg_InvalidEvent : PySem.W.findIn K (.ref c_InvalidEvent) "__getattr__" = some none) (ha_InvalidEvent : PySem.W.findIn K (.ref c_InvalidEvent) "__class__" = some (some (.builtin "object.__class__")))
    {nm_InvalidValues q_InvalidValues : Str} {N_InvalidValues : Addr} {bs_InvalidValues : List Value} {sn_InvalidValues : List Str} {sub_InvalidValues : List Value} {ab_InvalidValues : Bool} {col_InvalidValues : Option Bool} {dd_InvalidValues : Option Addr} {k0_InvalidValues k1_InvalidValues k2_InvalidValues k3_InvalidValues k5_InvalidValues : Option Value} (ac_InvalidValues : PySem.W.nsIn K mainGlobals "InvalidValues" = some (some (.ref c_InvalidValues))) (xl_InvalidValues : K.lookup c_InvalidValues = some (excClassObj nm_InvalidValues q_InvalidValues c_InvalidValues N_InvalidValues bs_InvalidValues (.ref c_ProgramError :: PySem.HandSPX.veTail) true sn_InvalidValues sub_InvalidValues ab_InvalidValues col_InvalidValues dd_InvalidValues k0_InvalidValues k1_InvalidValues k2_InvalidValues k3_InvalidValues k5_InvalidValues "ValueError.__new__"))
    (sa_InvalidValues : PySem.W.findIn K (.ref c_InvalidValues) "__setattr__" = some (some (.builtin "object.__setattr__"))) (ty_InvalidValues : PySem.W.typeIn K (.ref c_InvalidValues) = some (.type "type")) (kp_InvalidValues : PySem.W.keepIn K (.ref c_InvalidValues) = true) (tn_InvalidValues : PySem.W.typeIn K (.ref f_InvalidValues___init__) = some (.type "function")) (nf_InvalidValues : PySem.W.findIn K (.ref c_InvalidValues) "value" = some none) (ga_InvalidValues : PySem.W.findIn K (.ref c_InvalidValues) "__getattribute__" = some (some (.builtin "BaseException.__getattribute__"))) (gg_InvalidValues : PySem.W.findIn K (.ref c_InvalidValues) "__getattr__" = some none) (ha_InvalidValues : PySem.W.findIn K (.ref c_InvalidValues) "__class__" = some (some (.builtin "object.__class__")))
    {nm_InvalidQuestion q_InvalidQuestion : Str} {N_InvalidQuestion : Addr} {bs_InvalidQuestion : List Value} {sn_InvalidQuestion : List Str} {sub_InvalidQuestion : List Value} {ab_InvalidQuestion : Bool} {col_InvalidQuestion : Option Bool} {dd_InvalidQuestion : Option Addr} {k0_InvalidQuestion k1_InvalidQuestion k2_InvalidQuestion k3_InvalidQuestion k5_InvalidQuestion : Option Value} (ac_InvalidQuestion : PySem.W.nsIn K mainGlobals "InvalidQuestion" = some (some (.ref c_InvalidQuestion))) (xl_InvalidQuestion : K.lookup c_InvalidQuestion = some (excClassObj nm_InvalidQuestion q_InvalidQuestion c_InvalidQuestion N_InvalidQuestion bs_InvalidQuestion (.ref c_ProgramError :: PySem.HandSPX.veTail) true sn_InvalidQuestion sub_InvalidQuestion ab_InvalidQuestion col_InvalidQuestion dd_InvalidQuestion k0_InvalidQuestion k1_InvalidQuestion k2_InvalidQuestion k3_InvalidQuestion k5_InvalidQuestion "ValueError.__new__"))
    (sa_InvalidQuestion : PySem.W.findIn K (.ref c_InvalidQuestion) "__setattr__" = some (some (.builtin "object.__setattr__"))) (ty_InvalidQuestion : PySem.W.typeIn K (.ref c_InvalidQuestion) = some (.type "type")) (kp_InvalidQuestion : PySem.W.keepIn K (.ref c_InvalidQuestion) = true) (tn_InvalidQuestion : PySem.W.typeIn K (.ref f_InvalidQuestion___init__) = some (.type "function")) (nf_InvalidQuestion : PySem.W.findIn K (.ref c_InvalidQuestion) "position" = some none) (ga_InvalidQuestion : PySem.W.findIn K (.ref c_InvalidQuestion) "__getattribute__" = some (some (.builtin "BaseException.__getattribute__"))) (gg_InvalidQuestion : PySem.W.findIn K (.ref c_InvalidQuestion) "__getattr__" = some none) (ha_InvalidQuestion : PySem.W.findIn K (.ref c_InvalidQuestion) "__class__" = some (some (.builtin "object.__class__")))
    {nm_InvalidCommand q_InvalidCommand : Str} {N_InvalidCommand : Addr} {bs_InvalidCommand : List Value} {sn_InvalidCommand : List Str} {sub_InvalidCommand : List Value} {ab_InvalidCommand : Bool} {col_InvalidCommand : Option Bool} {dd_InvalidCommand : Option Addr} {k0_InvalidCommand k1_InvalidCommand k2_InvalidCommand k3_InvalidCommand k5_InvalidCommand : Option Value} (ac_InvalidCommand : PySem.W.nsIn K mainGlobals "InvalidCommand" = some (some (.ref c_InvalidCommand))) (xl_InvalidCommand : K.lookup c_InvalidCommand = some (excClassObj nm_InvalidCommand q_InvalidCommand c_InvalidCommand N_InvalidCommand bs_InvalidCommand (.ref c_ProgramError :: PySem.HandSPX.veTail) true sn_InvalidCommand sub_InvalidCommand ab_InvalidCommand col_InvalidCommand dd_InvalidCommand k0_InvalidCommand k1_InvalidCommand k2_InvalidCommand k3_InvalidCommand k5_InvalidCommand "ValueError.__new__"))
    (sa_InvalidCommand : PySem.W.findIn K (.ref c_InvalidCommand) "__setattr__" = some (some (.builtin "object.__setattr__"))) (ty_InvalidCommand : PySem.W.typeIn K (.ref c_InvalidCommand) = some (.type "type")) (kp_InvalidCommand : PySem.W.keepIn K (.ref c_InvalidCommand) = true) (tn_InvalidCommand : PySem.W.typeIn K (.ref f_InvalidCommand___init__) = some (.type "function")) (nf_InvalidCommand : PySem.W.findIn K (.ref c_InvalidCommand) "word" = some none) (ga_InvalidCommand : PySem.W.findIn K (.ref c_InvalidCommand) "__getattribute__" = some (some (.builtin "BaseException.__getattribute__"))) (gg_InvalidCommand : PySem.W.findIn K (.ref c_InvalidCommand) "__getattr__" = some none) (ha_InvalidCommand : PySem.W.findIn K (.ref c_InvalidCommand) "__class__" = some (some (.builtin "object.__class__")))
    {nm_UnknownFunction q_UnknownFunction : Str} {N_UnknownFunction : Addr} {bs_UnknownFunction : List Value} {sn_UnknownFunction : List Str} {sub_UnknownFunction : List Value} {ab_UnknownFunction : Bool} {col_UnknownFunction : Option Bool} {dd_UnknownFunction : Option Addr} {k0_UnknownFunction k1_UnknownFunction k2_UnknownFunction k3_UnknownFunction k5_UnknownFunction : Option Value} (ac_UnknownFunction : PySem.W.nsIn K mainGlobals "UnknownFunction" = some (some (.ref c_UnknownFunction))) (xl_UnknownFunction : K.lookup c_UnknownFunction = some (excClassObj nm_UnknownFunction q_UnknownFunction c_UnknownFunction N_UnknownFunction bs_UnknownFunction (PySem.ErrB.tKey) true sn_UnknownFunction sub_UnknownFunction ab_UnknownFunction col_UnknownFunction dd_UnknownFunction k0_UnknownFunction k1_UnknownFunction k2_UnknownFunction k3_UnknownFunction k5_UnknownFunction "LookupError.__new__"))
    (sa_UnknownFunction : PySem.W.findIn K (.ref c_UnknownFunction) "__setattr__" = some (some (.builtin "object.__setattr__"))) (ty_UnknownFunction : PySem.W.typeIn K (.ref c_UnknownFunction) = some (.type "type")) (kp_UnknownFunction : PySem.W.keepIn K (.ref c_UnknownFunction) = true) (tn_UnknownFunction : PySem.W.typeIn K (.ref f_UnknownFunction___init__) = some (.type "function")) (nf_UnknownFunction : PySem.W.findIn K (.ref c_UnknownFunction) "name" = some none) (ga_UnknownFunction : PySem.W.findIn K (.ref c_UnknownFunction) "__getattribute__" = some (some (.builtin "BaseException.__getattribute__"))) (gg_UnknownFunction : PySem.W.findIn K (.ref c_UnknownFunction) "__getattr__" = some none) (ha_UnknownFunction : PySem.W.findIn K (.ref c_UnknownFunction) "__class__" = some (some (.builtin "object.__class__")))
    {nm_LimitExceeded q_LimitExceeded : Str} {N_LimitExceeded : Addr} {bs_LimitExceeded : List Value} {sn_LimitExceeded : List Str} {sub_LimitExceeded : List Value} {ab_LimitExceeded : Bool} {col_LimitExceeded : Option Bool} {dd_LimitExceeded : Option Addr} {k0_LimitExceeded k1_LimitExceeded k2_LimitExceeded k3_LimitExceeded k5_LimitExceeded : Option Value} (ac_LimitExceeded : PySem.W.nsIn K mainGlobals "LimitExceeded" = some (some (.ref c_LimitExceeded))) (xl_LimitExceeded : K.lookup c_LimitExceeded = some (excClassObj nm_LimitExceeded q_LimitExceeded c_LimitExceeded N_LimitExceeded bs_LimitExceeded (PySem.ErrB.tRun) true sn_LimitExceeded sub_LimitExceeded ab_LimitExceeded col_LimitExceeded dd_LimitExceeded k0_LimitExceeded k1_LimitExceeded k2_LimitExceeded k3_LimitExceeded k5_LimitExceeded "RuntimeError.__new__"))
    (sa_LimitExceeded : PySem.W.findIn K (.ref c_LimitExceeded) "__setattr__" = some (some (.builtin "object.__setattr__"))) (ty_LimitExceeded : PySem.W.typeIn K (.ref c_LimitExceeded) = some (.type "type")) (kp_LimitExceeded : PySem.W.keepIn K (.ref c_LimitExceeded) = true) (tn_LimitExceeded : PySem.W.typeIn K (.ref f_LimitExceeded___init__) = some (.type "function")) (nf_LimitExceeded : PySem.W.findIn K (.ref c_LimitExceeded) "word" = some none) (ga_LimitExceeded : PySem.W.findIn K (.ref c_LimitExceeded) "__getattribute__" = some (some (.builtin "BaseException.__getattribute__"))) (gg_LimitExceeded : PySem.W.findIn K (.ref c_LimitExceeded) "__getattr__" = some none) (ha_LimitExceeded : PySem.W.findIn K (.ref c_LimitExceeded) "__class__" = some (some (.builtin "object.__class__")))
    {cd_pe : ClassData} (ac_ProgramError : PySem.W.nsIn K mainGlobals "ProgramError" = some (some (.ref c_ProgramError))) (cl_pe : PySem.W.clsIn K c_ProgramError = some cd_pe) (sb_pe : PySem.W.subIn K (.ref c_ProgramError) (.type "BaseException") = some true) (tp_pe : PySem.W.typeIn K (.ref c_ProgramError) = some (.type "type")) (nd_e : [c_InvalidText, c_InvalidSyntax, c_InvalidTree, c_DuplicateName, c_UnknownName, c_WrongArguments, c_InvalidFinally, c_TooLarge, c_InvalidRow, c_InvalidCase, c_InvalidEntry, c_InvalidChoices, c_InvalidInjection, c_InvalidOrder, c_InvalidEvent, c_InvalidValues, c_InvalidQuestion, c_InvalidCommand, c_UnknownFunction, c_LimitExceeded, c_ProgramError].Nodup)
    (hn_e : PySem.W.specialIn K (.builtin "object.__class__") "__get__" = some (some (.builtin "getset_descriptor.__get__"))) (ht_e : PySem.W.takesIn K (.builtin "object.__class__") = some true)
    (z_int : PySem.W.nsIn K mainGlobals "int" = some none)
    (z_len : PySem.W.nsIn K mainGlobals "len" = some none)
    (z_isinstance : PySem.W.nsIn K mainGlobals "isinstance" = some none)
    (z_range : PySem.W.nsIn K mainGlobals "range" = some none)
    (z_ValueError : PySem.W.nsIn K mainGlobals "ValueError" = some none)
    (z_KeyError : PySem.W.nsIn K mainGlobals "KeyError" = some none)
    (z_RuntimeError : PySem.W.nsIn K mainGlobals "RuntimeError" = some none)
    : ∃ fd : FuncData, (∀ (s : Shared) (v : Value), BindsTo s fd ⟨[v], []⟩ [("_law_script", v)]) ∧ ∀ base : Heap, K.In base → base.Ns mainGlobals mg → FnOk l.prog w K mg base CX0 28 fa fd ["_law_script"] (spLaw K) := by
  have e := hfa.symm.trans (PySem.W.mg_of X G a_law)
  cases e
  have F_InvalidText___init__ := fun_mk (st := s_InvalidText___init__) l_InvalidText___init__ e_InvalidText___init__ k_InvalidText___init__
  have b_InvalidText___init__ := F_InvalidText___init__.binds (ps := ["self", "value"]) fun _ _ _ _ _ _ us hl => match us, hl with | [_, _], _ => rfl
  have F_InvalidSyntax___init__ := fun_mk (st := s_InvalidSyntax___init__) l_InvalidSyntax___init__ e_InvalidSyntax___init__ k_InvalidSyntax___init__
  have b_InvalidSyntax___init__ := F_InvalidSyntax___init__.binds (ps := ["self", "position"]) fun _ _ _ _ _ _ us hl => match us, hl with | [_, _], _ => rfl
  have F_InvalidTree___init__ := fun_mk (st := s_InvalidTree___init__) l_InvalidTree___init__ e_InvalidTree___init__ k_InvalidTree___init__
  have b_InvalidTree___init__ := F_InvalidTree___init__.binds (ps := ["self", "value"]) fun _ _ _ _ _ _ us hl => match us, hl with | [_, _], _ => rfl
  have F_DuplicateName___init__ := fun_mk (st := s_DuplicateName___init__) l_DuplicateName___init__ e_DuplicateName___init__ k_DuplicateName___init__
  have b_DuplicateName___init__ := F_DuplicateName___init__.binds (ps := ["self", "name"]) fun _ _ _ _ _ _ us hl => match us, hl with | [_, _], _ => rfl
  have F_UnknownName___init__ := fun_mk (st := s_UnknownName___init__) l_UnknownName___init__ e_UnknownName___init__ k_UnknownName___init__
  have b_UnknownName___init__ := F_UnknownName___init__.binds (ps := ["self", "name"]) fun _ _ _ _ _ _ us hl => match us, hl with | [_, _], _ => rfl
  have F_WrongArguments___init__ := fun_mk (st := s_WrongArguments___init__) l_WrongArguments___init__ e_WrongArguments___init__ k_WrongArguments___init__
  have b_WrongArguments___init__ := F_WrongArguments___init__.binds (ps := ["self", "place"]) fun _ _ _ _ _ _ us hl => match us, hl with | [_, _], _ => rfl
  have F_InvalidFinally___init__ := fun_mk (st := s_InvalidFinally___init__) l_InvalidFinally___init__ e_InvalidFinally___init__ k_InvalidFinally___init__
  have b_InvalidFinally___init__ := F_InvalidFinally___init__.binds (ps := ["self", "place"]) fun _ _ _ _ _ _ us hl => match us, hl with | [_, _], _ => rfl
  have F_TooLarge___init__ := fun_mk (st := s_TooLarge___init__) l_TooLarge___init__ e_TooLarge___init__ k_TooLarge___init__
  have b_TooLarge___init__ := F_TooLarge___init__.binds (ps := ["self", "word"]) fun _ _ _ _ _ _ us hl => match us, hl with | [_, _], _ => rfl
  have F_InvalidRow___init__ := fun_mk (st := s_InvalidRow___init__) l_InvalidRow___init__ e_InvalidRow___init__ k_InvalidRow___init__
  have b_InvalidRow___init__ := F_InvalidRow___init__.binds (ps := ["self", "value"]) fun _ _ _ _ _ _ us hl => match us, hl with | [_, _], _ => rfl
  have F_InvalidCase___init__ := fun_mk (st := s_InvalidCase___init__) l_InvalidCase___init__ e_InvalidCase___init__ k_InvalidCase___init__
  have b_InvalidCase___init__ := F_InvalidCase___init__.binds (ps := ["self", "value"]) fun _ _ _ _ _ _ us hl => match us, hl with | [_, _], _ => rfl
  have F_InvalidEntry___init__ := fun_mk (st := s_InvalidEntry___init__) l_InvalidEntry___init__ e_InvalidEntry___init__ k_InvalidEntry___init__
  have b_InvalidEntry___init__ := F_InvalidEntry___init__.binds (ps := ["self", "value"]) fun _ _ _ _ _ _ us hl => match us, hl with | [_, _], _ => rfl
  have F_InvalidChoices___init__ := fun_mk (st := s_InvalidChoices___init__) l_InvalidChoices___init__ e_InvalidChoices___init__ k_InvalidChoices___init__
  have b_InvalidChoices___init__ := F_InvalidChoices___init__.binds (ps := ["self", "value"]) fun _ _ _ _ _ _ us hl => match us, hl with | [_, _], _ => rfl
  have F_InvalidInjection___init__ := fun_mk (st := s_InvalidInjection___init__) l_InvalidInjection___init__ e_InvalidInjection___init__ k_InvalidInjection___init__
  have b_InvalidInjection___init__ := F_InvalidInjection___init__.binds (ps := ["self", "value"]) fun _ _ _ _ _ _ us hl => match us, hl with | [_, _], _ => rfl
  have F_InvalidOrder___init__ := fun_mk (st := s_InvalidOrder___init__) l_InvalidOrder___init__ e_InvalidOrder___init__ k_InvalidOrder___init__
  have b_InvalidOrder___init__ := F_InvalidOrder___init__.binds (ps := ["self", "value"]) fun _ _ _ _ _ _ us hl => match us, hl with | [_, _], _ => rfl
  have F_InvalidEvent___init__ := fun_mk (st := s_InvalidEvent___init__) l_InvalidEvent___init__ e_InvalidEvent___init__ k_InvalidEvent___init__
  have b_InvalidEvent___init__ := F_InvalidEvent___init__.binds (ps := ["self", "value"]) fun _ _ _ _ _ _ us hl => match us, hl with | [_, _], _ => rfl
  have F_InvalidValues___init__ := fun_mk (st := s_InvalidValues___init__) l_InvalidValues___init__ e_InvalidValues___init__ k_InvalidValues___init__
  have b_InvalidValues___init__ := F_InvalidValues___init__.binds (ps := ["self", "value"]) fun _ _ _ _ _ _ us hl => match us, hl with | [_, _], _ => rfl
  have F_InvalidQuestion___init__ := fun_mk (st := s_InvalidQuestion___init__) l_InvalidQuestion___init__ e_InvalidQuestion___init__ k_InvalidQuestion___init__
  have b_InvalidQuestion___init__ := F_InvalidQuestion___init__.binds (ps := ["self", "position"]) fun _ _ _ _ _ _ us hl => match us, hl with | [_, _], _ => rfl
  have F_InvalidCommand___init__ := fun_mk (st := s_InvalidCommand___init__) l_InvalidCommand___init__ e_InvalidCommand___init__ k_InvalidCommand___init__
  have b_InvalidCommand___init__ := F_InvalidCommand___init__.binds (ps := ["self", "word"]) fun _ _ _ _ _ _ us hl => match us, hl with | [_, _], _ => rfl
  have F_UnknownFunction___init__ := fun_mk (st := s_UnknownFunction___init__) l_UnknownFunction___init__ e_UnknownFunction___init__ k_UnknownFunction___init__
  have b_UnknownFunction___init__ := F_UnknownFunction___init__.binds (ps := ["self", "name"]) fun _ _ _ _ _ _ us hl => match us, hl with | [_, _], _ => rfl
  have F_LimitExceeded___init__ := fun_mk (st := s_LimitExceeded___init__) l_LimitExceeded___init__ e_LimitExceeded___init__ k_LimitExceeded___init__
  have b_LimitExceeded___init__ := F_LimitExceeded___init__.binds (ps := ["self", "word"]) fun _ _ _ _ _ _ us hl => match us, hl with | [_, _], _ => rfl
  have F__law_pool := fun_mk (st := s__law_pool) l__law_pool e__law_pool k__law_pool
  have b__law_pool := F__law_pool.binds (ps := ["_law_script"]) fun _ _ _ _ _ _ us hl => match us, hl with | [_], _ => rfl
  have F__law_mixed := fun_mk (st := s__law_mixed) l__law_mixed e__law_mixed k__law_mixed
  have b__law_mixed := F__law_mixed.binds (ps := ["_law_number", "_law_count", "_law_many"]) fun _ _ _ _ _ _ us hl => match us, hl with | [_, _, _], _ => rfl
  have F__law_draw := fun_mk (st := s__law_draw) l__law_draw e__law_draw k__law_draw
  have b__law_draw := F__law_draw.binds (ps := ["_law_pool_here", "_law_many"]) fun _ _ _ _ _ _ us hl => match us, hl with | [_, _], _ => rfl
  have F__law_first := fun_mk (st := s__law_first) l__law_first e__law_first k__law_first
  have b__law_first := F__law_first.binds (ps := ["_law_choice", "_law_value"]) fun _ _ _ _ _ _ us hl => match us, hl with | [_, _], _ => rfl
  have F__law_second := fun_mk (st := s__law_second) l__law_second e__law_second k__law_second
  have b__law_second := F__law_second.binds (ps := ["_law_choice", "_law_value"]) fun _ _ _ _ _ _ us hl => match us, hl with | [_, _], _ => rfl
  have F__law_kinds := fun_mk (st := s__law_kinds) l__law_kinds e__law_kinds k__law_kinds
  have b__law_kinds := F__law_kinds.binds (ps := ["_law_e"]) fun _ _ _ _ _ _ us hl => match us, hl with | [_], _ => rfl
  have F__law_field := fun_mk (st := s__law_field) l__law_field e__law_field k__law_field
  have b__law_field := F__law_field.binds (ps := ["_law_choice", "_law_value"]) fun _ _ _ _ _ _ us hl => match us, hl with | [_, _], _ => rfl
  have F_law := fun_mk (st := s_law) l_law e_law k_law
  have T : Txt K mg { f_InvalidText___init__ := f_InvalidText___init__, f_InvalidText___init___d := _, f_InvalidSyntax___init__ := f_InvalidSyntax___init__, f_InvalidSyntax___init___d := _, f_InvalidTree___init__ := f_InvalidTree___init__, f_InvalidTree___init___d := _, f_DuplicateName___init__ := f_DuplicateName___init__, f_DuplicateName___init___d := _, f_UnknownName___init__ := f_UnknownName___init__, f_UnknownName___init___d := _, f_WrongArguments___init__ := f_WrongArguments___init__, f_WrongArguments___init___d := _, f_InvalidFinally___init__ := f_InvalidFinally___init__, f_InvalidFinally___init___d := _, f_TooLarge___init__ := f_TooLarge___init__, f_TooLarge___init___d := _, f_InvalidRow___init__ := f_InvalidRow___init__, f_InvalidRow___init___d := _, f_InvalidCase___init__ := f_InvalidCase___init__, f_InvalidCase___init___d := _, f_InvalidEntry___init__ := f_InvalidEntry___init__, f_InvalidEntry___init___d := _, f_InvalidChoices___init__ := f_InvalidChoices___init__, f_InvalidChoices___init___d := _, f_InvalidInjection___init__ := f_InvalidInjection___init__, f_InvalidInjection___init___d := _, f_InvalidOrder___init__ := f_InvalidOrder___init__, f_InvalidOrder___init___d := _, f_InvalidEvent___init__ := f_InvalidEvent___init__, f_InvalidEvent___init___d := _, f_InvalidValues___init__ := f_InvalidValues___init__, f_InvalidValues___init___d := _, f_InvalidQuestion___init__ := f_InvalidQuestion___init__, f_InvalidQuestion___init___d := _, f_InvalidCommand___init__ := f_InvalidCommand___init__, f_InvalidCommand___init___d := _, f_UnknownFunction___init__ := f_UnknownFunction___init__, f_UnknownFunction___init___d := _, f_LimitExceeded___init__ := f_LimitExceeded___init__, f_LimitExceeded___init___d := _, f__law_pool := f__law_pool, f__law_pool_d := _, f__law_mixed := f__law_mixed, f__law_mixed_d := _, f__law_draw := f__law_draw, f__law_draw_d := _, f__law_first := f__law_first, f__law_first_d := _, f__law_second := f__law_second, f__law_second_d := _, f__law_kinds := f__law_kinds, f__law_kinds_d := _, f__law_field := f__law_field, f__law_field_d := _, f_law := fa, f_law_d := _, c_InvalidText := c_InvalidText, c_InvalidSyntax := c_InvalidSyntax, c_InvalidTree := c_InvalidTree, c_DuplicateName := c_DuplicateName, c_UnknownName := c_UnknownName, c_WrongArguments := c_WrongArguments, c_InvalidFinally := c_InvalidFinally, c_TooLarge := c_TooLarge, c_InvalidRow := c_InvalidRow, c_InvalidCase := c_InvalidCase, c_InvalidEntry := c_InvalidEntry, c_InvalidChoices := c_InvalidChoices, c_InvalidInjection := c_InvalidInjection, c_InvalidOrder := c_InvalidOrder, c_InvalidEvent := c_InvalidEvent, c_InvalidValues := c_InvalidValues, c_InvalidQuestion := c_InvalidQuestion, c_InvalidCommand := c_InvalidCommand, c_UnknownFunction := c_UnknownFunction, c_LimitExceeded := c_LimitExceeded, c_ProgramError := c_ProgramError } := {
    F_InvalidText___init__ := F_InvalidText___init__,
    b_InvalidText___init__ := b_InvalidText___init__,
    e_InvalidText := ⟨⟨_, _, _, _, _, _, _, _, _, _, _, _, _, _, _, _, _, _, _, PySem.F.excBase_ValueError, PySem.ErrB.mro_ve, xl_InvalidText⟩, sa_InvalidText, ty_InvalidText, kp_InvalidText, a_InvalidText___init__, tn_InvalidText, nf_InvalidText, ga_InvalidText, gg_InvalidText, ha_InvalidText⟩,
    s_InvalidText := fun x => L2E.sub_of xl_InvalidText x,
    F_InvalidSyntax___init__ := F_InvalidSyntax___init__,
    b_InvalidSyntax___init__ := b_InvalidSyntax___init__,
    e_InvalidSyntax := ⟨⟨_, _, _, _, _, _, _, _, _, _, _, _, _, _, _, _, _, _, _, PySem.F.excBase_ValueError, PySem.ErrB.mro_ve, xl_InvalidSyntax⟩, sa_InvalidSyntax, ty_InvalidSyntax, kp_InvalidSyntax, a_InvalidSyntax___init__, tn_InvalidSyntax, nf_InvalidSyntax, ga_InvalidSyntax, gg_InvalidSyntax, ha_InvalidSyntax⟩,
    s_InvalidSyntax := fun x => L2E.sub_of xl_InvalidSyntax x,
    F_InvalidTree___init__ := F_InvalidTree___init__,
    b_InvalidTree___init__ := b_InvalidTree___init__,
    e_InvalidTree := ⟨⟨_, _, _, _, _, _, _, _, _, _, _, _, _, _, _, _, _, _, _, PySem.F.excBase_ValueError, PySem.ErrB.mro_ve, xl_InvalidTree⟩, sa_InvalidTree, ty_InvalidTree, kp_InvalidTree, a_InvalidTree___init__, tn_InvalidTree, nf_InvalidTree, ga_InvalidTree, gg_InvalidTree, ha_InvalidTree⟩,
    s_InvalidTree := fun x => L2E.sub_of xl_InvalidTree x,
    F_DuplicateName___init__ := F_DuplicateName___init__,
    b_DuplicateName___init__ := b_DuplicateName___init__,
    e_DuplicateName := ⟨⟨_, _, _, _, _, _, _, _, _, _, _, _, _, _, _, _, _, _, _, PySem.F.excBase_ValueError, PySem.ErrB.mro_ve, xl_DuplicateName⟩, sa_DuplicateName, ty_DuplicateName, kp_DuplicateName, a_DuplicateName___init__, tn_DuplicateName, nf_DuplicateName, ga_DuplicateName, gg_DuplicateName, ha_DuplicateName⟩,
    s_DuplicateName := fun x => L2E.sub_of xl_DuplicateName x,
    F_UnknownName___init__ := F_UnknownName___init__,
    b_UnknownName___init__ := b_UnknownName___init__,
    e_UnknownName := ⟨⟨_, _, _, _, _, _, _, _, _, _, _, _, _, _, _, _, _, _, _, PySem.F.excBase_ValueError, PySem.ErrB.mro_ve, xl_UnknownName⟩, sa_UnknownName, ty_UnknownName, kp_UnknownName, a_UnknownName___init__, tn_UnknownName, nf_UnknownName, ga_UnknownName, gg_UnknownName, ha_UnknownName⟩,
    s_UnknownName := fun x => L2E.sub_of xl_UnknownName x,
    F_WrongArguments___init__ := F_WrongArguments___init__,
    b_WrongArguments___init__ := b_WrongArguments___init__,
    e_WrongArguments := ⟨⟨_, _, _, _, _, _, _, _, _, _, _, _, _, _, _, _, _, _, _, PySem.F.excBase_ValueError, PySem.ErrB.mro_ve, xl_WrongArguments⟩, sa_WrongArguments, ty_WrongArguments, kp_WrongArguments, a_WrongArguments___init__, tn_WrongArguments, nf_WrongArguments, ga_WrongArguments, gg_WrongArguments, ha_WrongArguments⟩,
    s_WrongArguments := fun x => L2E.sub_of xl_WrongArguments x,
    F_InvalidFinally___init__ := F_InvalidFinally___init__,
    b_InvalidFinally___init__ := b_InvalidFinally___init__,
    e_InvalidFinally := ⟨⟨_, _, _, _, _, _, _, _, _, _, _, _, _, _, _, _, _, _, _, PySem.F.excBase_ValueError, PySem.ErrB.mro_ve, xl_InvalidFinally⟩, sa_InvalidFinally, ty_InvalidFinally, kp_InvalidFinally, a_InvalidFinally___init__, tn_InvalidFinally, nf_InvalidFinally, ga_InvalidFinally, gg_InvalidFinally, ha_InvalidFinally⟩,
    s_InvalidFinally := fun x => L2E.sub_of xl_InvalidFinally x,
    F_TooLarge___init__ := F_TooLarge___init__,
    b_TooLarge___init__ := b_TooLarge___init__,
    e_TooLarge := ⟨⟨_, _, _, _, _, _, _, _, _, _, _, _, _, _, _, _, _, _, _, PySem.F.excBase_ValueError, PySem.ErrB.mro_ve, xl_TooLarge⟩, sa_TooLarge, ty_TooLarge, kp_TooLarge, a_TooLarge___init__, tn_TooLarge, nf_TooLarge, ga_TooLarge, gg_TooLarge, ha_TooLarge⟩,
    s_TooLarge := fun x => L2E.sub_of xl_TooLarge x,
    F_InvalidRow___init__ := F_InvalidRow___init__,
    b_InvalidRow___init__ := b_InvalidRow___init__,
    e_InvalidRow := ⟨⟨_, _, _, _, _, _, _, _, _, _, _, _, _, _, _, _, _, _, _, PySem.F.excBase_ValueError, PySem.ErrB.mro_ve, xl_InvalidRow⟩, sa_InvalidRow, ty_InvalidRow, kp_InvalidRow, a_InvalidRow___init__, tn_InvalidRow, nf_InvalidRow, ga_InvalidRow, gg_InvalidRow, ha_InvalidRow⟩,
    s_InvalidRow := fun x => L2E.sub_of xl_InvalidRow x,
    F_InvalidCase___init__ := F_InvalidCase___init__,
    b_InvalidCase___init__ := b_InvalidCase___init__,
    e_InvalidCase := ⟨⟨_, _, _, _, _, _, _, _, _, _, _, _, _, _, _, _, _, _, _, PySem.F.excBase_ValueError, PySem.ErrB.mro_ve, xl_InvalidCase⟩, sa_InvalidCase, ty_InvalidCase, kp_InvalidCase, a_InvalidCase___init__, tn_InvalidCase, nf_InvalidCase, ga_InvalidCase, gg_InvalidCase, ha_InvalidCase⟩,
    s_InvalidCase := fun x => L2E.sub_of xl_InvalidCase x,
    F_InvalidEntry___init__ := F_InvalidEntry___init__,
    b_InvalidEntry___init__ := b_InvalidEntry___init__,
    e_InvalidEntry := ⟨⟨_, _, _, _, _, _, _, _, _, _, _, _, _, _, _, _, _, _, _, PySem.F.excBase_ValueError, PySem.ErrB.mro_ve, xl_InvalidEntry⟩, sa_InvalidEntry, ty_InvalidEntry, kp_InvalidEntry, a_InvalidEntry___init__, tn_InvalidEntry, nf_InvalidEntry, ga_InvalidEntry, gg_InvalidEntry, ha_InvalidEntry⟩,
    s_InvalidEntry := fun x => L2E.sub_of xl_InvalidEntry x,
    F_InvalidChoices___init__ := F_InvalidChoices___init__,
    b_InvalidChoices___init__ := b_InvalidChoices___init__,
    e_InvalidChoices := ⟨⟨_, _, _, _, _, _, _, _, _, _, _, _, _, _, _, _, _, _, _, PySem.F.excBase_ValueError, PySem.ErrB.mro_ve, xl_InvalidChoices⟩, sa_InvalidChoices, ty_InvalidChoices, kp_InvalidChoices, a_InvalidChoices___init__, tn_InvalidChoices, nf_InvalidChoices, ga_InvalidChoices, gg_InvalidChoices, ha_InvalidChoices⟩,
    s_InvalidChoices := fun x => L2E.sub_of xl_InvalidChoices x,
    F_InvalidInjection___init__ := F_InvalidInjection___init__,
    b_InvalidInjection___init__ := b_InvalidInjection___init__,
    e_InvalidInjection := ⟨⟨_, _, _, _, _, _, _, _, _, _, _, _, _, _, _, _, _, _, _, PySem.F.excBase_ValueError, PySem.ErrB.mro_ve, xl_InvalidInjection⟩, sa_InvalidInjection, ty_InvalidInjection, kp_InvalidInjection, a_InvalidInjection___init__, tn_InvalidInjection, nf_InvalidInjection, ga_InvalidInjection, gg_InvalidInjection, ha_InvalidInjection⟩,
    s_InvalidInjection := fun x => L2E.sub_of xl_InvalidInjection x,
    F_InvalidOrder___init__ := F_InvalidOrder___init__,
    b_InvalidOrder___init__ := b_InvalidOrder___init__,
    e_InvalidOrder := ⟨⟨_, _, _, _, _, _, _, _, _, _, _, _, _, _, _, _, _, _, _, PySem.F.excBase_ValueError, PySem.ErrB.mro_ve, xl_InvalidOrder⟩, sa_InvalidOrder, ty_InvalidOrder, kp_InvalidOrder, a_InvalidOrder___init__, tn_InvalidOrder, nf_InvalidOrder, ga_InvalidOrder, gg_InvalidOrder, ha_InvalidOrder⟩,
    s_InvalidOrder := fun x => L2E.sub_of xl_InvalidOrder x,
    F_InvalidEvent___init__ := F_InvalidEvent___init__,
    b_InvalidEvent___init__ := b_InvalidEvent___init__,
    e_InvalidEvent := ⟨⟨_, _, _, _, _, _, _, _, _, _, _, _, _, _, _, _, _, _, _, PySem.F.excBase_ValueError, PySem.ErrB.mro_ve, xl_InvalidEvent⟩, sa_InvalidEvent, ty_InvalidEvent, kp_InvalidEvent, a_InvalidEvent___init__, tn_InvalidEvent, nf_InvalidEvent, ga_InvalidEvent, gg_InvalidEvent, ha_InvalidEvent⟩,
    s_InvalidEvent := fun x => L2E.sub_of xl_InvalidEvent x,
    F_InvalidValues___init__ := F_InvalidValues___init__,
    b_InvalidValues___init__ := b_InvalidValues___init__,
    e_InvalidValues := ⟨⟨_, _, _, _, _, _, _, _, _, _, _, _, _, _, _, _, _, _, _, PySem.F.excBase_ValueError, PySem.ErrB.mro_ve, xl_InvalidValues⟩, sa_InvalidValues, ty_InvalidValues, kp_InvalidValues, a_InvalidValues___init__, tn_InvalidValues, nf_InvalidValues, ga_InvalidValues, gg_InvalidValues, ha_InvalidValues⟩,
    s_InvalidValues := fun x => L2E.sub_of xl_InvalidValues x,
    F_InvalidQuestion___init__ := F_InvalidQuestion___init__,
    b_InvalidQuestion___init__ := b_InvalidQuestion___init__,
    e_InvalidQuestion := ⟨⟨_, _, _, _, _, _, _, _, _, _, _, _, _, _, _, _, _, _, _, PySem.F.excBase_ValueError, PySem.ErrB.mro_ve, xl_InvalidQuestion⟩, sa_InvalidQuestion, ty_InvalidQuestion, kp_InvalidQuestion, a_InvalidQuestion___init__, tn_InvalidQuestion, nf_InvalidQuestion, ga_InvalidQuestion, gg_InvalidQuestion, ha_InvalidQuestion⟩,
    s_InvalidQuestion := fun x => L2E.sub_of xl_InvalidQuestion x,
    F_InvalidCommand___init__ := F_InvalidCommand___init__,
    b_InvalidCommand___init__ := b_InvalidCommand___init__,
    e_InvalidCommand := ⟨⟨_, _, _, _, _, _, _, _, _, _, _, _, _, _, _, _, _, _, _, PySem.F.excBase_ValueError, PySem.ErrB.mro_ve, xl_InvalidCommand⟩, sa_InvalidCommand, ty_InvalidCommand, kp_InvalidCommand, a_InvalidCommand___init__, tn_InvalidCommand, nf_InvalidCommand, ga_InvalidCommand, gg_InvalidCommand, ha_InvalidCommand⟩,
    s_InvalidCommand := fun x => L2E.sub_of xl_InvalidCommand x,
    F_UnknownFunction___init__ := F_UnknownFunction___init__,
    b_UnknownFunction___init__ := b_UnknownFunction___init__,
    e_UnknownFunction := ⟨⟨_, _, _, _, _, _, _, _, _, _, _, _, _, _, _, _, _, _, _, PySem.F.excBase_LookupError, PySem.ErrB.mro_key, xl_UnknownFunction⟩, sa_UnknownFunction, ty_UnknownFunction, kp_UnknownFunction, a_UnknownFunction___init__, tn_UnknownFunction, nf_UnknownFunction, ga_UnknownFunction, gg_UnknownFunction, ha_UnknownFunction⟩,
    s_UnknownFunction := fun x => L2E.sub_of xl_UnknownFunction x,
    F_LimitExceeded___init__ := F_LimitExceeded___init__,
    b_LimitExceeded___init__ := b_LimitExceeded___init__,
    e_LimitExceeded := ⟨⟨_, _, _, _, _, _, _, _, _, _, _, _, _, _, _, _, _, _, _, PySem.F.excBase_RuntimeError, PySem.ErrB.mro_run, xl_LimitExceeded⟩, sa_LimitExceeded, ty_LimitExceeded, kp_LimitExceeded, a_LimitExceeded___init__, tn_LimitExceeded, nf_LimitExceeded, ga_LimitExceeded, gg_LimitExceeded, ha_LimitExceeded⟩,
    s_LimitExceeded := fun x => L2E.sub_of xl_LimitExceeded x,
    F__law_pool := F__law_pool,
    b__law_pool := b__law_pool,
    g__law_pool := PySem.W.mg_of X G a__law_pool,
    F__law_mixed := F__law_mixed,
    b__law_mixed := b__law_mixed,
    g__law_mixed := PySem.W.mg_of X G a__law_mixed,
    F__law_draw := F__law_draw,
    b__law_draw := b__law_draw,
    g__law_draw := PySem.W.mg_of X G a__law_draw,
    F__law_first := F__law_first,
    b__law_first := b__law_first,
    g__law_first := PySem.W.mg_of X G a__law_first,
    F__law_second := F__law_second,
    b__law_second := b__law_second,
    g__law_second := PySem.W.mg_of X G a__law_second,
    F__law_kinds := F__law_kinds,
    b__law_kinds := b__law_kinds,
    g__law_kinds := PySem.W.mg_of X G a__law_kinds,
    F__law_field := F__law_field,
    b__law_field := b__law_field,
    g__law_field := PySem.W.mg_of X G a__law_field,
    F_law := F_law,
    g_law := PySem.W.mg_of X G a_law,
    mg_InvalidText := PySem.W.mg_of X G ac_InvalidText,
    mg_InvalidSyntax := PySem.W.mg_of X G ac_InvalidSyntax,
    mg_InvalidTree := PySem.W.mg_of X G ac_InvalidTree,
    mg_DuplicateName := PySem.W.mg_of X G ac_DuplicateName,
    mg_UnknownName := PySem.W.mg_of X G ac_UnknownName,
    mg_WrongArguments := PySem.W.mg_of X G ac_WrongArguments,
    mg_InvalidFinally := PySem.W.mg_of X G ac_InvalidFinally,
    mg_TooLarge := PySem.W.mg_of X G ac_TooLarge,
    mg_InvalidRow := PySem.W.mg_of X G ac_InvalidRow,
    mg_InvalidCase := PySem.W.mg_of X G ac_InvalidCase,
    mg_InvalidEntry := PySem.W.mg_of X G ac_InvalidEntry,
    mg_InvalidChoices := PySem.W.mg_of X G ac_InvalidChoices,
    mg_InvalidInjection := PySem.W.mg_of X G ac_InvalidInjection,
    mg_InvalidOrder := PySem.W.mg_of X G ac_InvalidOrder,
    mg_InvalidEvent := PySem.W.mg_of X G ac_InvalidEvent,
    mg_InvalidValues := PySem.W.mg_of X G ac_InvalidValues,
    mg_InvalidQuestion := PySem.W.mg_of X G ac_InvalidQuestion,
    mg_InvalidCommand := PySem.W.mg_of X G ac_InvalidCommand,
    mg_UnknownFunction := PySem.W.mg_of X G ac_UnknownFunction,
    mg_LimitExceeded := PySem.W.mg_of X G ac_LimitExceeded,
    mg_ProgramError := PySem.W.mg_of X G ac_ProgramError,
    rd := ⟨hn_e, ht_e⟩,
    pe := ⟨by rw [cl_pe]; rfl, sb_pe, tp_pe⟩,
    nd := nd_e,
    int := PySem.W.mg_none_of X G z_int,
    len := PySem.W.mg_none_of X G z_len,
    isinstance := PySem.W.mg_none_of X G z_isinstance,
    range := PySem.W.mg_none_of X G z_range,
    ValueError := PySem.W.mg_none_of X G z_ValueError,
    KeyError := PySem.W.mg_none_of X G z_KeyError,
    RuntimeError := PySem.W.mg_none_of X G z_RuntimeError }
  exact ⟨PySem.W.fnOf "law" "law" (defArgs s_law) (defBody s_law) (defScope s_law) .none kV_law dc_law pm_law an_law cd_law ct_law, fun s v => .of_eq rfl, fun base _ _ => ok_law T⟩
end K12
open PySem PySem.W PyProof.Rows
set_option maxRecDepth 100000 in
set_option maxHeartbeats 0 in
theorem PySem.Challenge.cw_allornothing_k12_classes_of_errors_holds : PySem.Challenge.rw_allornothing_k12_classes_of_errors.Holds := by
  w_on; o_law; k_head; (case hw => w_witness2)
  k_fill
  refine L2.walk_of (l := PySem.Challenge.rw_allornothing_k12_classes_of_errors) (n := 63) (k := 28) (x := "_law_script") (CX := fun _ => L2.CX0) (sp := fun w => K12.spLaw _) rfl (by decide) rfl ⟨rfl, by decide, by decide⟩ (fun w h Y => PySem.W.kIn_of Y) ?F (fun _ _ a ns hl _ hS => ⟨a, ns, rfl, hS, hl, fun _ => rfl⟩) (fun _ _ _ _ _ h => h)
  case F =>
    intro w mg fa h KX G hmg
    refine' K12.all_mk KX G hmg ?a_InvalidText___init__ ?l_InvalidText___init__ ?e_InvalidText___init__ ?k_InvalidText___init__ ?i_InvalidText___init__ ?a_InvalidSyntax___init__ ?l_InvalidSyntax___init__ ?e_InvalidSyntax___init__ ?k_InvalidSyntax___init__ ?i_InvalidSyntax___init__ ?a_InvalidTree___init__ ?l_InvalidTree___init__ ?e_InvalidTree___init__ ?k_InvalidTree___init__ ?i_InvalidTree___init__ ?a_DuplicateName___init__ ?l_DuplicateName___init__ ?e_DuplicateName___init__ ?k_DuplicateName___init__ ?i_DuplicateName___init__ ?a_UnknownName___init__ ?l_UnknownName___init__ ?e_UnknownName___init__ ?k_UnknownName___init__ ?i_UnknownName___init__ ?a_WrongArguments___init__ ?l_WrongArguments___init__ ?e_WrongArguments___init__ ?k_WrongArguments___init__ ?i_WrongArguments___init__ ?a_InvalidFinally___init__ ?l_InvalidFinally___init__ ?e_InvalidFinally___init__ ?k_InvalidFinally___init__ ?i_InvalidFinally___init__ ?a_TooLarge___init__ ?l_TooLarge___init__ ?e_TooLarge___init__ ?k_TooLarge___init__ ?i_TooLarge___init__ ?a_InvalidRow___init__ ?l_InvalidRow___init__ ?e_InvalidRow___init__ ?k_InvalidRow___init__ ?i_InvalidRow___init__ ?a_InvalidCase___init__ ?l_InvalidCase___init__ ?e_InvalidCase___init__ ?k_InvalidCase___init__ ?i_InvalidCase___init__ ?a_InvalidEntry___init__ ?l_InvalidEntry___init__ ?e_InvalidEntry___init__ ?k_InvalidEntry___init__ ?i_InvalidEntry___init__ ?a_InvalidChoices___init__ ?l_InvalidChoices___init__ ?e_InvalidChoices___init__ ?k_InvalidChoices___init__ ?i_InvalidChoices___init__ ?a_InvalidInjection___init__ ?l_InvalidInjection___init__ ?e_InvalidInjection___init__ ?k_InvalidInjection___init__ ?i_InvalidInjection___init__ ?a_InvalidOrder___init__ ?l_InvalidOrder___init__ ?e_InvalidOrder___init__ ?k_InvalidOrder___init__ ?i_InvalidOrder___init__ ?a_InvalidEvent___init__ ?l_InvalidEvent___init__ ?e_InvalidEvent___init__ ?k_InvalidEvent___init__ ?i_InvalidEvent___init__ ?a_InvalidValues___init__ ?l_InvalidValues___init__ ?e_InvalidValues___init__ ?k_InvalidValues___init__ ?i_InvalidValues___init__ ?a_InvalidQuestion___init__ ?l_InvalidQuestion___init__ ?e_InvalidQuestion___init__ ?k_InvalidQuestion___init__ ?i_InvalidQuestion___init__ ?a_InvalidCommand___init__ ?l_InvalidCommand___init__ ?e_InvalidCommand___init__ ?k_InvalidCommand___init__ ?i_InvalidCommand___init__ ?a_UnknownFunction___init__ ?l_UnknownFunction___init__ ?e_UnknownFunction___init__ ?k_UnknownFunction___init__ ?i_UnknownFunction___init__ ?a_LimitExceeded___init__ ?l_LimitExceeded___init__ ?e_LimitExceeded___init__ ?k_LimitExceeded___init__ ?i_LimitExceeded___init__ ?a__law_pool ?l__law_pool ?e__law_pool ?k__law_pool ?a__law_mixed ?l__law_mixed ?e__law_mixed ?k__law_mixed ?a__law_draw ?l__law_draw ?e__law_draw ?k__law_draw ?a__law_first ?l__law_first ?e__law_first ?k__law_first ?a__law_second ?l__law_second ?e__law_second ?k__law_second ?a__law_kinds ?l__law_kinds ?e__law_kinds ?k__law_kinds ?a__law_field ?l__law_field ?e__law_field ?k__law_field ?a_law ?l_law ?e_law ?k_law ?ac_InvalidText ?xl_InvalidText ?sa_InvalidText ?ty_InvalidText ?kp_InvalidText ?tn_InvalidText ?nf_InvalidText ?ga_InvalidText ?gg_InvalidText ?ha_InvalidText ?ac_InvalidSyntax ?xl_InvalidSyntax ?sa_InvalidSyntax ?ty_InvalidSyntax ?kp_InvalidSyntax ?tn_InvalidSyntax ?nf_InvalidSyntax ?ga_InvalidSyntax ?gg_InvalidSyntax ?ha_InvalidSyntax ?ac_InvalidTree ?xl_InvalidTree ?sa_InvalidTree ?ty_InvalidTree ?kp_InvalidTree ?tn_InvalidTree ?nf_InvalidTree ?ga_InvalidTree ?gg_InvalidTree ?ha_InvalidTree ?ac_DuplicateName ?xl_DuplicateName ?sa_DuplicateName ?ty_DuplicateName ?kp_DuplicateName ?tn_DuplicateName ?nf_DuplicateName ?ga_DuplicateName ?gg_DuplicateName ?ha_DuplicateName ?ac_UnknownName ?xl_UnknownName ?sa_UnknownName ?ty_UnknownName ?kp_UnknownName ?tn_UnknownName ?nf_UnknownName ?ga_UnknownName ?gg_UnknownName ?ha_UnknownName ?ac_WrongArguments ?xl_WrongArguments ?sa_WrongArguments ?ty_WrongArguments ?kp_WrongArguments ?tn_WrongArguments ?nf_WrongArguments ?ga_WrongArguments ?gg_WrongArguments ?ha_WrongArguments ?ac_InvalidFinally ?xl_InvalidFinally ?sa_InvalidFinally ?ty_InvalidFinally ?kp_InvalidFinally ?tn_InvalidFinally ?nf_InvalidFinally ?ga_InvalidFinally ?gg_InvalidFinally ?ha_InvalidFinally ?ac_TooLarge ?xl_TooLarge ?sa_TooLarge ?ty_TooLarge ?kp_TooLarge ?tn_TooLarge ?nf_TooLarge ?ga_TooLarge ?gg_TooLarge ?ha_TooLarge ?ac_InvalidRow ?xl_InvalidRow ?sa_InvalidRow ?ty_InvalidRow ?kp_InvalidRow ?tn_InvalidRow ?nf_InvalidRow ?ga_InvalidRow ?gg_InvalidRow ?ha_InvalidRow ?ac_InvalidCase ?xl_InvalidCase ?sa_InvalidCase ?ty_InvalidCase ?kp_InvalidCase ?tn_InvalidCase ?nf_InvalidCase ?ga_InvalidCase ?gg_InvalidCase ?ha_InvalidCase ?ac_InvalidEntry ?xl_InvalidEntry ?sa_InvalidEntry ?ty_InvalidEntry ?kp_InvalidEntry ?tn_InvalidEntry ?nf_InvalidEntry ?ga_InvalidEntry ?gg_InvalidEntry ?ha_InvalidEntry ?ac_InvalidChoices ?xl_InvalidChoices ?sa_InvalidChoices ?ty_InvalidChoices ?kp_InvalidChoices ?tn_InvalidChoices ?nf_InvalidChoices ?ga_InvalidChoices ?gg_InvalidChoices ?ha_InvalidChoices ?ac_InvalidInjection ?xl_InvalidInjection ?sa_InvalidInjection ?ty_InvalidInjection ?kp_InvalidInjection ?tn_InvalidInjection ?nf_InvalidInjection ?ga_InvalidInjection ?gg_InvalidInjection ?ha_InvalidInjection ?ac_InvalidOrder ?xl_InvalidOrder ?sa_InvalidOrder ?ty_InvalidOrder ?kp_InvalidOrder ?tn_InvalidOrder ?nf_InvalidOrder ?ga_InvalidOrder ?gg_InvalidOrder ?ha_InvalidOrder ?ac_InvalidEvent ?xl_InvalidEvent ?sa_InvalidEvent ?ty_InvalidEvent ?kp_InvalidEvent ?tn_InvalidEvent ?nf_InvalidEvent ?ga_InvalidEvent ?gg_InvalidEvent ?ha_InvalidEvent ?ac_InvalidValues ?xl_InvalidValues ?sa_InvalidValues ?ty_InvalidValues ?kp_InvalidValues ?tn_InvalidValues ?nf_InvalidValues ?ga_InvalidValues ?gg_InvalidValues ?ha_InvalidValues ?ac_InvalidQuestion ?xl_InvalidQuestion ?sa_InvalidQuestion ?ty_InvalidQuestion ?kp_InvalidQuestion ?tn_InvalidQuestion ?nf_InvalidQuestion ?ga_InvalidQuestion ?gg_InvalidQuestion ?ha_InvalidQuestion ?ac_InvalidCommand ?xl_InvalidCommand ?sa_InvalidCommand ?ty_InvalidCommand ?kp_InvalidCommand ?tn_InvalidCommand ?nf_InvalidCommand ?ga_InvalidCommand ?gg_InvalidCommand ?ha_InvalidCommand ?ac_UnknownFunction ?xl_UnknownFunction ?sa_UnknownFunction ?ty_UnknownFunction ?kp_UnknownFunction ?tn_UnknownFunction ?nf_UnknownFunction ?ga_UnknownFunction ?gg_UnknownFunction ?ha_UnknownFunction ?ac_LimitExceeded ?xl_LimitExceeded ?sa_LimitExceeded ?ty_LimitExceeded ?kp_LimitExceeded ?tn_LimitExceeded ?nf_LimitExceeded ?ga_LimitExceeded ?gg_LimitExceeded ?ha_LimitExceeded ?ac_ProgramError ?cl_pe ?sb_pe ?tp_pe ?nd_e ?hn_e ?ht_e ?z_int ?z_len ?z_isinstance ?z_range ?z_ValueError ?z_KeyError ?z_RuntimeError
    (case ac_InvalidText => k_is)
    (case ac_InvalidSyntax => k_is)
    (case ac_InvalidTree => k_is)
    (case ac_DuplicateName => k_is)
    (case ac_UnknownName => k_is)
    (case ac_WrongArguments => k_is)
    (case ac_InvalidFinally => k_is)
    (case ac_TooLarge => k_is)
    (case ac_InvalidRow => k_is)
    (case ac_InvalidCase => k_is)
    (case ac_InvalidEntry => k_is)
    (case ac_InvalidChoices => k_is)
    (case ac_InvalidInjection => k_is)
    (case ac_InvalidOrder => k_is)
    (case ac_InvalidEvent => k_is)
    (case ac_InvalidValues => k_is)
    (case ac_InvalidQuestion => k_is)
    (case ac_InvalidCommand => k_is)
    (case ac_UnknownFunction => k_is)
    (case ac_LimitExceeded => k_is)
    (case ac_ProgramError => k_is)
    (case a_InvalidText___init__ => k_is)
    (case l_InvalidText___init__ => k_is)
    (case e_InvalidText___init__ => k_is)
    (case k_InvalidText___init__ => k_is)
    (case i_InvalidText___init__ => k_is)
    (case a_InvalidSyntax___init__ => k_is)
    (case l_InvalidSyntax___init__ => k_is)
    (case e_InvalidSyntax___init__ => k_is)
    (case k_InvalidSyntax___init__ => k_is)
    (case i_InvalidSyntax___init__ => k_is)
    (case a_InvalidTree___init__ => k_is)
    (case l_InvalidTree___init__ => k_is)
    (case e_InvalidTree___init__ => k_is)
    (case k_InvalidTree___init__ => k_is)
    (case i_InvalidTree___init__ => k_is)
    (case a_DuplicateName___init__ => k_is)
    (case l_DuplicateName___init__ => k_is)
    (case e_DuplicateName___init__ => k_is)
    (case k_DuplicateName___init__ => k_is)
    (case i_DuplicateName___init__ => k_is)
    (case a_UnknownName___init__ => k_is)
    (case l_UnknownName___init__ => k_is)
    (case e_UnknownName___init__ => k_is)
    (case k_UnknownName___init__ => k_is)
    (case i_UnknownName___init__ => k_is)
    (case a_WrongArguments___init__ => k_is)
    (case l_WrongArguments___init__ => k_is)
    (case e_WrongArguments___init__ => k_is)
    (case k_WrongArguments___init__ => k_is)
    (case i_WrongArguments___init__ => k_is)
    (case a_InvalidFinally___init__ => k_is)
    (case l_InvalidFinally___init__ => k_is)
    (case e_InvalidFinally___init__ => k_is)
    (case k_InvalidFinally___init__ => k_is)
    (case i_InvalidFinally___init__ => k_is)
    (case a_TooLarge___init__ => k_is)
    (case l_TooLarge___init__ => k_is)
    (case e_TooLarge___init__ => k_is)
    (case k_TooLarge___init__ => k_is)
    (case i_TooLarge___init__ => k_is)
    (case a_InvalidRow___init__ => k_is)
    (case l_InvalidRow___init__ => k_is)
    (case e_InvalidRow___init__ => k_is)
    (case k_InvalidRow___init__ => k_is)
    (case i_InvalidRow___init__ => k_is)
    (case a_InvalidCase___init__ => k_is)
    (case l_InvalidCase___init__ => k_is)
    (case e_InvalidCase___init__ => k_is)
    (case k_InvalidCase___init__ => k_is)
    (case i_InvalidCase___init__ => k_is)
    (case a_InvalidEntry___init__ => k_is)
    (case l_InvalidEntry___init__ => k_is)
    (case e_InvalidEntry___init__ => k_is)
    (case k_InvalidEntry___init__ => k_is)
    (case i_InvalidEntry___init__ => k_is)
    (case a_InvalidChoices___init__ => k_is)
    (case l_InvalidChoices___init__ => k_is)
    (case e_InvalidChoices___init__ => k_is)
    (case k_InvalidChoices___init__ => k_is)
    (case i_InvalidChoices___init__ => k_is)
    (case a_InvalidInjection___init__ => k_is)
    (case l_InvalidInjection___init__ => k_is)
    (case e_InvalidInjection___init__ => k_is)
    (case k_InvalidInjection___init__ => k_is)
    (case i_InvalidInjection___init__ => k_is)
    (case a_InvalidOrder___init__ => k_is)
    (case l_InvalidOrder___init__ => k_is)
    (case e_InvalidOrder___init__ => k_is)
    (case k_InvalidOrder___init__ => k_is)
    (case i_InvalidOrder___init__ => k_is)
    (case a_InvalidEvent___init__ => k_is)
    (case l_InvalidEvent___init__ => k_is)
    (case e_InvalidEvent___init__ => k_is)
    (case k_InvalidEvent___init__ => k_is)
    (case i_InvalidEvent___init__ => k_is)
    (case a_InvalidValues___init__ => k_is)
    (case l_InvalidValues___init__ => k_is)
    (case e_InvalidValues___init__ => k_is)
    (case k_InvalidValues___init__ => k_is)
    (case i_InvalidValues___init__ => k_is)
    (case a_InvalidQuestion___init__ => k_is)
    (case l_InvalidQuestion___init__ => k_is)
    (case e_InvalidQuestion___init__ => k_is)
    (case k_InvalidQuestion___init__ => k_is)
    (case i_InvalidQuestion___init__ => k_is)
    (case a_InvalidCommand___init__ => k_is)
    (case l_InvalidCommand___init__ => k_is)
    (case e_InvalidCommand___init__ => k_is)
    (case k_InvalidCommand___init__ => k_is)
    (case i_InvalidCommand___init__ => k_is)
    (case a_UnknownFunction___init__ => k_is)
    (case l_UnknownFunction___init__ => k_is)
    (case e_UnknownFunction___init__ => k_is)
    (case k_UnknownFunction___init__ => k_is)
    (case i_UnknownFunction___init__ => k_is)
    (case a_LimitExceeded___init__ => k_is)
    (case l_LimitExceeded___init__ => k_is)
    (case e_LimitExceeded___init__ => k_is)
    (case k_LimitExceeded___init__ => k_is)
    (case i_LimitExceeded___init__ => k_is)
    (case a__law_pool => k_is)
    (case l__law_pool => k_is)
    (case e__law_pool => k_is)
    (case k__law_pool => k_is)
    (case a__law_mixed => k_is)
    (case l__law_mixed => k_is)
    (case e__law_mixed => k_is)
    (case k__law_mixed => k_is)
    (case a__law_draw => k_is)
    (case l__law_draw => k_is)
    (case e__law_draw => k_is)
    (case k__law_draw => k_is)
    (case a__law_first => k_is)
    (case l__law_first => k_is)
    (case e__law_first => k_is)
    (case k__law_first => k_is)
    (case a__law_second => k_is)
    (case l__law_second => k_is)
    (case e__law_second => k_is)
    (case k__law_second => k_is)
    (case a__law_kinds => k_is)
    (case l__law_kinds => k_is)
    (case e__law_kinds => k_is)
    (case k__law_kinds => k_is)
    (case a__law_field => k_is)
    (case l__law_field => k_is)
    (case e__law_field => k_is)
    (case k__law_field => k_is)
    (case a_law => k_is)
    (case l_law => k_is)
    (case e_law => k_is)
    (case k_law => k_is)
    (case xl_InvalidText => k_is)
    (case sa_InvalidText => k_is)
    (case ty_InvalidText => k_is)
    (case kp_InvalidText => k_is)
    (case tn_InvalidText => k_is)
    (case nf_InvalidText => k_is)
    (case ga_InvalidText => k_is)
    (case gg_InvalidText => k_is)
    (case ha_InvalidText => k_is)
    (case xl_InvalidSyntax => k_is)
    (case sa_InvalidSyntax => k_is)
    (case ty_InvalidSyntax => k_is)
    (case kp_InvalidSyntax => k_is)
    (case tn_InvalidSyntax => k_is)
    (case nf_InvalidSyntax => k_is)
    (case ga_InvalidSyntax => k_is)
    (case gg_InvalidSyntax => k_is)
    (case ha_InvalidSyntax => k_is)
    (case xl_InvalidTree => k_is)
    (case sa_InvalidTree => k_is)
    (case ty_InvalidTree => k_is)
    (case kp_InvalidTree => k_is)
    (case tn_InvalidTree => k_is)
    (case nf_InvalidTree => k_is)
    (case ga_InvalidTree => k_is)
    (case gg_InvalidTree => k_is)
    (case ha_InvalidTree => k_is)
    (case xl_DuplicateName => k_is)
    (case sa_DuplicateName => k_is)
    (case ty_DuplicateName => k_is)
    (case kp_DuplicateName => k_is)
    (case tn_DuplicateName => k_is)
    (case nf_DuplicateName => k_is)
    (case ga_DuplicateName => k_is)
    (case gg_DuplicateName => k_is)
    (case ha_DuplicateName => k_is)
    (case xl_UnknownName => k_is)
    (case sa_UnknownName => k_is)
    (case ty_UnknownName => k_is)
    (case kp_UnknownName => k_is)
    (case tn_UnknownName => k_is)
    (case nf_UnknownName => k_is)
    (case ga_UnknownName => k_is)
    (case gg_UnknownName => k_is)
    (case ha_UnknownName => k_is)
    (case xl_WrongArguments => k_is)
    (case sa_WrongArguments => k_is)
    (case ty_WrongArguments => k_is)
    (case kp_WrongArguments => k_is)
    (case tn_WrongArguments => k_is)
    (case nf_WrongArguments => k_is)
    (case ga_WrongArguments => k_is)
    (case gg_WrongArguments => k_is)
    (case ha_WrongArguments => k_is)
    (case xl_InvalidFinally => k_is)
    (case sa_InvalidFinally => k_is)
    (case ty_InvalidFinally => k_is)
    (case kp_InvalidFinally => k_is)
    (case tn_InvalidFinally => k_is)
    (case nf_InvalidFinally => k_is)
    (case ga_InvalidFinally => k_is)
    (case gg_InvalidFinally => k_is)
    (case ha_InvalidFinally => k_is)
    (case xl_TooLarge => k_is)
    (case sa_TooLarge => k_is)
    (case ty_TooLarge => k_is)
    (case kp_TooLarge => k_is)
    (case tn_TooLarge => k_is)
    (case nf_TooLarge => k_is)
    (case ga_TooLarge => k_is)
    (case gg_TooLarge => k_is)
    (case ha_TooLarge => k_is)
    (case xl_InvalidRow => k_is)
    (case sa_InvalidRow => k_is)
    (case ty_InvalidRow => k_is)
    (case kp_InvalidRow => k_is)
    (case tn_InvalidRow => k_is)
    (case nf_InvalidRow => k_is)
    (case ga_InvalidRow => k_is)
    (case gg_InvalidRow => k_is)
    (case ha_InvalidRow => k_is)
    (case xl_InvalidCase => k_is)
    (case sa_InvalidCase => k_is)
    (case ty_InvalidCase => k_is)
    (case kp_InvalidCase => k_is)
    (case tn_InvalidCase => k_is)
    (case nf_InvalidCase => k_is)
    (case ga_InvalidCase => k_is)
    (case gg_InvalidCase => k_is)
    (case ha_InvalidCase => k_is)
    (case xl_InvalidEntry => k_is)
    (case sa_InvalidEntry => k_is)
    (case ty_InvalidEntry => k_is)
    (case kp_InvalidEntry => k_is)
    (case tn_InvalidEntry => k_is)
    (case nf_InvalidEntry => k_is)
    (case ga_InvalidEntry => k_is)
    (case gg_InvalidEntry => k_is)
    (case ha_InvalidEntry => k_is)
    (case xl_InvalidChoices => k_is)
    (case sa_InvalidChoices => k_is)
    (case ty_InvalidChoices => k_is)
    (case kp_InvalidChoices => k_is)
    (case tn_InvalidChoices => k_is)
    (case nf_InvalidChoices => k_is)
    (case ga_InvalidChoices => k_is)
    (case gg_InvalidChoices => k_is)
    (case ha_InvalidChoices => k_is)
    (case xl_InvalidInjection => k_is)
    (case sa_InvalidInjection => k_is)
    (case ty_InvalidInjection => k_is)
    (case kp_InvalidInjection => k_is)
    (case tn_InvalidInjection => k_is)
    (case nf_InvalidInjection => k_is)
    (case ga_InvalidInjection => k_is)
    (case gg_InvalidInjection => k_is)
    (case ha_InvalidInjection => k_is)
    (case xl_InvalidOrder => k_is)
    (case sa_InvalidOrder => k_is)
    (case ty_InvalidOrder => k_is)
    (case kp_InvalidOrder => k_is)
    (case tn_InvalidOrder => k_is)
    (case nf_InvalidOrder => k_is)
    (case ga_InvalidOrder => k_is)
    (case gg_InvalidOrder => k_is)
    (case ha_InvalidOrder => k_is)
    (case xl_InvalidEvent => k_is)
    (case sa_InvalidEvent => k_is)
    (case ty_InvalidEvent => k_is)
    (case kp_InvalidEvent => k_is)
    (case tn_InvalidEvent => k_is)
    (case nf_InvalidEvent => k_is)
    (case ga_InvalidEvent => k_is)
    (case gg_InvalidEvent => k_is)
    (case ha_InvalidEvent => k_is)
    (case xl_InvalidValues => k_is)
    (case sa_InvalidValues => k_is)
    (case ty_InvalidValues => k_is)
    (case kp_InvalidValues => k_is)
    (case tn_InvalidValues => k_is)
    (case nf_InvalidValues => k_is)
    (case ga_InvalidValues => k_is)
    (case gg_InvalidValues => k_is)
    (case ha_InvalidValues => k_is)
    (case xl_InvalidQuestion => k_is)
    (case sa_InvalidQuestion => k_is)
    (case ty_InvalidQuestion => k_is)
    (case kp_InvalidQuestion => k_is)
    (case tn_InvalidQuestion => k_is)
    (case nf_InvalidQuestion => k_is)
    (case ga_InvalidQuestion => k_is)
    (case gg_InvalidQuestion => k_is)
    (case ha_InvalidQuestion => k_is)
    (case xl_InvalidCommand => k_is)
    (case sa_InvalidCommand => k_is)
    (case ty_InvalidCommand => k_is)
    (case kp_InvalidCommand => k_is)
    (case tn_InvalidCommand => k_is)
    (case nf_InvalidCommand => k_is)
    (case ga_InvalidCommand => k_is)
    (case gg_InvalidCommand => k_is)
    (case ha_InvalidCommand => k_is)
    (case xl_UnknownFunction => k_is)
    (case sa_UnknownFunction => k_is)
    (case ty_UnknownFunction => k_is)
    (case kp_UnknownFunction => k_is)
    (case tn_UnknownFunction => k_is)
    (case nf_UnknownFunction => k_is)
    (case ga_UnknownFunction => k_is)
    (case gg_UnknownFunction => k_is)
    (case ha_UnknownFunction => k_is)
    (case xl_LimitExceeded => k_is)
    (case sa_LimitExceeded => k_is)
    (case ty_LimitExceeded => k_is)
    (case kp_LimitExceeded => k_is)
    (case tn_LimitExceeded => k_is)
    (case nf_LimitExceeded => k_is)
    (case ga_LimitExceeded => k_is)
    (case gg_LimitExceeded => k_is)
    (case ha_LimitExceeded => k_is)
    (case cl_pe => k_is)
    (case sb_pe => k_is)
    (case tp_pe => k_is)
    (case nd_e => decide)
    (case hn_e => k_is)
    (case ht_e => k_is)
    (case z_int => k_is)
    (case z_len => k_is)
    (case z_isinstance => k_is)
    (case z_range => k_is)
    (case z_ValueError => k_is)
    (case z_KeyError => k_is)
    (case z_RuntimeError => k_is)
#print axioms PySem.Challenge.cw_allornothing_k12_classes_of_errors_holds
