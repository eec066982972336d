import PyProof.Rows.All
import Wide.All
import OpenK.AllK
import Wide.FinOn
import HandS.ForMost
import HandS.Wide
import HandS.Steps
import HandS.IsInst
import HandS.More
import HandS.TupAny
import HandS.Deep
import HandS.Style
import HandS.DictComp
import HandS.Walk
import HandS.Property
import HandS.Text
import HandS.Records
import HandS.GenList
import HandS.Comp
import HandS.Words
import HandS.DeepEq
import HandS.ListEq
import PyProof.NeKinds
import PySem.Challenge.RW_allornothing_k27_crashes
set_option Elab.async false
set_option linter.all false
set_option maxRecDepth 100000
set_option maxHeartbeats 8000000
/-! EqInt: dicts of texts to ints compared, both answers, both signs. -/
namespace EqI
open PySem PySem.Spec PyProof.Rows L2
def valT : List (Str × Int) → Str → Option Int
  | [], _ => none
  | p :: r, x => if p.1 = x then some p.2 else valT r x
def dvI (t : List (Str × Int)) : List (Key × V) := t.map fun p => (Sum.inr p.1, V.int p.2)
def eqT (t t' : List (Str × Int)) : Bool := t.length == t'.length && t.all fun p => decide (valT t' p.1 = some p.2)
theorem val_dvI : ∀ (t : List (Str × Int)) (x : Str), valV (dvI t) (Sum.inr x) = (valT t x).map V.int
  | [], _ => rfl
  | p :: t, x => by
    by_cases h : p.1 = x
    · have e : valT (p :: t) x = some p.2 := if_pos h
      rw [e]
      exact valV_pos (p := ((Sum.inr p.1 : Key), V.int p.2)) (r := dvI t) (by rw [h])
    · have e : valT (p :: t) x = valT t x := if_neg h
      rw [e, ← val_dvI t x]
      exact valV_neg (p := ((Sum.inr p.1 : Key), V.int p.2)) (r := dvI t) (fun z => h (Sum.inr.inj z))
section
variable {X : Cx} {pins : List (Addr × Obj)} {σ : L2.St} {H : Hp} {s : Shared}
theorem hits_int (I : Inv X pins σ H s) {A : Around} (hu : A.units + 64 < cLine) {t' : List (Str × Int)} {vb : List (Key × Value)} (rb : KV (dvI t') vb) :
    ∀ (t : List (Str × Int)) {va : List (Key × Value)}, KV (dvI t) va → PySem.W.KeqHits A s vb va (t.all fun p => decide (valT t' p.1 = some p.2))
  | [], va, ra => by unfold KV at ra; cases ra; exact .nil
  | p :: t, va, ra => by
    have ra2 := ra
    unfold KV at ra2
    cases ra2 with
    | @cons _ q _ qs h tl =>
      obtain ⟨h1, h2⟩ := h
      obtain ⟨key, u⟩ := q
      have h1 : (Sum.inr p.1 : Key) = key := h1
      subst h1
      have rr : RelO (valV (dvI t') (Sum.inr p.1)) (valueAt vb (Sum.inr p.1)) := rb.val _
      rw [val_dvI] at rr
      have ih := hits_int I hu rb t (va := qs) (by unfold KV; exact tl)
      show PySem.W.KeqHits A s vb _ (decide (valT t' p.1 = some p.2) && _)
      cases hv : valT t' p.1 with
      | none =>
        rw [hv] at rr
        have e : (decide ((none : Option Int) = some p.2) && t.all fun p => decide (valT t' p.1 = some p.2)) = false := by rw [decide_eq_false (by intro z; cases z)]; rfl
        rw [e]
        refine .miss ?_
        cases e2 : valueAt vb (Sum.inr p.1) with
        | none => rfl
        | some y => rw [e2] at rr; exact rr.elim
      | some m =>
        rw [hv] at rr
        obtain ⟨w, hw, rw'⟩ := rr.some_of
        obtain ⟨as, r1⟩ := Dp.reads I (.int p.2) (.int p.2) u (.int p.2) h2
        obtain ⟨bs, r2⟩ := Dp.reads I (.int m) (.int m) w (.int m) rw'
        have e : decide ((some m : Option Int) = some p.2) = PyData.eqv (.int p.2) (.int m) := by
          by_cases z : m = p.2
          · rw [z]; simp [PyData.eqv]
          · rw [decide_eq_false (fun y => z (Option.some.inj y))]
            have z2 : ¬ p.2 = m := fun y => z y.symm
            simp [PyData.eqv, z2]
        rw [e]
        exact .hit hw (SeqAt.eqAt_reads (.int p.2) (.int m) A s u w as bs r1 r2 (by simp [PyData.canLay0]) (by simp [PyData.canLay0]) (SeqAt.room_of_shaped (by simp [SeqAt.shaped, PyData.canLay0, PyData.depth]) hu)) ih
def rEq2 : R2 := fun x y H Q => ∃ a b t t', x = .ref a ∧ y = .ref b ∧ H a = some (.dK (dvI t)) ∧ H b = some (.dK (dvI t')) ∧ Q (.bl (eqT t t')) H
def rNe2 : R2 := fun x y H Q => ∃ a b t t', x = .ref a ∧ y = .ref b ∧ H a = some (.dK (dvI t)) ∧ H b = some (.dK (dvI t')) ∧ Q (.bl (!eqT t t')) H
theorem op_eqI (hu : X.A.units + 66 < cLine) : OpR X (compareOp .Eq) rEq2 := by
  intro pins s σ H x y v u Q I rx ry h
  obtain ⟨a, b, t, t', rfl, rfl, ea, eb, q⟩ := h
  cases rx
  cases ry
  obtain ⟨_, ya, va, ra, da⟩ := (show ObjOk X.prog X.w H s.heap a (.dK (dvI t)) from I.hok a _ ea)
  obtain ⟨_, yb, vb, rb, db⟩ := (show ObjOk X.prog X.w H s.heap b (.dK (dvI t')) from I.hok b _ eb)
  refine PySem.W.keq_eq (knd := mixKind X.prog X.w) (r := t.all fun p => decide (valT t' p.1 = some p.2)) ya yb da db (by omega) (fun _ => hits_int I (show X.A.units + 1 + 64 < cLine by omega) rb t ra) (fin_bl I q ?_)
  have l1 : va.length = t.length := by rw [← ra.length]; exact List.length_map _
  have l2 : vb.length = t'.length := by rw [← rb.length]; exact List.length_map _
  unfold eqT
  rw [l1, l2]
theorem op_neI (hu : X.A.units + 66 < cLine) : OpR X (compareOp .NotEq) rNe2 := by
  intro pins s σ H x y v u Q I rx ry h
  obtain ⟨a, b, t, t', rfl, rfl, ea, eb, q⟩ := h
  cases rx
  cases ry
  obtain ⟨_, ya, va, ra, da⟩ := (show ObjOk X.prog X.w H s.heap a (.dK (dvI t)) from I.hok a _ ea)
  obtain ⟨_, yb, vb, rb, db⟩ := (show ObjOk X.prog X.w H s.heap b (.dK (dvI t')) from I.hok b _ eb)
  refine PySem.W.keq_ne (knd := mixKind X.prog X.w) (r := t.all fun p => decide (valT t' p.1 = some p.2)) ya yb da db (by omega) (fun _ => hits_int I (show X.A.units + 1 + 64 < cLine by omega) rb t ra) (fin_bl I q ?_)
  have l1 : va.length = t.length := by rw [← ra.length]; exact List.length_map _
  have l2 : vb.length = t'.length := by rw [← rb.length]; exact List.length_map _
  unfold eqT
  rw [l1, l2]
end
end EqI
/-! NeList: a != b of lists that are equal (lists, dicts in one another). -/
namespace NeL
open PySem PySem.SeqAt PySem.Spec PyProof.Rows
open AutoSeq1 (wpAny_loadPart')
open MeetsSeq MeetsSeq2 MeetsSeq3 SeqRoads2
section
variable {prog : Program} {w : World} {l b : Addr} {us ws : Array Value}
theorem walk_ne (n n2 : Nat) (d1 d2 : Option Addr) (s1 s2 : Array (Option Value)) (hz : us.size = ws.size) : ∀ (m i : Nat), us.size = i + m →
    MeetsIn prog w (Builtin.«list.__eq__.loop» ⟨[.ref l, .ref b, rawInt i, rawInt 3], []⟩) (fun A R s =>
      (s.heap.get? l = some { cls := .type "list", dict := d1, data := .seq us n, slots := s1 } ∧ s.heap.get? b = some { cls := .type "list", dict := d2, data := .seq ws n2, slots := s2 }) ∧
      (∀ (j : Nat) (x y : Value), us[j]? = some x → ws[j]? = some y → EqP prog w A.in1 s x y true) ∧ R (.ok (.ret (.bool false))) s)
  | 0, i, e => by
    intro A R s h
    obtain ⟨_, _, _, _, _⟩ := s
    obtain ⟨⟨h1, h2⟩, _, hR⟩ := h
    wp_walk using wpAny_loadPart' h1, wpAny_loadPart' h2
    have z1 : us[((i : Nat) : Int).toNat]? = none := Array.getElem?_eq_none (by omega)
    have z2 : ws[((i : Nat) : Int).toNat]? = none := Array.getElem?_eq_none (by omega)
    rw [z1, z2]
    wp_walk using wpAny_loadPart' h1, wpAny_loadPart' h2
    have z : (us.size != ws.size) = false := by rw [hz]; simp
    show R (.ok (.ret (.bool (us.size != ws.size)))) _
    rw [z]
    exact hR
  | m + 1, i, e => by
    intro A R s h
    obtain ⟨_, _, _, _, _⟩ := s
    obtain ⟨⟨h1, h2⟩, hE, hR⟩ := h
    wp_walk using wpAny_loadPart' h1, wpAny_loadPart' h2
    have z1 : us[((i : Nat) : Int).toNat]? = some (us[i]'(by omega)) := Array.getElem?_eq_getElem _
    have z2 : ws[((i : Nat) : Int).toNat]? = some (ws[i]'(by omega)) := Array.getElem?_eq_getElem _
    rw [z1, z2]
    refine wpAny_bind (hE i _ _ z1 z2 _ _ ?_)
    wp_walk
    rw [show ((i : Int) + 1) = ((i + 1 : Nat) : Int) from rfl]
    refine ⟨plainId_quiet plain_eq_loop _, codeAny_builtin entry_eq_loop ?_⟩
    rw [Around.under_plainId plain_eq_loop _]
    exact walk_ne n n2 d1 d2 s1 s2 hz m (i + 1) (by omega) A R _ ⟨⟨h1, h2⟩, hE, hR⟩
theorem meet_ne (n n2 : Nat) (d1 d2 : Option Addr) (s1 s2 : Array (Option Value)) (hz : us.size = ws.size) :
    MeetsIn prog w (Builtin.«list.__ne__» ⟨[.ref l, .ref b], []⟩) (fun A R s =>
      (s.heap.get? l = some { cls := .type "list", dict := d1, data := .seq us n, slots := s1 } ∧ s.heap.get? b = some { cls := .type "list", dict := d2, data := .seq ws n2, slots := s2 }) ∧
      (∀ (j : Nat) (x y : Value), us[j]? = some x → ws[j]? = some y → EqP prog w A.in1 s x y true) ∧ R (.ok (.ret (.bool false))) s) := by
  intro A R s h
  obtain ⟨_, _, _, _, _⟩ := s
  obtain ⟨⟨h1, h2⟩, hE, hR⟩ := h
  have q3 := AutoSeq1.sub_list_list
  have q4 : ¬ (us.size != ws.size) = true := by rw [hz]; simp
  wp_walk using wpAny_loadPart' h1, wpAny_loadPart' h2
  refine ⟨plainId_quiet plain_eq_loop _, codeAny_builtin entry_eq_loop ?_⟩
  rw [Around.under_plainId plain_eq_loop _]
  exact walk_ne n n2 d1 d2 s1 s2 hz us.size 0 (by omega) A R _ ⟨⟨h1, h2⟩, hE, hR⟩
theorem rc_ne {A : Around} {s : Shared} (hl : s.heap.IsList l us) (hb : s.heap.IsList b ws) (hz : us.size = ws.size) (hu : A.units < cLine)
    (hE : ∀ (j : Nat) (x y : Value), us[j]? = some x → ws[j]? = some y → EqP prog w A.in1 s x y true) (E Q : Value → Shared → Prop) (h : Q (.bool false) s) : wpAny (model prog w) A (richCompare .NotEq (.ref l) (.ref b)) Q E s := by
  obtain ⟨⟨k1, d1, t1, s1⟩, a1, b1, n1, c1⟩ := id hl
  obtain ⟨⟨k2, d2, t2, s2⟩, a2, b2, n2, c2⟩ := id hb
  simp only at b1 c1 b2 c2
  subst b1 c1 b2 c2
  refine wpAny_richCompare_same_room (op := .NotEq) (T := "list") ⟨_, a1, rfl⟩ ⟨_, a2, rfl⟩ F.slot_list_ne (call_meetsIn F.slot_list_ne ⟨_, a1, rfl⟩ F.entry_list_ne (F.args_list_ne_2 _ _) (meet_ne n1 n2 d1 d2 s1 s2 hz) ⟨⟨a1, a2⟩, hE, ?_⟩) hu
  exact ⟨fun x => (nomatch x), h⟩
end
open L2
section
variable {X : Cx}
/-- a != b, two lists that are equal -/
def rNeV (K : PySem.W.Frag) : R2 := fun x y H Q => ∃ n a b xs ys, n ≤ 60 ∧ x = .ref a ∧ y = .ref b ∧ SqL K H a xs ∧ SqL K H b ys ∧ Paired (EqV K H n) xs ys ∧ Q (.bl false) H
theorem op_neV (hu : X.A.units + 64 < cLine) : OpR X (compareOp .NotEq) (rNeV X.K) := by
  intro pins s σ H x y v u Q I rx ry h
  obtain ⟨n, a, b, xs, ys, hn, rfl, rfl, ha, hb, hp, q⟩ := h
  cases (show v = Value.ref a from rx)
  cases (show u = Value.ref b from ry)
  obtain ⟨vs, r1, p1, _⟩ := I.list ha
  obtain ⟨ts, r2, p2, _⟩ := I.list hb
  have hz : vs.toArray.size = ts.toArray.size := by
    rw [List.size_toArray, List.size_toArray, ← r1.length, ← r2.length]
    exact Paired.length hp
  refine rc_ne p1.isList p2.isList hz (by omega) (fun j x y hx hy => ?_) _ _ ⟨.bl false, H, I, rfl, q⟩
  have k := items_run (fun x y v u h rx ry => eqV_run I n X.A.in1 (by show X.A.units + 1 + n < cLine; omega) x y v u h rx ry) hp r1 r2 j
  rw [List.getElem?_toArray] at hx hy
  obtain ⟨i1, e1⟩ := List.getElem?_eq_some_iff.mp hx
  obtain ⟨i2, e2⟩ := List.getElem?_eq_some_iff.mp hy
  rw [← e1, ← e2]
  exact k i1 i2
end
end NeL
/-! GnA: a generator that sleeps stays as it is while a promise that says nothing of generators is kept:
the promise is asked at a table in which each sleeper is dead (waking it is stuck, looking at it shows the same). -/
namespace GnW
open PySem PySem.Spec PyProof.Rows L2
open Sem (wp)

def PlainFs (fs : List Frame) : Prop := ∀ F ∈ fs, ∃ k h g l c p kp, F = Frame.ret k h g l c p kp
theorem PlainFs.tail {F : Frame} {fs : List Frame} (h : PlainFs (F :: fs)) : PlainFs fs := fun x hx => h x (List.mem_cons_of_mem _ hx)
theorem PlainFs.nil : PlainFs [] := fun _ h => nomatch h
theorem PlainFs.app {a b : List Frame} (x : PlainFs a) (y : PlainFs b) : PlainFs (a ++ b) := fun F h => (List.mem_append.mp h).elim (x F) (y F)
theorem PlainFs.one {k : Result → Sem PySem.Fin} {h g l c p kp} : PlainFs [Frame.ret k h g l c p kp] := fun F z => ⟨k, h, g, l, c, p, kp, List.mem_singleton.mp z⟩
theorem PlainFs.split : ∀ {fs : List Frame}, PlainFs fs → splitAtGen fs = none
  | [], _ => rfl
  | F :: fs, h => by
    obtain ⟨k, hh, g, l, c, p, kp, rfl⟩ := h F List.mem_cons_self
    show (splitAtGen fs).map _ = none
    rw [h.tail.split]; rfl

theorem stuck_nil {M : Model} {Γ : PySem.Ctx} {p : Pos} {what : String} {s s' : Shared} {e : End} (h : Runs M Γ p (.unsupported what) [] s e s') : False := by cases h
theorem stuck_any {M : Model} {Γ : PySem.Ctx} {p : Pos} {what : String} {fs : List Frame} {s s' : Shared} {e : End} (h : Runs M Γ p (.unsupported what) fs s e s') : False := by
  cases fs with
  | nil => exact stuck_nil h
  | cons F fs =>
    cases h with
    | segRet a b => exact stuck_nil a
    | segGen a b => exact stuck_nil a
    | segSuspOut a b => exact stuck_nil b
    | segSuspGen a b c d => exact stuck_nil b

/-- it can't be woken -/
def DeadG : GenState → Prop
  | .suspended k _ _ _ _ _ => ∀ r, k r = .unsupported "dead"
  | _ => False
def PlainG : GenState → Prop
  | .suspended _ _ _ _ fs _ => PlainFs fs
  | _ => True
abbrev Own := Nat → Option GenState
structure TabOk (o : Own) (n : Nat) (G : Array GenState) : Prop where
  size : n ≤ G.size
  low : ∀ i x, o i = some x → i < n
  row : ∀ i x, G[i]? = some x → (∃ y, o i = some y ∧ DeadG x ∧ x.seen = y.seen) ∨ (o i = none ∧ PlainG x)
def raise (o : Own) (G : Array GenState) : Array GenState := G.mapIdx fun i x => (o i).getD x
def Raise (o : Own) (s : Shared) : Shared := { s with gens := raise o s.gens }
theorem raise_size {o : Own} {G : Array GenState} : (raise o G).size = G.size := by simp [raise]
theorem raise_at {o : Own} {G : Array GenState} {i : Nat} : (raise o G)[i]? = (G[i]?).map fun x => (o i).getD x := by simp [raise]
theorem raise_push {o : Own} {n : Nat} {G : Array GenState} {x : GenState} (T : TabOk o n G) : (raise o G).push x = raise o (G.push x) := by
  have hn : o G.size = none := by
    cases e : o G.size with
    | none => rfl
    | some y => exact absurd (T.low _ _ e) (Nat.not_lt.mpr T.size)
  apply Array.ext_getElem?
  intro i
  rw [raise_at, Array.getElem?_push, Array.getElem?_push, raise_size, raise_at]
  by_cases h : i = G.size
  · rw [if_pos h, if_pos h, h, hn]; rfl
  · rw [if_neg h, if_neg h]
theorem raise_set {o : Own} {G : Array GenState} {g : Nat} {x : GenState} (hg : o g = none) : (raise o G).setIfInBounds g x = raise o (G.setIfInBounds g x) := by
  apply Array.ext_getElem?
  intro i
  rw [raise_at, Array.getElem?_setIfInBounds, Array.getElem?_setIfInBounds, raise_size, raise_at]
  by_cases h : g = i
  · subst h
    rw [if_pos rfl, if_pos rfl]
    by_cases h2 : g < G.size
    · rw [if_pos h2]; show some x = some ((o g).getD x); rw [hg]; rfl
    · rw [if_neg h2]; rfl
  · rw [if_neg h, if_neg h]
theorem Raise_set {o : Own} {s : Shared} {g : Nat} {x : GenState} (hg : o g = none) : (Raise o s).setGen g x = Raise o (s.setGen g x) := by
  show ({ s with gens := (raise o s.gens).setIfInBounds g x } : Shared) = { s with gens := raise o (s.gens.setIfInBounds g x) }
  rw [raise_set hg]
theorem raised_row {o : Own} {s : Shared} {g : Nat} {x : GenState} (hs : s.gens[g]? = some x) (hn : o g = none) : (Raise o s).gens[g]? = some x := by
  show (raise o s.gens)[g]? = _
  rw [raise_at, hs, hn]; rfl
theorem TabOk.push {o : Own} {n : Nat} {G : Array GenState} {c : Code} (T : TabOk o n G) : TabOk o n (G.push (.fresh c)) := by
  refine ⟨by rw [Array.size_push]; exact Nat.le_succ_of_le T.size, T.low, fun i x h => ?_⟩
  rw [Array.getElem?_push] at h
  by_cases e : i = G.size
  · rw [if_pos e] at h
    cases h
    right
    refine ⟨?_, trivial⟩
    cases q : o i with
    | none => rfl
    | some y => exact absurd (T.low _ _ q) (by rw [e]; exact Nat.not_lt.mpr T.size)
  · rw [if_neg e] at h
    exact T.row i x h
theorem TabOk.set {o : Own} {n : Nat} {s : Shared} {g : Nat} {y : GenState} (T : TabOk o n s.gens) (hg : o g = none) (hy : PlainG y) : TabOk o n (s.setGen g y).gens := by
  refine ⟨by show n ≤ (s.gens.setIfInBounds g y).size; rw [Array.size_setIfInBounds]; exact T.size, T.low, fun i x h => ?_⟩
  have h : (s.gens.setIfInBounds g y)[i]? = some x := h
  rw [Array.getElem?_setIfInBounds] at h
  by_cases e : g = i
  · rw [if_pos e] at h
    split at h
    · cases h; exact .inr ⟨by rw [← e]; exact hg, hy⟩
    · cases h
  · rw [if_neg e] at h
    exact T.row i x h
def PlainE : End → Prop
  | .ret _ => True
  | .susp _ _ _ _ _ _ fs => PlainFs fs
theorem PlainE.state : ∀ {e : End}, PlainE e → PlainG e.genState
  | .ret _, _ => trivial
  | .susp .., h => h

/-- a run over the dead is a run over those that sleep -/
theorem runs_raised {M : Model} {o : Own} {n : Nat} {Γ : PySem.Ctx} {p : Pos} {t : Sem PySem.Fin} {fs : List Frame} {s s' : Shared} {e : End} (h : Runs M Γ p t fs s e s') :
    PlainFs fs → TabOk o n s.gens → Runs M Γ p t fs (Raise o s) e (Raise o s') ∧ TabOk o n s'.gens ∧ PlainE e := by
  induction h with
  | done => intro _ T; exact ⟨.done, T, trivial⟩
  | raise => intro _ T; exact ⟨.raise, T, trivial⟩
  | again hq _ ih => intro hf T; obtain ⟨a, b⟩ := ih hf T; exact ⟨.again hq a, b⟩
  | rule _ ih => intro hf T; obtain ⟨a, b⟩ := ih hf T; exact ⟨.rule a, b⟩
  | «at» _ ih => intro hf T; obtain ⟨a, b⟩ := ih hf T; exact ⟨.at a, b⟩
  | load ho _ ih => intro hf T; obtain ⟨a, b⟩ := ih hf T; exact ⟨.load ho a, b⟩
  | update ho _ ih => intro hf T; obtain ⟨a, b⟩ := ih hf T; exact ⟨.update ho a, b⟩
  | loadIfAlive _ ih => intro hf T; obtain ⟨a, b⟩ := ih hf T; exact ⟨.loadIfAlive a, b⟩
  | point _ ih => intro hf T; obtain ⟨a, b⟩ := ih hf T; exact ⟨.point a, b⟩
  | alloc _ ih => intro hf T; obtain ⟨a, b⟩ := ih hf T; exact ⟨.alloc a, b⟩
  | fresh _ ih => intro hf T; obtain ⟨a, b⟩ := ih hf T; exact ⟨.fresh a, b⟩
  | ask _ ih => intro hf T; obtain ⟨a, b⟩ := ih hf T; exact ⟨.ask a, b⟩
  | choose hn _ ih => intro hf T; obtain ⟨a, b⟩ := ih hf T; exact ⟨.choose hn a, b⟩
  | os _ ih => intro hf T; obtain ⟨a, b⟩ := ih hf T; exact ⟨.os a, b⟩
  | handled _ ih => intro hf T; obtain ⟨a, b⟩ := ih hf T; exact ⟨.handled a, b⟩
  | stack _ ih => intro hf T; obtain ⟨a, b⟩ := ih hf T; exact ⟨.stack a, b⟩
  | thread _ ih => intro hf T; obtain ⟨a, b⟩ := ih hf T; exact ⟨.thread a, b⟩
  | genState hs _ ih =>
    intro hf T
    obtain ⟨a, b⟩ := ih hf T
    rcases T.row _ _ hs with ⟨y, hy, _, hsee⟩ | ⟨hn, _⟩
    · refine ⟨.genState (st := y) ?_ ?_, b⟩
      · show (raise o _)[_]? = some y
        rw [raise_at, hs, hy]; rfl
      · rw [← hsee]; exact a
    · refine ⟨.genState ?_ a, b⟩
      show (raise o _)[_]? = some _
      rw [raise_at, hs, hn]; rfl
  | @newGen _ _ k s c _ _ _ ih =>
    intro hf T
    obtain ⟨a, b⟩ := ih hf T.push
    refine ⟨.newGen ?_, b⟩
    show Runs M _ _ (k (raise o s.gens).size) [] { s with gens := (raise o s.gens).push _ } _ _
    rw [raise_size, raise_push T]
    exact a
  | call _ _ ih1 ih2 => intro hf T; obtain ⟨a, b, _⟩ := ih1 .nil T; obtain ⟨a2, b2⟩ := ih2 hf b; exact ⟨.call a a2, b2⟩
  | callSusp _ ih => intro hf T; obtain ⟨a, b, c⟩ := ih .nil T; exact ⟨.callSusp a, b, PlainFs.app c .one⟩
  | yield => intro hf T; exact ⟨.yield, T, .nil⟩
  | @resumeFresh _ _ g l k s c e₁ s₁ _ _ hs _ hq _ ih1 ih2 =>
    intro hf T
    rcases T.row _ _ hs with ⟨_, _, hd, _⟩ | ⟨hn, _⟩
    · exact hd.elim
    · obtain ⟨a, b, c1⟩ := ih1 .nil (T.set (y := .running) hn trivial)
      obtain ⟨a2, b2⟩ := ih2 hf (b.set hn c1.state)
      rw [← Raise_set hn] at a a2
      refine ⟨.resumeFresh ?_ a hq a2, b2⟩
      show (raise o s.gens)[g]? = _
      rw [raise_at, hs, hn]; rfl
  | @resumeSuspended _ _ g r l k s k₀ l₀ c₀ p₀ fs cl e₁ s₁ _ _ hs hrun hq _ ih1 ih2 =>
    intro hf T
    rcases T.row _ _ hs with ⟨_, _, hd, _⟩ | ⟨hn, hp⟩
    · exfalso
      have hk : k₀ r = .unsupported "dead" := hd r
      rw [hk] at hrun
      exact stuck_any hrun
    · obtain ⟨a, b, c1⟩ := ih1 hp (T.set (y := .running) hn trivial)
      obtain ⟨a2, b2⟩ := ih2 hf (b.set hn c1.state)
      rw [← Raise_set hn] at a a2
      refine ⟨.resumeSuspended (l₀ := l₀) (cl := cl) ?_ a hq a2, b2⟩
      show (raise o s.gens)[g]? = _
      rw [raise_at, hs, hn]; rfl
  | resumeJustStarted hs hv _ ih =>
    intro hf T
    rcases T.row _ _ hs with ⟨_, _, hd, _⟩ | ⟨hn, _⟩
    · exact hd.elim
    · obtain ⟨a, b⟩ := ih hf T
      exact ⟨.resumeJustStarted (raised_row hs hn) hv a, b⟩
  | resumeThrowFresh hs _ ih =>
    intro hf T
    rcases T.row _ _ hs with ⟨_, _, hd, _⟩ | ⟨hn, _⟩
    · exact hd.elim
    · obtain ⟨a, b⟩ := ih hf (T.set (y := .finished) hn trivial)
      rw [← Raise_set hn] at a
      exact ⟨.resumeThrowFresh (raised_row hs hn) a, b⟩
  | resumeRunning hs _ ih =>
    intro hf T
    rcases T.row _ _ hs with ⟨_, _, hd, _⟩ | ⟨hn, _⟩
    · exact hd.elim
    · obtain ⟨a, b⟩ := ih hf T
      exact ⟨.resumeRunning (raised_row hs hn) a, b⟩
  | resumeFinished hs _ ih =>
    intro hf T
    rcases T.row _ _ hs with ⟨_, _, hd, _⟩ | ⟨hn, _⟩
    · exact hd.elim
    · obtain ⟨a, b⟩ := ih hf T
      exact ⟨.resumeFinished (raised_row hs hn) a, b⟩
  | segRet _ _ ih1 ih2 => intro hf T; obtain ⟨a, b, _⟩ := ih1 .nil T; obtain ⟨a2, b2⟩ := ih2 hf.tail b; exact ⟨.segRet a a2, b2⟩
  | segGen _ _ _ _ => intro hf T; obtain ⟨_, _, _, _, _, _, _, e⟩ := hf _ List.mem_cons_self; cases e
  | segSuspOut hsp _ ih => intro hf T; obtain ⟨a, b, c⟩ := ih .nil T; exact ⟨.segSuspOut hsp a, b, PlainFs.app c hf⟩
  | segSuspGen hsp _ _ _ _ _ => intro hf T; rw [hf.split] at hsp; cases hsp

theorem wakes_raised {M : Model} {o : Own} {n : Nat} {Γ : PySem.Ctx} {p : Pos} {g : Nat} {r : Resume} {s s' : Shared} {res : GenResult} (T : TabOk o n s.gens) (h : Wakes M Γ p g r s res s') :
    Wakes M Γ p g r (Raise o s) res (Raise o s') ∧ TabOk o n s'.gens := by
  unfold Wakes at h ⊢
  cases hs : s.gens[g]? with
  | none => rw [hs] at h; exact h.elim
  | some x =>
    rw [hs] at h
    rcases T.row _ _ hs with ⟨y, hy, hd, _⟩ | ⟨hn, hp⟩
    · cases x with
      | suspended k₀ l₀ c₀ p₀ fs cl =>
        obtain ⟨e₁, s₁, hr, _⟩ := h
        rw [show k₀ r = .unsupported "dead" from hd r] at hr
        exact (stuck_any hr).elim
      | _ => exact hd.elim
    · have hR : (Raise o s).gens[g]? = some x := by
        show (raise o s.gens)[g]? = _
        rw [raise_at, hs, hn]; rfl
      rw [hR]
      cases x with
      | fresh c =>
        cases r with
        | send v =>
          cases v with
          | none =>
            obtain ⟨e₁, s₁, hr, hq, rfl, rfl⟩ := h
            obtain ⟨a, b, c1⟩ := runs_raised hr .nil (T.set (y := .running) hn trivial)
            rw [← Raise_set hn] at a
            exact ⟨⟨e₁, Raise o s₁, a, hq, rfl, (Raise_set hn).symm⟩, b.set hn c1.state⟩
          | _ => obtain ⟨rfl, rfl⟩ := h; exact ⟨⟨rfl, rfl⟩, T⟩
        | throw x => obtain ⟨rfl, rfl⟩ := h; exact ⟨⟨rfl, (Raise_set hn).symm⟩, T.set (y := .finished) hn trivial⟩
      | suspended k₀ l₀ c₀ p₀ fs cl =>
        obtain ⟨e₁, s₁, hr, hq, rfl, rfl⟩ := h
        obtain ⟨a, b, c1⟩ := runs_raised hr hp (T.set (y := .running) hn trivial)
        rw [← Raise_set hn] at a
        exact ⟨⟨e₁, Raise o s₁, a, hq, rfl, (Raise_set hn).symm⟩, b.set hn c1.state⟩
      | running => obtain ⟨rfl, rfl⟩ := h; exact ⟨⟨rfl, rfl⟩, T⟩
      | finished => obtain ⟨rfl, rfl⟩ := h; exact ⟨⟨rfl, rfl⟩, T⟩

theorem wp_raised {α : Type} {M : Model} {Γ : PySem.Ctx} {o : Own} {n : Nat} (t : Sem α) : ∀ (Q : α → Pos → Shared → Prop) (E : Value → Pos → Shared → Prop) (p : Pos) (s : Shared), TabOk o n s.gens → wp M Γ t Q E p s →
    wp M Γ t (fun a p' s' => ∃ s1, s' = Raise o s1 ∧ TabOk o n s1.gens ∧ Q a p' s1) (fun e p' s' => ∃ s1, s' = Raise o s1 ∧ TabOk o n s1.gens ∧ E e p' s1) p (Raise o s) := by
  induction t with
  | pure a => intro Q E p s T h; exact ⟨s, rfl, T, h⟩
  | raise e => intro Q E p s T h; exact ⟨s, rfl, T, h⟩
  | unsupported _ => intro Q E p s _ h; exact h
  | finish _ => intro Q E p s _ h; exact h
  | rule _ k ih => intro Q E p s T h; exact ih () Q E p s T h
  | «at» p' k ih => intro Q E p s T h; exact ih () Q E p' s T h
  | load a _ k ih => intro Q E p s T h; obtain ⟨ob, ho, h⟩ := h; exact ⟨ob, ho, ih ob Q E p s T h⟩
  | update a _ f k ih => intro Q E p s T h; exact ⟨h.1, ih () Q E p { s with heap := s.heap.update a f } T h.2⟩
  | loadIfAlive a k ih => intro Q E p s T h; exact ih _ Q E p s T h
  | point _ k ih => intro Q E p s T h; exact ih () Q E p s T h
  | register _ _ => intro Q E p s _ h; exact h
  | alloc ob k ih => intro Q E p s T h; exact ih s.heap.objs.size Q E p { s with heap := s.heap.push ob } T h
  | fresh k ih => intro Q E p s T h; exact ih s.toks Q E p { s with toks := s.toks + 1 } T h
  | ask k ih => intro Q E p s T h; exact ih _ Q E p s T h
  | choose src m k ih => intro Q E p s T h; exact ⟨h.1, ih (M.w.draws src (s.drawn.get src) % m) Q E p { s with drawn := s.drawn.bump src } T h.2⟩
  | os q _ k ih => intro Q E p s T h; exact ih (Os.step s.os q).2 Q E p { s with os := (Os.step s.os q).1 } T h
  | call c hd _ _ k ih =>
    intro Q E p s T h
    obtain ⟨r, s', hr, h⟩ := h
    obtain ⟨a, b, _⟩ := runs_raised hr .nil T
    exact ⟨r, Raise o s', a, ih r Q E p s' b h⟩
  | handled own k ih => intro Q E p s T h; exact ih _ Q E p s T h
  | genState g k ih =>
    intro Q E p s T h
    obtain ⟨st, hs, h⟩ := h
    rcases T.row _ _ hs with ⟨y, hy, _, hsee⟩ | ⟨hn, _⟩
    · refine ⟨y, ?_, ?_⟩
      · show (raise o s.gens)[g]? = some y
        rw [raise_at, hs, hy]; rfl
      · rw [← hsee]; exact ih _ Q E p s T h
    · refine ⟨st, ?_, ih _ Q E p s T h⟩
      show (raise o s.gens)[g]? = some st
      rw [raise_at, hs, hn]; rfl
  | newGen c k ih =>
    intro Q E p s T h
    have z := ih s.gens.size Q E p _ (TabOk.push (c := c) T) h
    show wp M Γ (k (raise o s.gens).size) _ _ p { s with gens := (raise o s.gens).push (.fresh c) }
    rw [raise_size, raise_push T]
    exact z
  | resume g r _ k ih =>
    intro Q E p s T h
    obtain ⟨res, s', hw, h⟩ := h
    obtain ⟨a, b⟩ := wakes_raised T hw
    exact ⟨res, Raise o s', a, ih res Q E p s' b h⟩
  | yield _ _ _ _ => intro Q E p s _ h; exact h
  | stack k ih => intro Q E p s T h; exact ih _ Q E p s T h
  | fork _ _ => intro Q E p s _ h; exact h
  | thread k ih => intro Q E p s T h; exact ih _ Q E p s T h
  | await _ _ _ _ _ => intro Q E p s _ h; exact h

/-! ### the dead ones of a table -/
def Sleeps : GenState → Prop
  | .suspended .. => True
  | _ => False
def laid (F : Frame) : Frame := .ret (fun _ => .unsupported "dead") none false [] F.where_.1 F.where_.2 []
def dead : GenState → GenState
  | .suspended _ l c p fs cl => .suspended (fun _ => .unsupported "dead") l c p (fs.map laid) cl
  | x => x
def sleeper : GenState → Option GenState
  | .suspended k l c p fs cl => some (.suspended k l c p fs cl)
  | _ => none
theorem seen_dead (x : GenState) : (dead x).seen = x.seen := by
  cases x with
  | suspended k l c p fs cl =>
    show (GenStatus.suspended, some ((c, p) :: (fs.map laid).map Frame.where_)) = (GenStatus.suspended, some ((c, p) :: fs.map Frame.where_))
    rw [List.map_map]
    have e : Frame.where_ ∘ laid = Frame.where_ := funext fun F => rfl
    rw [e]
  | _ => rfl
theorem bare_dead (x : GenState) : (dead x).bare = x.bare := by cases x <;> rfl
def ownOf (G : Array GenState) : Own := fun i => (G[i]?).bind sleeper
theorem tab_dead (G : Array GenState) : TabOk (ownOf G) G.size (G.map dead) := by
  refine ⟨by rw [Array.size_map]; exact Nat.le_refl _, fun i x h => ?_, fun i x h => ?_⟩
  · unfold ownOf at h
    cases e : G[i]? with
    | none => rw [e] at h; cases h
    | some y => exact (Array.getElem?_eq_some_iff.mp e).1
  · rw [Array.getElem?_map] at h
    cases e : G[i]? with
    | none => rw [e] at h; cases h
    | some y =>
      rw [e] at h
      cases h
      cases y with
      | suspended k l c p fs cl => exact .inl ⟨_, by unfold ownOf; rw [e]; rfl, fun _ => rfl, seen_dead _⟩
      | _ => exact .inr ⟨by unfold ownOf; rw [e]; rfl, trivial⟩
theorem raise_dead (G : Array GenState) : raise (ownOf G) (G.map dead) = G := by
  apply Array.ext_getElem?
  intro i
  rw [raise_at, Array.getElem?_map]
  unfold ownOf
  cases e : G[i]? with
  | none => rfl
  | some y => cases y <;> rfl
theorem bare_map {G : Array GenState} (h : AllBare G) : AllBare (G.map dead) := fun x hx => by
  obtain ⟨y, hy, rfl⟩ := Array.mem_map.mp hx
  rw [bare_dead]; exact h y hy
theorem bare_raised {G0 G : Array GenState} (h0 : AllBare G0) (h : AllBare G) : AllBare (raise (ownOf G0) G) := fun x hx => by
  obtain ⟨i, hi, e⟩ := Array.mem_iff_getElem.mp hx
  have e2 : (raise (ownOf G0) G)[i]? = some x := by rw [Array.getElem?_eq_getElem hi, e]
  rw [raise_at] at e2
  cases q : G[i]? with
  | none => rw [q] at e2; cases e2
  | some y =>
    rw [q] at e2
    have e3 : (ownOf G0 i).getD y = x := Option.some.inj e2
    unfold ownOf at e3
    cases q0 : G0[i]? with
    | none => rw [q0] at e3; rw [← e3]; exact h y (Array.mem_of_getElem? q)
    | some z =>
      rw [q0] at e3
      have hz := h0 z (Array.mem_of_getElem? q0)
      cases z with
      | suspended => rw [← e3]; exact hz
      | _ => rw [← e3]; exact h y (Array.mem_of_getElem? q)
/-- those that sleep in s sleep in s' as they did -/
def SameSleep (s s' : Shared) : Prop := ∀ (g : Nat) (x : GenState), Sleeps x → s.gens[g]? = some x → s'.gens[g]? = some x
theorem SameSleep.refl (s : Shared) : SameSleep s s := fun _ _ _ h => h
theorem SameSleep.trans {a b c : Shared} (x : SameSleep a b) (y : SameSleep b c) : SameSleep a c := fun g u hu h => y g u hu (x g u hu h)
theorem sleep_raised {G : Array GenState} {n : Nat} {s1 : Shared} (T : TabOk (ownOf G) n s1.gens) (hn : n = G.size) : ∀ (g : Nat) (x : GenState), Sleeps x → G[g]? = some x → (Raise (ownOf G) s1).gens[g]? = some x := fun g x hx h => by
  show (raise (ownOf G) s1.gens)[g]? = some x
  have hlt : g < s1.gens.size := Nat.lt_of_lt_of_le (Array.getElem?_eq_some_iff.mp h).1 (hn ▸ T.size)
  rw [raise_at, Array.getElem?_eq_getElem hlt]
  unfold ownOf
  rw [h]
  cases x with
  | suspended => rfl
  | _ => exact hx.elim
/-- THE RULE: what is promised whatever the table of generators holds leaves those asleep that sleep -/
theorem wpAny_asleep {α : Type} {M : Model} {A : Around} {t : Sem α} {Q : α → Shared → Prop} {E : Value → Shared → Prop} {s : Shared} (hb : AllBare s.gens) (h : ∀ G, AllBare G → wpAny M A t Q E { s with gens := G }) :
    wpAny M A t (fun a s' => SameSleep s s' ∧ ∃ G, (AllBare G → AllBare s'.gens) ∧ Q a { s' with gens := G }) (fun e s' => SameSleep s s' ∧ ∃ G, (AllBare G → AllBare s'.gens) ∧ E e { s' with gens := G }) s := by
  intro Γ p hΓ
  have z := wp_raised t _ _ p _ (tab_dead s.gens) (h _ (bare_map hb) Γ p hΓ)
  have es : Raise (ownOf s.gens) { s with gens := s.gens.map dead } = s := by
    show ({ s with gens := raise (ownOf s.gens) (s.gens.map dead) } : Shared) = s
    rw [raise_dead]
  rw [es] at z
  refine Sem.wp_mono M Γ t (fun a p' s' h' => ?_) (fun e p' s' h' => ?_) p s z
  · obtain ⟨s1, rfl, T, q⟩ := h'
    exact ⟨sleep_raised T rfl, s1.gens, fun hG => bare_raised hb hG, q⟩
  · obtain ⟨s1, rfl, T, q⟩ := h'
    exact ⟨sleep_raised T rfl, s1.gens, fun hG => bare_raised hb hG, q⟩
end GnW
/-! GnB: pieces of a generator's run between two wakes, with a ghost that the waker gives (what it knows of the heap, what it holds). -/
namespace GnW
open PySem PySem.Spec PyProof.Rows L2
open Sem (wp)

/-- the end of a piece: the ghost, the result, the state -/
abbrev PEnd (G : Type) := G → Result → Shared → Prop
/-- what is handed out: the ghost, the value, the state, the way on -/
abbrev PPro (G : Type) := G → Value → Shared → (Resume → G → Shared → Prop) → Prop
def PieceEnd {G : Type} (R : PEnd G) (Y : PPro G) (γ : G) (more : G → Code → Sem PySem.Fin → List Frame → Shared → Prop) (e : End) (s' : Shared) : Prop :=
  match e with
  | .ret r => R γ r s'
  | .susp v g l k c p fs => (End.susp v g l k c p fs).quiet = true ∧ Y γ v s' fun r γ' s'' => more γ' c (k r) fs s''
def Piece {G : Type} (M : Model) (A : Around) (R : PEnd G) (Y : PPro G) : Nat → G → Code → Sem PySem.Fin → List Frame → Shared → Prop
  | 0 => fun γ c t fs s => ∀ Γ p, Γ.code = c → Γ.Woken A → ∃ e s', Runs M Γ p t fs s e s' ∧ PieceEnd R Y γ (fun _ _ _ _ _ => False) e s'
  | n + 1 => fun γ c t fs s => ∀ Γ p, Γ.code = c → Γ.Woken A → ∃ e s', Runs M Γ p t fs s e s' ∧ PieceEnd R Y γ (Piece M A R Y n) e s'
def Piece.more {G : Type} (M : Model) (A : Around) (R : PEnd G) (Y : PPro G) : Nat → G → Code → Sem PySem.Fin → List Frame → Shared → Prop
  | 0 => fun _ _ _ _ _ => False
  | n + 1 => Piece M A R Y n
section
variable {G : Type} {M : Model} {A : Around} {R : PEnd G} {Y : PPro G} {n : Nat} {γ : G} {c : Code} {fs : List Frame} {s : Shared} {t : Sem PySem.Fin}
theorem piece_iff : Piece M A R Y n γ c t fs s ↔ ∀ Γ p, Γ.code = c → Γ.Woken A → ∃ e s', Runs M Γ p t fs s e s' ∧ PieceEnd R Y γ (Piece.more M A R Y n) e s' := by
  cases n <;> exact Iff.rfl
theorem piece_wrap {α : Type} {m : Sem α} {K : α → Sem PySem.Fin} {J : Value → Sem PySem.Fin} {gd : Bool → Bool} {lv : List Value → List Value}
    (h : wpAny M (A.over c fs) m (fun a s' => Piece M A R Y n γ c (K a) fs s') (fun x s' => Piece M A R Y n γ c (J x) fs s') s) : Piece M A R Y n γ c (m.wrap K J gd lv) fs s := by
  refine piece_iff.mpr fun Γ p hc hΓ => ?_
  subst hc
  have w := h (Γ.over fs) p (Ctx.Woken.over hΓ fs)
  exact runs_wrap_of_wp K J gd lv m w (fun a p' s' q => piece_iff.mp q Γ p' rfl hΓ) fun x p' s' q => piece_iff.mp q Γ p' rfl hΓ
theorem piece_bind {α : Type} {m : Sem α} {K : α → Sem PySem.Fin} (h : wpAny M (A.over c fs) m (fun a s' => Piece M A R Y n γ c (K a) fs s') (fun x s' => Piece M A R Y n γ c (.raise x) fs s') s) :
    Piece M A R Y n γ c (m >>= K) fs s := by
  have e : m >>= K = m.wrap K .raise id id := Sem.bind_eq_wrap' m K
  rw [e]; exact piece_wrap h
theorem piece_bind_wrap {α β : Type} {m : Sem α} {K : α → Sem β} {K' : β → Sem PySem.Fin} {J : Value → Sem PySem.Fin} {gd : Bool → Bool} {lv : List Value → List Value}
    (h : wpAny M (A.over c fs) m (fun a s' => Piece M A R Y n γ c ((K a).wrap K' J gd lv) fs s') (fun x s' => Piece M A R Y n γ c (J x) fs s') s) : Piece M A R Y n γ c ((m >>= K).wrap K' J gd lv) fs s := by
  have e : (m >>= K).wrap K' J gd lv = m.wrap (fun a => (K a).wrap K' J gd lv) J gd lv := by rw [Sem.bind_eq_wrap', Sem.wrap_wrap]; rfl
  rw [e]; exact piece_wrap h
theorem piece_at {p' : Pos} {k : Unit → Sem PySem.Fin} (h : Piece M A R Y n γ c (k ()) fs s) : Piece M A R Y n γ c (.at p' k) fs s := by
  refine piece_iff.mpr fun Γ p hc hΓ => ?_
  obtain ⟨e, s', hr, he⟩ := piece_iff.mp h Γ p' hc hΓ
  exact ⟨e, s', Runs.head' (fun _ _ x => .at x) hr, he⟩
theorem piece_point {l : List Value} {k : Unit → Sem PySem.Fin} (h : Piece M A R Y n γ c (k ()) fs s) : Piece M A R Y n γ c (.point l k) fs s := by
  refine piece_iff.mpr fun Γ p hc hΓ => ?_
  obtain ⟨e, s', hr, he⟩ := piece_iff.mp h Γ p hc hΓ
  exact ⟨e, s', Runs.head' (fun _ _ x => .point x) hr, he⟩
theorem piece_call {c' : Code} {h : Option Value} {g : Bool} {l : List Value} {k : Result → Sem PySem.Fin} (hc : ∀ p, Piece M A R Y n γ c' (M.den c') (.ret k h g l c p [] :: fs) s) : Piece M A R Y n γ c (.call c' h g l k) fs s := by
  refine piece_iff.mpr fun Γ p e hΓ => ?_
  subst e
  obtain ⟨e, s', hr, he⟩ := piece_iff.mp (hc p) (Γ.goto c') p rfl hΓ
  exact ⟨e, s', runs_call_seg hr, he⟩
theorem piece_leaf {k : Result → Sem PySem.Fin} {h : Option Value} {g : Bool} {l kp : List Value} {c₁ : Code} {p₁ : Pos} (r : Result) (hk : Piece M A R Y n γ c₁ (k r) fs s) : Piece M A R Y n γ c (leafOf r) (.ret k h g l c₁ p₁ kp :: fs) s := by
  refine piece_iff.mpr fun Γ p e hΓ => ?_
  subst e
  obtain ⟨e, s', hr, he⟩ := piece_iff.mp hk (Γ.goto c₁) p₁ rfl hΓ
  exact ⟨e, s', Runs.pop r hr, he⟩
theorem piece_again {c' : Code} (hq : c'.quiet = true) (hc : Piece M A R Y n γ c' (M.den c') fs s) : Piece M A R Y n γ c (.pure (.again c')) fs s := by
  refine piece_iff.mpr fun Γ p e hΓ => ?_
  subst e
  obtain ⟨e, s', hr, he⟩ := piece_iff.mp hc (Γ.goto c') p rfl hΓ
  exact ⟨e, s', Runs.head (c₁ := c') (fun _ _ x => .again hq x) hr, he⟩
theorem piece_end (r : Result) (h : R γ r s) : Piece M A R Y n γ c (leafOf r) [] s :=
  piece_iff.mpr fun Γ p _ _ => ⟨.ret r, s, Runs.leaf r, h⟩
theorem piece_yield {v : Value} {g : Bool} {l : List Value} {k : Resume → Sem PySem.Fin} (hfs : splitAtGen fs = none) (hg : g = false) (hfg : fs.any Frame.guarded = false)
    (h : Y γ v s fun r γ' s'' => Piece M A R Y n γ' c (k r) fs s'') : Piece M A R Y (n + 1) γ c (.yield v g l k) fs s := by
  intro Γ p e _
  subst e
  exact ⟨_, s, Runs.yield' fs hfs, by simp [End.quiet, hg, hfg], h⟩
/-- a generator's state goes on so -/
def GoesOn (M : Model) (A : Around) (R : PEnd G) (Y : PPro G) (n : Nat) (gs : GenState) (r : Resume) (γ : G) (s : Shared) : Prop :=
  match gs with
  | .fresh c => r = .send .none ∧ Piece M A R Y n γ c (M.den c) [] s
  | .suspended k _ c _ fs _ => Piece M A R Y n γ c (k r) fs s
  | _ => False
def GoesOn.more (M : Model) (A : Around) (R : PEnd G) (Y : PPro G) : Nat → GenState → Resume → G → Shared → Prop
  | 0 => fun _ _ _ _ => False
  | n + 1 => GoesOn M A R Y n
theorem wake_any {Ev : Value → Shared → Prop} {g : Nat} {gs : GenState} {r : Resume} {l : List Value} {α : Type} {k : GenResult → Sem α} {Q : α → Shared → Prop} (hg : s.gens[g]? = some gs) (hgo : GoesOn M A R Y n gs r γ (s.setGen g .running))
    (hR : ∀ x s₁, R γ x s₁ → wpAny M A (k (End.ret x).result) Q Ev (s₁.setGen g .finished))
    (hY : ∀ v s₁ gs', gs'.bare = true → Sleeps gs' → Y γ v s₁ (fun r' γ' s'' => GoesOn.more M A R Y n gs' r' γ' s'') → wpAny M A (k (.yielded v)) Q Ev (s₁.setGen g gs')) :
    wpAny M A (.resume g r l k) Q Ev s := by
  intro Γ p hΓ
  rw [Sem.wp_resume]
  have hB : ∀ c, (Γ.wake c p).Woken A := fun c => hΓ.wake c p
  have past : ∀ e₁ s₁, PieceEnd R Y γ (Piece.more M A R Y n) e₁ s₁ → e₁.quiet = true ∧ wp M Γ (k e₁.result) (fun a _ s' => Q a s') (fun e _ s' => Ev e s') p (s₁.setGen g e₁.genState) := by
    intro e₁ s₁ he
    cases e₁ with
    | ret x => exact ⟨rfl, hR x s₁ he Γ p hΓ⟩
    | susp v g₀ l₀ k₀ c₀ p₀ fs₀ =>
      obtain ⟨hq, hy⟩ := he
      refine ⟨hq, hY v s₁ _ (End.bare_of_quiet hq) trivial ?_ Γ p hΓ⟩
      cases n with
      | zero => exact hy
      | succ m => exact hy
  have wk : ∀ c t fs p₀, Piece M A R Y n γ c t fs (s.setGen g .running) → ∃ e₁ s₁, Runs M (Γ.wake c p) p₀ t fs (s.setGen g .running) e₁ s₁ ∧ PieceEnd R Y γ (Piece.more M A R Y n) e₁ s₁ := fun c t fs p₀ hp => piece_iff.mp hp (Γ.wake c p) p₀ rfl (hB c)
  cases gs with
  | fresh c =>
    obtain ⟨e0, hs⟩ := hgo
    subst e0
    obtain ⟨e₁, s₁, hr, he⟩ := wk _ _ _ p hs
    obtain ⟨hq, hw⟩ := past e₁ s₁ he
    refine ⟨e₁.result, s₁.setGen g e₁.genState, ?_, hw⟩
    unfold Wakes
    rw [hg]
    exact ⟨e₁, s₁, hr, hq, rfl, rfl⟩
  | suspended k₀ l₀ c₀ p₀ fs₀ cl =>
    obtain ⟨e₁, s₁, hr, he⟩ := wk _ _ _ p₀ hgo
    obtain ⟨hq, hw⟩ := past e₁ s₁ he
    refine ⟨e₁.result, s₁.setGen g e₁.genState, ?_, hw⟩
    unfold Wakes
    rw [hg]
    exact ⟨e₁, s₁, hr, hq, rfl, rfl⟩
  | running => exact hgo.elim
  | finished => exact hgo.elim
end

section
variable {G : Type} {P : Program} {w : World} {A : Around} {R : PEnd G} {Y : PPro G} {n : Nat} {γ : G} {Ev : Value → Shared → Prop} {s : Shared}
/-- next(g) -/
theorem next_any {a : Addr} {g : Nat} {gs : GenState} {F : G → Shared → Prop} {Q : Option Value → Shared → Prop} (hh : A.handled = none) (hl : s.heap.NoLimit) (hroom : A.depth < recursionLimit) (hg : s.heap.IsGen a g) (hgs : s.gens[g]? = some gs)
    (hF : ∀ γ r s, R γ r s → (r = .ok (.ret .none) ∨ r = .ok .next) ∧ F γ s)
    (hgo : GoesOn (model P w) A.in1 R Y n gs (.send .none) γ (s.setGen g .running))
    (hY : ∀ v s₁ gs', gs'.bare = true → Sleeps gs' → Y γ v s₁ (fun r' γ' s'' => GoesOn.more (model P w) A.in1 R Y n gs' r' γ' s'') → Q (some v) (s₁.setGen g gs'))
    (hP : ∀ s₁, F γ s₁ → ∀ h', (∀ b o, s₁.heap.get? b = some o → h'.get? b = some o) → Q none { s₁.setGen g .finished with heap := h' }) :
    wpAny (model P w) A (pyNext (.ref a)) Q Ev s := by
  unfold pyNext
  refine wpAny_bind (wpAny_attempt (wpAny_callSpecial?_slot (name := Str.ofString "__next__") hg.typeIs slot_gen_next (wpAny_call_entry slot_gen_next hg.typeIs entry_gen_next ?_ (args_gen_next _))))
  show wpAny _ A.in1 (Builtin.Generator.genWake (.ref a) (.send .none)) _ _ s
  unfold Builtin.Generator.genWake
  refine wpAny_bind (wpAny_holding (wpAny_genNumber hg (wpAny_bind (wpAny_genState hgs ?_))))
  have go : wpAny (model P w) A.in1 (.resume g (.send .none) [] fun x => match x with
      | .yielded v => (pure v : Sem Value)
      | _ => unsupported "") (fun _ _ => True) (fun _ _ => True) s → True := fun _ => trivial
  cases gs with
  | running => exact hgo.elim
  | finished => exact hgo.elim
  | _ =>
    refine wpAny_bind (wpAny_roomToWake hl hroom ?_)
    show wpAny _ A.in1 (.resume g (.send .none) [] _) _ _ s
    refine wake_any hgs hgo (fun x s₁ hx => ?_) (fun v s₁ gs' hb hz hv => ?_)
    · obtain ⟨hr, hp⟩ := hF _ _ _ hx
      have hres : End.result (.ret x) = .returned .none := by
        rcases hr with e | e
        · rw [e]; rfl
        · rw [e]; rfl
      rw [hres]
      show wpAny _ A.in1 (newExc (.type "StopIteration") [] >>= _) _ _ _
      refine wpAny_bind ?_
      simp only [newExc, newTuple]
      refine wpAny_bind (wpAny_newObj_type ?_ (by size_fits))
      refine wpAny_bind (m := firstArgMember _ _) (wpAny_of_eq (a := Value.none) (by first | rfl | (simp only [firstArgMember]; rfl)) ?_)
      refine wpAny_newObj_type ?_ (by size_fits)
      simp only [raiseNew]
      refine wpAny_bind (wpAny_bind (wpAny_handled ?_))
      first | rw [show A.in1.handled = none from hh] | rw [hh]
      refine wpAny_throw (wpAny_bind (wpAny_isInstance (T := "StopIteration") (b := true) ⟨_, Heap.get?_push_size _ rfl, rfl⟩ isSubtype_stop (wpAny_pure ?_)))
      exact hP s₁ hp _ fun b o hb => Heap.get?_push_of_some _ (Heap.get?_push_of_some _ hb)
    · exact wpAny_pure ⟨v, rfl, wpAny_pure (hY v s₁ gs' hb hz hv)⟩
end

section
variable {G : Type} {M : Model} {A : Around} {R : PEnd G} {Y : PPro G} {n : Nat} {γ : G} {c : Code} {fs : List Frame} {s : Shared} {env : Env} {K : Flow → Sem PySem.Fin} {J : Value → Sem PySem.Fin} {gd : Bool → Bool} {lv : List Value → List Value}
theorem piece_execs_nil (h : Piece M A R Y n γ c (K .next) fs s) : Piece M A R Y n γ c ((execs [] env).wrap K J gd lv) fs s := h
theorem piece_execs_cons {st : Stmt} {rest : List Stmt} (h : Piece M A R Y n γ c ((exec st env).wrap (fun f => match f with | .next => (execs rest env).wrap K J gd lv | f => K f) J gd lv) fs s) :
    Piece M A R Y n γ c ((execs (st :: rest) env).wrap K J gd lv) fs s := by
  have e : (execs (st :: rest) env).wrap K J gd lv = (exec st env).wrap (fun f => match f with | .next => (execs rest env).wrap K J gd lv | f => K f) J gd lv := execs_cons_wrap st rest
  rw [e]; exact h
/-- yield e, as a statement -/
theorem piece_Yield {e : Expr} {ypos pos : Pos} (hfs : splitAtGen fs = none) (hgd : gd false = false) (hfg : fs.any Frame.guarded = false)
    (h : wpAny M (A.over c fs) (eval e env) (fun v s' => ∀ kap : Resume → G → Shared → Prop, (∀ x γ' s'', (∀ a, x ≠ .ref a) → Piece M A R Y n γ' c (K .next) fs s'' → kap (.send x) γ' s'') → Y γ v s' kap) (fun x s' => Piece M A R Y (n + 1) γ c (J x) fs s') s)
    (hco : env.scope.isCoroutine = false := by rfl) (hi : interactive env = false := by rfl) :
    Piece M A R Y (n + 1) γ c ((exec (.Expr (.Yield (some e) ypos) pos) env).wrap K J gd lv) fs s := by
  rw [exec_Expr env _ pos hi rfl]
  have hy : ∀ v, yieldOut env v = yieldValue v := fun v => by unfold yieldOut; rw [hco]; rfl
  show Piece M A R Y (n + 1) γ c (.at pos fun _ => ((eval e env >>= fun v => (standAt ypos >>= fun _ => yieldOut env v)) >>= fun x => dropValue (.Yield (some e) ypos) pos x).wrap K J gd lv) fs s
  refine piece_at ?_
  simp only [hy]
  rw [Sem.bind_eq_wrap', Sem.bind_eq_wrap', Sem.wrap_wrap, Sem.wrap_wrap]
  refine piece_wrap (wpAny_mono h (fun v s' h' => ?_) fun _ _ z => z)
  refine piece_at (piece_yield hfs hgd hfg (h' _ fun x γ' s'' hx hp => ?_))
  cases x with
  | ref a => exact absurd rfl (hx a)
  | _ => exact hp
end
end GnW
/-! GnC: a context begins anew at the heap that stands now below its frame. -/
namespace GnW
open PySem PySem.Spec PyProof.Rows L2

def lowH (h : Heap) (L : Addr) : Heap := { h with objs := h.objs.extract 0 L }
theorem lowH_size {h : Heap} {L : Addr} (hL : L ≤ h.objs.size) : (lowH h L).objs.size = L := by
  show (h.objs.extract 0 L).size = L
  rw [Array.size_extract]
  show min L h.objs.size - 0 = L
  rw [Nat.min_eq_left hL]; rfl
theorem extract_at {α : Type} {a : Array α} {L b : Nat} (hb : b < L) : (a.extract 0 L)[b]? = a[b]? := by
  rw [Array.getElem?_extract, Nat.zero_add]
  by_cases q : b < a.size
  · exact if_pos (by omega)
  · rw [if_neg (by omega)]
    exact (Array.getElem?_eq_none (Nat.le_of_not_lt q)).symm
theorem lowH_at {h : Heap} {L b : Addr} (hb : b < L) : (lowH h L).get? b = h.get? b := by
  have e : (lowH h L).objs[b]? = h.objs[b]? := extract_at hb
  unfold Heap.get?
  rw [e]
theorem lowH_lt {h : Heap} {L b : Addr} {o : Obj} (e : (lowH h L).get? b = some o) : b < L := by
  have z := Heap.lt_size e
  have z : b < (h.objs.extract 0 L).size := z
  rw [Array.size_extract] at z
  exact Nat.lt_of_lt_of_le z (Nat.le_trans (Nat.sub_le _ _) (Nat.min_le_left _ _))
theorem lowH_of {h : Heap} {L b : Addr} {o : Obj} (e : (lowH h L).get? b = some o) : h.get? b = some o := by rw [← lowH_at (lowH_lt e)]; exact e
def low (s : Shared) (L : Addr) : Shared := { s with heap := lowH s.heap L }
theorem frames_low {h base : Heap} {L : Addr} : ∀ {l : List Env}, (∀ b ∈ frs l, b < L) → h.FunFrames base l → (lowH h L).FunFrames base l
  | [], _, _ => trivial
  | env :: l, hb, hl => by
    obtain ⟨hk, ⟨F, o, hf, hn, ho, hd⟩, hr⟩ := hl
    have hm : ∀ b ∈ frs l, b ∈ frs (env :: l) := fun b z => by unfold frs at z ⊢; rw [List.filterMap_cons, hf]; exact List.mem_cons_of_mem _ z
    have hF : F < L := hb F (by unfold frs; rw [List.filterMap_cons, hf]; exact List.mem_cons_self)
    exact ⟨hk, ⟨F, o, hf, hn, (lowH_at hF).trans ho, hd⟩, frames_low (fun b z => hb b (hm b z)) hr⟩

/-- the context from now on -/
def anew (X : Cx) (s : Shared) (H : Hp) : Cx := { X with s_0 := low s X.env.locals, H_0 := H, ex := [] }
/-- what a later state needs for it -/
structure Later (X : Cx) (H : Hp) (s : Shared) : Prop where
  bare : AllBare s.gens
  bs : ∀ b o, X.base.get? b = some o → s.heap.get? b = some o ∧ H b = none
  funs : s.heap.FunFrames X.base X.outer
  frf : ∀ b ∈ X.fs, H b = none
  hok : HOk X.prog X.w H s.heap
def Above (X : Cx) : Prop := ∀ x c, X.fn x = true → X.env.cells.lookup x = some c → X.env.locals ≤ c
section
variable {X : Cx} {pins pins' : List (Addr × Obj)} {σ : L2.St} {H H' : Hp} {s s' : Shared}
theorem Inv.frsLow (I : Inv X pins σ H s) : ∀ b ∈ X.fs, b < X.env.locals := fun b hb => by
  obtain ⟨_, o, ho, _⟩ := I.ok.funs.mem hb
  exact Nat.lt_of_lt_of_le (Heap.lt_size ho) I.ok.above
theorem Inv.later (I : Inv X pins σ H s) : Later X H s :=
  ⟨I.bare, I.bs, I.funs, fun b hb => by
    obtain ⟨_, o, ho, _⟩ := I.ok.funs.mem hb
    exact I.base.free b o ho (I.ok.frf b hb) fun z => I.ok.exfs b z hb, I.hok⟩
/-- it stands in a later state, if its own objects and its pins are kept -/
theorem Inv.anew' (I : Inv X pins σ H s) (ab : Above X) (J : Later X H' s')
    (own : ∀ b o, (b = X.env.locals ∨ ∃ x, X.env.cells.lookup x = some b) → s.heap.get? b = some o → s'.heap.get? b = some o ∧ H' b = none)
    (hp : ∀ p ∈ X.pn ++ pins', s'.heap.get? p.1 = some p.2 ∧ H' p.1 = none ∧ p.1 ≠ X.env.locals ∧ p.1 ∉ X.fs ∧ ∀ v, p.2.data ≠ .cell v) : Inv (anew X s' H') pins' σ H' s' := by
  have oL : ∃ o, s.heap.get? X.env.locals = some o := by
    obtain ⟨m, ⟨o, es, ep, ho, _⟩, _⟩ := I.loc
    exact ⟨o, ho⟩
  have hL : X.env.locals ≤ s'.heap.objs.size := by
    obtain ⟨o, ho⟩ := oL
    exact Nat.le_of_lt (Heap.lt_size (own _ o (.inl rfl) ho).1)
  have lowSz : (low s' X.env.locals).heap.objs.size = X.env.locals := lowH_size hL
  have cellLt : ∀ x c, X.env.cells.lookup x = some c → ∃ o, s.heap.get? c = some o := fun x c e => by
    obtain ⟨v, o, ho, _⟩ := I.cell x c e
    exact ⟨o, ho⟩
  refine ⟨⟨I.ok.mod, I.ok.kind, I.ok.glob, I.ok.blt, Nat.le_of_eq lowSz, I.ok.inj, I.ok.has, fun x c hx e => ?_, I.ok.hd, I.ok.frames, I.ok.stk, fun b hb => (nomatch hb), fun b o e => ?_, ?_, fun b o e z => (nomatch z), fun b hb => (nomatch hb), ?_, J.frf⟩,
    rfl, J.bare, ?_, ?_, fun x c e => ?_, ?_, fun x c e => ?_, hp, J.hok, I.len⟩
  · show (low s' X.env.locals).heap.objs.size ≤ c
    rw [lowSz]; exact ab x c hx e
  · obtain ⟨a1, a2⟩ := J.bs b o e
    refine ⟨?_, a2⟩
    have hb : b < X.env.locals := Nat.lt_of_lt_of_le (Heap.lt_size e) (Nat.le_trans I.ok.bsz I.ok.above)
    exact (lowH_at hb).trans a1
  · show X.base.objs.size ≤ (low s' X.env.locals).heap.objs.size
    rw [lowSz]
    exact Nat.le_trans I.ok.bsz I.ok.above
  · exact frames_low (l := X.outer) (Inv.frsLow (X := X) I) J.funs
  · show Un X.fs [] H' H' (lowH s'.heap X.env.locals) s'.heap
    exact Un.kept fun b u e => lowH_of e
  · obtain ⟨m, ⟨o, es, ep, ho, hd, hr⟩, hl⟩ := I.loc
    refine ⟨m, ⟨o, es, ep, (own _ o (.inl rfl) ho).1, hd, hr⟩, fun i x v h1 h2 h3 => ?_⟩
    obtain ⟨u, ru, q⟩ := hl i x v h1 h2 h3
    refine ⟨u, ru, ?_⟩
    rcases q with q | ⟨k, c, e, z⟩
    · exact .inl q
    · refine .inr ⟨k, c, e, ?_⟩
      obtain ⟨oc, hoc, hd⟩ := z
      exact ⟨oc, (own c oc (.inr ⟨x, e⟩) hoc).1, hd⟩
  · obtain ⟨v, o, ho, hd⟩ := I.cell x c e
    exact ⟨v, o, (own c o (.inr ⟨x, e⟩) ho).1, hd⟩
  · obtain ⟨o, ho⟩ := oL
    exact (own _ o (.inl rfl) ho).2
  · obtain ⟨o, ho⟩ := cellLt x c e
    exact (own c o (.inr ⟨x, e⟩) ho).2
theorem Inv.anew (I : Inv X pins σ H s) (ab : Above X) : Inv (anew X s H) pins σ H s :=
  Inv.anew' I ab (Inv.later I) (fun b o hb e => ⟨e, by
    rcases hb with z | ⟨x, z⟩
    · rw [z]; exact I.free
    · exact I.freeC x b z⟩) I.pin
/-- what the code of a context begun anew has kept -/
theorem Inv.keptNow {s0 : Shared} {H0 : Hp} {σ' : L2.St} (I : Inv (GnW.anew X s0 H0) pins σ' H s) {b : Addr} {o : Obj} (hb : b < X.env.locals) (e : s0.heap.get? b = some o) (hn : H0 b = none) (hf : b ∉ X.fs) : s.heap.get? b = some o ∧ H b = none := by
  have e2 : (lowH s0.heap X.env.locals).get? b = some o := (lowH_at hb).trans e
  exact ⟨I.base.keep b o e2 hn hf (fun z => nomatch z), I.base.free b o e2 hn (fun z => nomatch z)⟩
theorem un_low {fs : List Addr} {H1 H2 H3 : Hp} {h1 h2 h3 : Heap} {L : Addr} (u : Un fs [] H1 H2 h1 h2) (hL : h1.objs.size ≤ L) (v : Un fs [] H2 H3 (lowH h2 L) h3) : Un fs [] H1 H3 h1 h3 := by
  have lt : ∀ {b o}, h1.get? b = some o → b < L := fun e => Nat.lt_of_lt_of_le (Heap.lt_size e) hL
  refine Un.trans (h1 := lowH h2 L) ⟨fun b o e n hb hx => (lowH_at (lt e)).trans (u.keep b o e n hb hx), fun b o e n hb hx => ?_, u.free, fun b o e hx => ?_, u.tups, u.frzs, u.tbls⟩ v
  · obtain ⟨sl, z⟩ := u.slot b o e n hb hx
    exact ⟨sl, (lowH_at (lt e)).trans z⟩
  · obtain ⟨o', z⟩ := u.there b o e hx
    exact ⟨o', (lowH_at (lt e)).trans z⟩
theorem Inv.gens {G G' : Array GenState} (I : Inv X pins σ H { s with gens := G }) (h : AllBare G') : Inv X pins σ H { s with gens := G' } :=
  ⟨I.ok, I.os, h, I.base, I.loc, I.cell, I.free, I.freeC, I.pin, I.hok, I.len⟩
end
end GnW
/-! GnD: the statements of a generator's body; its consumer may do what it likes between two wakes. -/
namespace GnW
open PySem PySem.Spec PyProof.Rows L2

/-- what a generator does, by the number of values that are out: go: woken now, it hands one out; yld: the heap at the wake, the value, the heap then; wk: what its consumer may do with the heap behind it; stop: woken now, it ends; fin: the heap at that wake, the heap then -/
structure GIt where
  go : Nat → Hp → Prop
  yld : Nat → Hp → V → Hp → Prop
  wk : Nat → Hp → Hp → Prop
  stop : Nat → Hp → Prop
  fin : Nat → Hp → Hp → Prop
/-- what its waker knows: the number, the state and the heap at the wake, what it holds itself -/
structure Gh where
  i : Nat
  s : Shared
  H : Hp
  P : List (Addr × Obj)
abbrev Gh.cs (γ : Gh) : List Addr := γ.P.map (·.1)
/-- within a piece -/
abbrev InG (X : Cx) (γ : Gh) (ip : List (Addr × Obj)) (σ : L2.St) (H : Hp) (s : Shared) : Prop := Inv (anew X γ.s γ.H) (ip ++ γ.P) σ H s
def GR (X : Cx) (J : GIt) : PEnd Gh := fun γ r s => (r = .ok (.ret .none) ∨ r = .ok .next) ∧ ∃ ip σ H, InG X γ ip σ H s ∧ J.fin γ.i γ.H H
def GY (X : Cx) (J : GIt) (N : Nat) : PPro Gh := fun γ v s kap => ∃ x ip σ H, RelV x v ∧ InG X γ ip σ H s ∧ (∀ q ∈ ip, q.1 ∉ γ.cs) ∧ J.yld γ.i γ.H x H ∧
  ∀ γ' : Gh, γ'.i = γ.i + 1 → γ'.cs = γ.cs → X.env.locals ≤ γ'.s.heap.objs.size → InG X γ' ip σ γ'.H γ'.s → J.wk γ.i H γ'.H → (J.go (γ.i + 1) γ'.H ∨ J.stop (γ.i + 1) γ'.H) → ∀ y, (∀ a, y ≠ Value.ref a) → kap (.send y) γ' γ'.s

structure Fits (X : Cx) (N : Nat) (Cs : List Addr) (n : Nat) (γ : Gh) : Prop where
  num : n + γ.i = N
  cs : γ.cs = Cs
  wide : X.env.locals ≤ γ.s.heap.objs.size
/-- what is wanted behind a statement of a generator: by the number that is out and the heap at the wake -/
structure GEnd where
  nx : Nat → Hp → L2.St → Hp → Prop
  rt : Nat → Hp → VK
  bk : Nat → Hp → L2.St → Hp → Prop := fun _ _ _ _ => False
  ct : Nat → Hp → L2.St → Hp → Prop := fun _ _ _ _ => False
abbrev TG2 := GEnd → Nat → Hp → L2.St → Hp → Prop
def GEnd.at (D : GEnd) (i : Nat) (Hw : Hp) : Ends := { nx := D.nx i Hw, rt := D.rt i Hw, bk := D.bk i Hw, ct := D.ct i Hw }
/-- where its code stands -/
structure GHere (X : Cx) (A : Around) (c : Code) (fs : List Frame) (gd : Bool → Bool) : Prop where
  ab : Above X
  xe : ∀ e s, ¬ X.xe e s
  over : A.over c fs = X.A
  split : splitAtGen fs = none
  guard : fs.any Frame.guarded = false
  gd : gd false = false
/-- what follows it -/
structure GNext (X : Cx) (J : GIt) (N : Nat) (Cs : List Addr) (A : Around) (R : PEnd Gh) (ip : List (Addr × Obj)) (c : Code) (fs : List Frame) (K : Flow → Sem PySem.Fin) (D : GEnd) : Prop where
  dis : ∀ q ∈ ip, q.1 ∉ Cs
  ok : ∀ (n : Nat) (γ : Gh) (s : Shared) (f : Flow), Fits X N Cs n γ → SP (anew X γ.s γ.H) (ip ++ γ.P) (D.at γ.i γ.H) f s → Piece (model X.prog X.w) A R (GY X J N) n γ c (K f) fs s
structure GSt (X : Cx) (J : GIt) (N : Nat) (st : Stmt) (t : TG2) : Prop where
  run : ∀ (Cs : List Addr) (A : Around) (R : PEnd Gh) (ip : List (Addr × Obj)) (n : Nat) (γ : Gh) (c : Code) (fs : List Frame) (K : Flow → Sem PySem.Fin) (Jx : Value → Sem PySem.Fin) (gd : Bool → Bool) (lv : List Value → List Value) (s : Shared) (σ : L2.St) (H : Hp) (D : GEnd),
    GHere X A c fs gd → Fits X N Cs n γ → GNext X J N Cs A R ip c fs K D → InG X γ ip σ H s → t D γ.i γ.H σ H → Piece (model X.prog X.w) A R (GY X J N) n γ c ((exec st X.env).wrap K Jx gd lv) fs s
structure GSts (X : Cx) (J : GIt) (N : Nat) (sts : List Stmt) (t : TG2) : Prop where
  run : ∀ (Cs : List Addr) (A : Around) (R : PEnd Gh) (ip : List (Addr × Obj)) (n : Nat) (γ : Gh) (c : Code) (fs : List Frame) (K : Flow → Sem PySem.Fin) (Jx : Value → Sem PySem.Fin) (gd : Bool → Bool) (lv : List Value → List Value) (s : Shared) (σ : L2.St) (H : Hp) (D : GEnd),
    GHere X A c fs gd → Fits X N Cs n γ → GNext X J N Cs A R ip c fs K D → InG X γ ip σ H s → t D γ.i γ.H σ H → Piece (model X.prog X.w) A R (GY X J N) n γ c ((execs sts X.env).wrap K Jx gd lv) fs s
section
variable {X : Cx} {J : GIt} {N : Nat} {st : Stmt} {rest : List Stmt}
def tgPlain (t : TS) : TG2 := fun D i Hw σ H => t (D.at i Hw) σ H
theorem gst_plain {t : TS} (h : ∀ s0 H0, PS (anew X s0 H0) st t) : GSt X J N st (tgPlain t) := by
  refine ⟨fun Cs A R ip n γ c fs K Jx gd lv s σ H D g hn k I ht => piece_wrap ?_⟩
  rw [g.over]
  exact wpAny_mono ((h γ.s γ.H).run _ s σ H (D.at γ.i γ.H) I ht) (fun f s' hs => k.ok n γ s' f hn hs) fun x s' hx => absurd hx (g.xe x s')
theorem gsts_plain {t : TS} (h : ∀ s0 H0, PSs (anew X s0 H0) rest t) : GSts X J N rest (tgPlain t) := by
  refine ⟨fun Cs A R ip n γ c fs K Jx gd lv s σ H D g hn k I ht => piece_wrap ?_⟩
  rw [g.over]
  exact wpAny_mono ((h γ.s γ.H).run _ s σ H (D.at γ.i γ.H) I ht) (fun f s' hs => k.ok n γ s' f hn hs) fun x s' hx => absurd hx (g.xe x s')
def tgNil : TG2 := fun D i Hw σ H => D.nx i Hw σ H
theorem gsts_nil : GSts X J N [] tgNil :=
  ⟨fun Cs A R ip n γ c fs K Jx gd lv s σ H D g hn k I ht => piece_execs_nil (k.ok n γ s .next hn ⟨σ, H, I, ht⟩)⟩
def tgSeq (t u : TG2) : TG2 := fun D i Hw σ H => t { D with nx := fun i' Hw' σ' H' => u D i' Hw' σ' H' } i Hw σ H
theorem gsts_cons {t u : TG2} (a : GSt X J N st t) (b : GSts X J N rest u) : GSts X J N (st :: rest) (tgSeq t u) := by
  refine ⟨fun Cs A R ip n γ c fs K Jx gd lv s σ H D g hn k I ht => piece_execs_cons ?_⟩
  refine a.run Cs A R ip n γ c fs _ Jx gd lv s σ H { D with nx := fun i' Hw' σ' H' => u D i' Hw' σ' H' } g hn ⟨k.dis, fun n' γ' s' f hn' hs => ?_⟩ I ht
  cases f with
  | next =>
    obtain ⟨σ', H', I', q⟩ := hs
    exact b.run Cs A R ip n' γ' c fs K Jx gd lv s' σ' H' D g hn' k I' q
  | brk => exact k.ok n' γ' s' .brk hn' hs
  | cont => exact k.ok n' γ' s' .cont hn' hs
  | ret u => exact k.ok n' γ' s' (.ret u) hn' hs

/-! ### yield -/
def tgYield (J : GIt) (N : Nat) (te : TE) : TG2 := fun D i Hw σ H => i < N ∧ te σ H fun x H1 => J.yld i Hw x H1 ∧ ∀ H2, J.wk i H1 H2 → (J.go (i + 1) H2 ∨ J.stop (i + 1) H2) → D.nx (i + 1) H2 σ H2
theorem gst_yield {e : Expr} {yp pos : Pos} {te : TE} (he : ∀ s0 H0, PE (anew X s0 H0) e te) (hco : X.env.scope.isCoroutine = false := by rfl) (hi : interactive X.env = false := by rfl) :
    GSt X J N (.Expr (.Yield (some e) yp) pos) (tgYield J N te) := by
  refine ⟨fun Cs A R ip n γ c fs K Jx gd lv s σ H D g hn k I ht => ?_⟩
  obtain ⟨hlt, ht⟩ := ht
  obtain ⟨n, rfl⟩ : ∃ m, n = m + 1 := ⟨n - 1, by have := hn.num; omega⟩
  refine piece_Yield g.split g.gd g.guard ?_ hco hi
  rw [g.over]
  refine wpAny_mono ((he γ.s γ.H).run _ s σ H _ I ht) (fun v s' hv => ?_) fun x s' hx => absurd hx (g.xe x s')
  obtain ⟨x, H1, I1, rv, y1, q⟩ := hv
  intro kap hk
  refine ⟨x, ip, σ, H1, rv, I1, by rw [hn.cs]; exact k.dis, y1, fun γ' e1 e2 e3 I' w' r' y hy => hk y γ' γ'.s hy ?_⟩
  exact k.ok n γ' γ'.s .next ⟨by have := hn.num; omega, e2.trans hn.cs, e3⟩ ⟨σ, γ'.H, I', by
    have z := q γ'.H w' r'
    rw [← e1] at z
    exact z⟩

/-! ### for -/
def tgFor (wi : TI) (g : TG) (tb : TG2) : TG2 := fun D i Hw σ H => wi σ H fun Jr H1 => ∃ W : Nat → Nat → Nat → Hp → L2.St → Hp → Prop, (∃ m, W 0 m i Hw σ H1) ∧ ∀ j m i Hw σ H, W j m i Hw σ H →
  (Jr.stop j H ∧ D.nx i Hw σ H) ∨ (Jr.go j H ∧ ∃ Nx : Nat → Hp → L2.St → Hp → Prop, (∀ i' Hw' σ' H', Nx i' Hw' σ' H' → ∃ m', m' < m ∧ W (j + 1) m' i' Hw' σ' H') ∧
    ∀ x H', Jr.yld j H x H' → g x σ H' fun σ2 H2 => tb { D with nx := Nx, ct := Nx, bk := D.nx } i Hw σ2 H2)
section
variable {G : Type} {A : Around} {R : PEnd G} {Y : PPro G} {n : Nat} {γ : G} {fs : List Frame} {s : Shared} {env : Env} {P : Program} {w : World} {target : Expr} {it : Value} {body : List Stmt}
/-- one turn of a for loop -/
theorem piece_forTurn
    (h : wpAny (model P w) (A.over (.forLoop target it body [] env) fs) (pyNext it) (fun r s1 => match r with
      | none => Piece (model P w) A R Y n γ (.block [] env) (.pure (.done .next)) fs s1
      | some v => wpAny (model P w) (A.over (.forLoop target it body [] env) fs) (letOwnedTupleGo target it v) (fun _ s2 => wpAny (model P w) (A.over (.forLoop target it body [] env) fs) (assign target env v) (fun _ s3 =>
          Piece (model P w) A R Y n γ (.forLoop target it body [] env) ((execs body env).wrap (fun f => match f with
            | .next | .cont => .pure (.again (.forLoop target it body [] env))
            | .brk => .pure (.done .next)
            | .ret v => .pure (.done (.ret v))) (fun e => (do noteFrame e env; theTreesLotGoes e : Sem Unit).wrap (fun _ => .raise e) .raise id id) id id) fs s3) (fun _ _ => False) s2) (fun _ _ => False) s1) (fun _ _ => False) s) :
    Piece (model P w) A R Y n γ (.forLoop target it body [] env) ((model P w).den (.forLoop target it body [] env)) fs s := by
  show Piece _ A R Y n γ _ ((forTurn target it body [] env).onRaise (fun x => do noteFrame x env; theTreesLotGoes x)) fs s
  unfold forTurn
  rw [Sem.onRaise_eq_wrap]
  refine piece_bind_wrap (wpAny_standAt ?_)
  refine piece_bind_wrap (wpAny_onRaise (wpAny_mono h (fun r s1 h1 => ?_) fun _ _ z => z.elim))
  cases r with
  | none => exact piece_again rfl h1
  | some v =>
    refine piece_bind_wrap (wpAny_mono h1 (fun _ s2 h2 => ?_) fun x s' z => z.elim)
    refine piece_bind_wrap (wpAny_mono h2 (fun _ s3 h3 => ?_) fun x s' z => z.elim)
    rw [Sem.bind_eq_wrap', Sem.wrap_wrap]
    refine (congrArg (fun t => Piece (model P w) A R Y n γ (.forLoop target it body [] env) t fs s3) (Sem.wrap_congr (execs body env) _ _ (fun f => ?_) (fun e => ?_))).mpr h3
    · cases f <;> rfl
    · exact Sem.bind_eq_wrap _ _
end
end
end GnW
/-! GnE: a for loop that hands values out. -/
namespace GnW
open PySem PySem.Spec PyProof.Rows L2

theorem low_le {s : Shared} {L : Addr} : (low s L).heap.objs.size ≤ L := by
  show (s.heap.objs.extract 0 L).size ≤ L
  rw [Array.size_extract]
  exact Nat.le_trans (Nat.sub_le _ _) (Nat.min_le_left _ _)
theorem low_eq {s : Shared} {L : Addr} (h : L ≤ s.heap.objs.size) : (low s L).heap.objs.size = L := lowH_size h
section
variable {X : Cx} {J : GIt} {N : Nat} {st : Stmt} {rest : List Stmt}
theorem GHere.inner {A : Around} {c c' : Code} {fs : List Frame} {gd : Bool → Bool} {k : Result → Sem PySem.Fin} {l kp : List Value} {p : Pos} (g : GHere X A c fs gd) (hw : c'.weight = 0) (hu : c'.cUnits = 0) : GHere X A c' (.ret k none (gd false) l c p kp :: fs) id where
  ab := g.ab
  xe := g.xe
  over := (GenW.over_loop hw hu).trans g.over
  split := by
    show (splitAtGen fs).map _ = none
    rw [g.split]; rfl
  guard := by
    show (gd false || fs.any Frame.guarded) = false
    rw [g.gd, g.guard]; rfl
  gd := rfl
theorem gst_for {tg iter : Expr} {body : List Stmt} {wi : TI} {g : TG} {tb : TG2} {pos : Pos} (hc : X.calm = true) (hi : ∀ s0 H0, PI (anew X s0 H0) tg iter wi) (hg : ∀ s0 H0, PG (anew X s0 H0) tg g) (hb : GSts X J N body tb)
    (hs : ∀ x, foldedSetIterable iter X.env x = pure x := by intro _; rfl) : GSt X J N (.For tg iter body [] pos) (tgFor wi g tb) := by
  refine ⟨fun Cs A R ip n γ c fs K Jx gd lv s σ H D gh hn k I ht => ?_⟩
  rw [exec_For]
  refine piece_bind_wrap (wpAny_standAt ?_)
  refine piece_bind_wrap ?_
  rw [gh.over]
  refine wpAny_mono ((hi γ.s γ.H).run _ s σ H _ I ht) (fun v s1 h1 => ?_) fun x s' hx => absurd hx (gh.xe x s')
  refine piece_bind_wrap (wpAny_of_eq (hs v) ?_)
  refine piece_bind_wrap (wpAny_standAt ?_)
  refine piece_bind_wrap (wpAny_holding ?_)
  rw [gh.over]
  refine wpAny_mono h1 (fun itv s2 h2 => ?_) fun x s' hx => absurd hx (gh.xe x s')
  obtain ⟨it, fp, tn, Jr, H2, e, I2, T, st2, f2, W, ⟨m0, w0⟩, turn⟩ := h2
  subst e
  refine piece_call fun p => ?_
  -- what stays true of the iterator's objects, whatever its consumer holds
  have far : ∀ b ∈ fp, X.env.locals ≤ b ∧ b ≠ X.env.locals ∧ b ∉ X.fs ∧ (∀ x c, X.env.cells.lookup x = some c → c ≠ b) ∧ (∀ q ∈ X.pn ++ ip, q.1 ≠ b) ∧ b ∉ Cs := fun b hb => by
    obtain ⟨_, f1, f3, f4, f5, f6⟩ := f2 b hb
    refine ⟨?_, f1, f3, f5, fun q hq => f6 q ?_, fun z => ?_⟩
    · rcases f4 with z | z
      · exact nomatch z
      · have z : (low γ.s X.env.locals).heap.objs.size ≤ b := z
        rw [low_eq hn.wide] at z; exact z
    · rcases List.mem_append.mp hq with z | z
      · exact List.mem_append_left _ z
      · exact List.mem_append_right _ (List.mem_append_left _ z)
    · rw [← hn.cs] at z
      obtain ⟨q, hq, e⟩ := List.mem_map.mp z
      exact f6 q (List.mem_append_right _ (List.mem_append_right _ hq)) e
  have stat : ∀ {γ' : Gh} {H' : Hp}, γ'.cs = Cs → (∀ b ∈ fp, H' b = none) → ∀ b ∈ fp, FpOk (anew X γ'.s γ'.H) (ip ++ γ'.P) H' b := fun {γ' H'} hc' hn' b hb => by
    obtain ⟨a0, a1, a2, a3, a4, a5⟩ := far b hb
    refine ⟨hn' b hb, a1, a2, .inr (Nat.le_trans low_le a0), a3, fun q hq => ?_⟩
    rcases List.mem_append.mp hq with z | z
    · exact a4 q (List.mem_append_left _ z)
    · rcases List.mem_append.mp z with z | z
      · exact a4 q (List.mem_append_right _ z)
      · exact fun e => a5 (by rw [← hc', ← e]; exact List.mem_map.mpr ⟨q, z, rfl⟩)
  have gl := fun (kk : Result → Sem PySem.Fin) => GHere.inner (k := kk) (c' := .forLoop tg (.ref it) body [] X.env) (l := lv []) (kp := []) (p := p) gh rfl rfl
  have loop : ∀ (m j n : Nat) (γ : Gh) (s : Shared) (σ : L2.St) (H : Hp), Fits X N Cs n γ → W j m γ.i γ.H σ H → InG X γ ip σ H s → tn j s.heap → (∀ b ∈ fp, H b = none) →
      Piece (model X.prog X.w) A R (GY X J N) n γ (.forLoop tg (.ref it) body [] X.env) ((model X.prog X.w).den (.forLoop tg (.ref it) body [] X.env))
        (.ret (fun r => ((match r with | .ok f => (.pure f : Sem Flow) | .error e => .raise e).onRaise (cameBack X.env)).wrap K Jx gd lv) none (gd false) (lv []) c p [] :: fs) s := by
    intro m
    induction m using Nat.strongRecOn with
    | ind m ih =>
      intro j n γ s σ H hn w I st fr
      refine piece_forTurn ?_
      rw [(gl _).over]
      rcases turn j m γ.i γ.H σ H w with ⟨stop, qn⟩ | ⟨go, Nx, hNx, step⟩
      · have td := T.done (anew X γ.s γ.H) rfl rfl rfl hc j _ s σ H (fun _ _ => False) I (stat hn.cs fr) st stop
        refine wpAny_mono td (fun r s4 z => ?_) fun _ _ z => z
        obtain ⟨hr, I4⟩ := z
        subst hr
        exact piece_leaf (.ok .next) (k.ok n γ s4 .next hn ⟨σ, H, I4, qn⟩)
      · have ti := T.item (anew X γ.s γ.H) rfl rfl rfl hc j _ s σ H (fun _ _ => False) I (stat hn.cs fr) st go
        refine wpAny_mono ti (fun r s4 z => ?_) fun _ _ z => z
        obtain ⟨u, hr, h4⟩ := z
        subst hr
        refine wpAny_mono h4 (fun _ s5 z => ?_) fun _ _ z => z
        obtain ⟨x, H5, I5, r5, y5, st5, fr5⟩ := z
        have I5' : InG X γ (ip ++ pinsAt fp s5.heap) σ H5 s5 := I5.pins_of fun q hq => by
          rcases List.mem_append.mp hq with z | z
          · rcases List.mem_append.mp z with z | z
            · exact I5.pin q (List.mem_append_right _ (List.mem_append_left _ z))
            · obtain ⟨hb, e⟩ := of_pinsAt z
              obtain ⟨f0, f1, f3, _⟩ := stat hn.cs fr5 q.1 hb
              obtain ⟨o, e', d⟩ := T.obj _ _ st5 q.1 hb
              rw [e] at e'
              cases e'
              exact ⟨e, f0, f1, f3, d⟩
          · exact I5.pin q (List.mem_append_right _ (List.mem_append_right _ z))
        have back : ∀ {γ' : Gh} {σ7 : L2.St} {H7 : Hp} {s7 : Shared}, InG X γ' (ip ++ pinsAt fp s5.heap) σ7 H7 s7 → InG X γ' ip σ7 H7 s7 ∧ tn (j + 1) s7.heap ∧ ∀ b ∈ fp, H7 b = none := fun {γ' σ7 H7 s7} I7 => by
          have pin' : ∀ b ∈ fp, ∀ o, s5.heap.get? b = some o → s7.heap.get? b = some o ∧ H7 b = none := fun b hb o e =>
            let z := I7.pin (b, o) (List.mem_append_right _ (List.mem_append_left _ (List.mem_append_right _ (mem_pinsAt hb e))))
            ⟨z.1, z.2.1⟩
          refine ⟨I7.pins_of fun q hq => I7.pin q ?_, T.keep _ _ _ st5 fun b hb o e => (pin' b hb o e).1, fun b hb => ?_⟩
          · rcases List.mem_append.mp hq with z | z
            · exact List.mem_append_right _ (List.mem_append_left _ (List.mem_append_left _ z))
            · exact List.mem_append_right _ (List.mem_append_right _ z)
          · obtain ⟨o, e, _⟩ := T.obj _ _ st5 b hb
            exact (pin' b hb o e).2
        have dis : ∀ q ∈ ip ++ pinsAt fp s5.heap, q.1 ∉ Cs := fun q hq => by
          rcases List.mem_append.mp hq with z | z
          · exact k.dis q z
          · exact (far q.1 (of_pinsAt z).1).2.2.2.2.2
        have hgr := (hg γ.s γ.H).run _ s5 σ H5 x u _ I5' r5 (step x H5 y5)
        refine wpAny_mono hgr (fun _ s6 z => ?_) fun x s' hx => absurd hx (gh.xe x s')
        obtain ⟨σ6, H6, I6, q6⟩ := z
        refine hb.run Cs A R (ip ++ pinsAt fp s5.heap) n γ _ _ _ _ id id s6 σ6 H6 { D with nx := Nx, ct := Nx, bk := D.nx } (gl _) hn ⟨dis, fun n' γ' s7 f hn' hs' => ?_⟩ I6 q6
        cases f with
        | next =>
          obtain ⟨σ7, H7, I7, n7⟩ := hs'
          obtain ⟨m', hm, w7⟩ := hNx _ _ _ _ n7
          obtain ⟨J1, J2, J3⟩ := back I7
          exact piece_again rfl (ih m' hm (j + 1) n' γ' s7 σ7 H7 hn' w7 J1 J2 J3)
        | cont =>
          obtain ⟨σ7, H7, I7, n7⟩ := hs'
          obtain ⟨m', hm, w7⟩ := hNx _ _ _ _ n7
          obtain ⟨J1, J2, J3⟩ := back I7
          exact piece_again rfl (ih m' hm (j + 1) n' γ' s7 σ7 H7 hn' w7 J1 J2 J3)
        | brk =>
          obtain ⟨σ7, H7, I7, n7⟩ := hs'
          exact piece_leaf (.ok .next) (k.ok n' γ' s7 .next hn' ⟨σ7, H7, (back I7).1, n7⟩)
        | ret v =>
          obtain ⟨x7, σ7, H7, I7, r7, n7⟩ := hs'
          exact piece_leaf (.ok (.ret v)) (k.ok n' γ' s7 (.ret v) hn' ⟨x7, σ7, H7, (back I7).1, r7, n7⟩)
  exact loop m0 0 n γ s2 σ H2 hn w0 I2 st2 fun b hb => (f2 b hb).1
end
end GnW
/-! GnF: a generator def's promise; the call of it. -/
namespace GnW
open PySem PySem.Spec PyProof.Rows L2

/-- the body's context -/
def gnx (P : Program) (w : World) (K : PySem.W.Frag) (mg : Str → Option Value) (base : Heap) (N : List Str) (qual : Str) (scope : Scope) (f : Addr) (cd : Value) (A : Around) (outer : List Env) (s : Shared) (H : Hp) (pn : List (Addr × Obj)) : Cx :=
  { gcxOf P w K mg base N qual scope f cd A outer s H (fun _ _ _ => False) pn with xe := fun _ _ => False }
theorem Inv.ofXe {X : Cx} {pins : List (Addr × Obj)} {σ : L2.St} {H : Hp} {s : Shared} (I : Inv X pins σ H s) {xe : Value → Shared → Prop} : Inv { X with xe := xe } pins σ H s :=
  ⟨⟨I.ok.mod, I.ok.kind, I.ok.glob, I.ok.blt, I.ok.above, I.ok.inj, I.ok.has, I.ok.cab, I.ok.hd, I.ok.frames, I.ok.stk, I.ok.exf, I.ok.bs, I.ok.bsz, I.ok.noex, I.ok.exfs, I.ok.funs, I.ok.frf⟩, I.os, I.bare, I.base, I.loc, I.cell, I.free, I.freeC, I.pin, I.hok, I.len⟩
/-- made, and not begun -/
structure Born (P : Program) (w : World) (K : PySem.W.Frag) (base : Heap) (Aw : Around) (outer : List Env) (H : Hp) (s : Shared) (J : GIt) (Nm : Nat) (Xg : Cx) (a g : Nat) (go : Obj) (c : Code) (σg : L2.St) (s' : Shared) : Prop where
  eProg : Xg.prog = P
  eW : Xg.w = w
  eBase : Xg.base = base
  eOuter : Xg.outer = outer
  eCalm : Xg.calm = true
  noXe : ∀ e s, ¬ Xg.xe e s
  ePn : Xg.pn = [(a, go)]
  young : s.heap.objs.size ≤ Xg.env.locals
  cells : ∀ x c, Xg.env.cells.lookup x = some c → s.heap.objs.size ≤ c
  ab : Above Xg
  inv : Inv Xg [] σg H s'
  isGen : ∀ h : Heap, h.get? a = some go → h.IsGen a g
  fresh : s'.gens[g]? = some (.fresh c)
  run : ∀ (Cs : List Addr) (γ : Gh), γ.i = 0 → γ.cs = Cs → Xg.env.locals ≤ γ.s.heap.objs.size → InG Xg γ [] σg γ.H γ.s → (J.go 0 γ.H ∨ J.stop 0 γ.H) → Piece (model P w) Aw (GR Xg J) (GY Xg J Nm) Nm γ c ((model P w).den c) [] γ.s
def BornAt (P : Program) (w : World) (K : PySem.W.Frag) (base : Heap) (Aw : Around) (outer : List Env) (H : Hp) (s : Shared) (J : GIt) (Nm : Nat) (u : Value) (s' : Shared) : Prop :=
  ∃ (Xg : Cx) (a g : Nat) (go : Obj) (c : Code) (σg : L2.St), u = .ref a ∧ Born P w K base Aw outer H s J Nm Xg a g go c σg s'
/-- a generator def's promise: the arguments, the heap, what is wanted of how it acts -/
abbrev SpN := List V → Hp → (GIt → Nat → Prop) → Prop
def Made (P : Program) (w : World) (K : PySem.W.Frag) (base : Heap) (k : Nat) (outer : List Env) (H : Hp) (s : Shared) (cont : GIt → Nat → Prop) (u : Value) (s' : Shared) : Prop :=
  (∃ h' tk gs, s' = { s with heap := h', toks := tk, gens := gs } ∧ AllBare gs ∧ ∀ b o, s.heap.get? b = some o → h'.get? b = some o) ∧
    ∃ J Nm, cont J Nm ∧ ∀ Aw, Room k Aw → Aw.frames = some outer → BornAt P w K base Aw outer H s J Nm u s'
structure GnFn (P : Program) (w : World) (K : PySem.W.Frag) (mg : Str → Option Value) (base : Heap) (k : Nat) (f : Addr) (fd : FuncData) (ps : List Str) (sp : SpN) : Prop where
  len : ∀ vs H cont, sp vs H cont → vs.length = ps.length
  run : ∀ (A : Around) (outer : List Env) (s : Shared) (H : Hp) (args : Args) (us : List Value) (vs : List V) (cont : GIt → Nat → Prop), Room k A → Env0 P w K mg base A outer s H → BindsTo s fd args (ps.zip us) → Vals vs us → sp vs H cont →
    codeAny (model P w) A (.call (.ref f) args) (fun r s' => match r with | .ok (.ret u) => Made P w K base k outer H s cont u s' | _ => False) s
theorem piece_func {G : Type} {P : Program} {w : World} {A : Around} {R : PEnd G} {Y : PPro G} {n : Nat} {γ : G} {fs : List Frame} {s : Shared} {env : Env} {body : List Stmt}
    (h : Piece (model P w) A R Y n γ (.func body env) ((execs body env).wrap (fun f => .pure (.done (.ret (match f with | .ret v => v | _ => .none)))) (fun e => (leaving env e).wrap (fun _ => .raise e) .raise id id) id id) fs s) :
    Piece (model P w) A R Y n γ (.func body env) ((model P w).den (.func body env)) fs s := by
  show Piece _ A R Y n γ _ (.point [] fun _ => ((execs body env).onRaise (leaving env)) >>= _) fs s
  refine piece_point ?_
  rw [Sem.onRaise_eq_wrap, Sem.bind_eq_wrap', Sem.wrap_wrap]
  refine (congrArg (fun t => Piece (model P w) A R Y n γ (.func body env) t fs s) (Sem.wrap_congr (execs body env) _ _ (fun f => ?_) (fun e => ?_))).mpr h
  · cases f <;> rfl
  · rw [Sem.bind_eq_wrap, Sem.wrap_wrap]; rfl
/-- what is wanted at the end -/
def gAll (J : GIt) : GEnd := { nx := fun i Hw _ H => J.fin i Hw H, rt := fun i Hw v H => v = .non ∧ J.fin i Hw H }
/-- THE RULE: a generator def, by its body -/
theorem gnfn_of {P : Program} {w : World} {K : PySem.W.Frag} {mg : Str → Option Value} {base : Heap} {k : Nat} {f : Addr} {name qual : Str} {params : Arguments} {body : List Stmt} {scope : Scope} {dV kV doc pm cdv ct oc : Value} {an od : Option Addr}
    {osl : Array (Option Value)} {N ps : List Str} {sp : SpN} (lk : K.lookup f = some ⟨oc, od, .func (PySem.W.fnOf name qual params body scope dV kV doc pm an cdv ct), osl⟩) (hcd : PySem.W.codeIn K cdv qual = true) (S : GScope N ps scope)
    (len : ∀ vs H cont, sp vs H cont → vs.length = ps.length)
    (hbody : ∀ (A : Around) (outer : List Env) (s : Shared) (H : Hp) (vs : List V) (cont : GIt → Nat → Prop), Room k (A.deeper (envOfC qual scope s.heap.objs.size f cdv)) → sp vs H cont →
      ∃ J Nm, cont J Nm ∧ ∀ (Aw : Around) (pn : List (Addr × Obj)), Room k (Aw.deeper (envOfC qual scope s.heap.objs.size f cdv)) → ∃ t, GSts (gnx P w K mg base N qual scope f cdv Aw outer s H pn) J Nm body t ∧ ∀ Hw, (J.go 0 Hw ∨ J.stop 0 Hw) → t (gAll J) 0 Hw (start N vs) Hw) :
    GnFn P w K mg base (k + 1) f (PySem.W.fnOf name qual params body scope dV kV doc pm an cdv ct) ps sp := by
  refine ⟨len, fun A outer s H args us vs cont hr e0 hb r hsp => ?_⟩
  have hl := len _ _ _ hsp
  have KX : K.In s.heap := e0.mod.kin.keeps fun b o e => (e0.bs b o e).1
  have lim : s.heap.NoLimit := e0.mod.nolimit.keeps fun b o e => (e0.bs b o e).1
  have hkind : ∀ y ∈ ps.zip us, scope.names.lookup y.1 = some .local ∨ (scope.names.lookup y.1 = some .cell ∧ ((cellsFrom (s.heap.objs.size + 1) scope.names []).lookup y.1).isSome = true) := fun y hy => by
    rcases S.par y.1 (List.of_mem_zip (a := y.1) (b := y.2) hy).1 with q | q
    · exact .inl q
    · exact .inr ⟨q, PySem.W.cellsFrom_some _ _ _ (.inl q)⟩
  obtain ⟨J, Nm, hcont, hbd⟩ := hbody A outer s H vs cont (hr.deeper _) hsp
  refine codeAny_call_generator hr.depth (KX _ _ lk) rfl S.co S.gen rfl (PySem.W.codeRec_of KX hcd) (hb _ _ _ _ ?_)
  refine wpAny_newFunctionEnv_cells S.kind hkind fun env he s1 x => ?_
  subst he
  obtain ⟨h1, tk1, es1, hk1⟩ := x.done
  refine ⟨lim.keeps x.toInCall.keep, ?_⟩
  have kp1 : ∀ b o, s.heap.get? b = some o → s1.heap.get? b = some o := x.toInCall.keep
  have gen1 : s1.gens = s.gens := by rw [es1]
  have os1 : s1.os = s.os := by rw [es1]
  have lt1 : s.heap.objs.size < s1.heap.objs.size := x.toInCall.ns.lt
  have main : ∀ (go : Obj) (nm qn : Value) (tk2 : Nat), go.cls = .type "generator" → go.data = .fields #[.int s1.gens.size 0, nm, qn] → go.slots = #[] → (∀ h : Heap, (h.push go).get? h.objs.size = some go) →
      Made P w K base (k + 1) outer H s cont (.ref s1.heap.objs.size) { s1 with gens := s1.gens.push (.fresh (.func body (envOfC qual scope s.heap.objs.size f cdv))), toks := tk2, heap := s1.heap.push go } := by
    intro go nm qn tk2 hgc hgd hgs hgp
    have kp2 : ∀ b o, s1.heap.get? b = some o → (s1.heap.push go).get? b = some o := fun b o e => Heap.get?_push_of_some _ e
    have hb2 : AllBare (s1.gens.push (.fresh (.func body (envOfC qual scope s.heap.objs.size f cdv)))) := AllBare.push (by rw [gen1]; exact e0.bare) rfl
    refine ⟨⟨s1.heap.push go, tk2, s1.gens.push _, ?_, hb2, fun b o e => kp2 b o (kp1 b o e)⟩, J, Nm, hcont, fun Aw hrw hfr => ?_⟩
    · rw [es1]
    have e0w : Env0 P w K mg base Aw outer s H := ⟨hfr, e0.mod, e0.bs, e0.bsz, e0.funs, e0.frf, e0.hok, e0.bare⟩
    obtain ⟨t, ht, hq⟩ := hbd Aw [(s1.heap.objs.size, go)] (hrw.deeper _)
    have I1 := inv_startG (E := fun _ _ _ => False) S hrw.hd e0w hl r x
    have cellLo : ∀ y c, (cellsFrom (s.heap.objs.size + 1) scope.names []).lookup y = some c → s.heap.objs.size < c := fun y c e => x.above y c (PySem.mem_of_lookup e)
    have I2 : Inv (gcxOf P w K mg base N qual scope f cdv Aw outer s H (fun _ _ _ => False) []) [] (start N vs) H { s1 with gens := s1.gens.push (.fresh (.func body (envOfC qual scope s.heap.objs.size f cdv))), toks := tk2, heap := s1.heap.push go } :=
      I1.call' (ch := []) rfl (Un.kept kp2) (I1.hok.kept kp2) hb2 fun b z => by simp at z
    have hgn : (s1.heap.push go).get? s1.heap.objs.size = some go := hgp _
    have I3 : Inv (gnx P w K mg base N qual scope f cdv Aw outer s H [(s1.heap.objs.size, go)]) [] (start N vs) H { s1 with gens := s1.gens.push (.fresh (.func body (envOfC qual scope s.heap.objs.size f cdv))), toks := tk2, heap := s1.heap.push go } := by
      refine Inv.ofXe (Inv.pinnedG (pn := [(s1.heap.objs.size, go)]) (pins := []) I2 fun p hp => ?_)
      rw [List.append_nil] at hp
      rw [List.mem_singleton.mp hp]
      exact ⟨hgn, I1.hok.fresh (Nat.le_refl _), Nat.ne_of_gt lt1, I1.nofs (Nat.le_refl _), fun v z => by rw [hgd] at z; cases z⟩
    refine ⟨gnx P w K mg base N qual scope f cdv Aw outer s H [(s1.heap.objs.size, go)], s1.heap.objs.size, s1.gens.size, go, .func body (envOfC qual scope s.heap.objs.size f cdv), start N vs, rfl,
      ⟨rfl, rfl, rfl, rfl, rfl, fun _ _ z => z, rfl, Nat.le_refl _, fun y c e => Nat.le_of_lt (cellLo y c e), fun y c _ e => Nat.le_of_lt (cellLo y c e), I3, fun h e => ⟨go, nm, qn, e, hgc, hgd, hgs⟩, Array.getElem?_push_size .., fun Cs γ e1 e2 e3 I hJ => ?_⟩⟩
    refine piece_func ?_
    refine ht.run Cs Aw _ [] Nm γ _ [] _ _ id id γ.s (start N vs) γ.H (gAll J) ⟨fun y c _ e => Nat.le_of_lt (cellLo y c e), fun _ _ z => z, GenW.over_func, rfl, rfl, rfl⟩ ⟨by rw [e1]; rfl, e2, e3⟩ ⟨fun q z => (nomatch z), fun n γ' s' fl hn hs => ?_⟩ I (by rw [e1]; exact hq _ hJ)
    cases fl with
    | next =>
      obtain ⟨σ', H', I', q⟩ := hs
      exact piece_end (.ok (.ret .none)) ⟨.inl rfl, [], σ', H', I', q⟩
    | brk => obtain ⟨_, _, _, q⟩ := hs; exact q.elim
    | cont => obtain ⟨_, _, _, q⟩ := hs; exact q.elim
    | ret u =>
      obtain ⟨v, σ', H', I', rv, ev, q⟩ := hs
      subst ev
      obtain rfl : u = Value.none := rv
      exact piece_end (.ok (.ret .none)) ⟨.inl rfl, [], σ', H', I', q⟩
  exact main _ _ _ _ rfl rfl rfl fun h => Heap.get?_push_size _ rfl

/-! ### an expression whose value is a generator that has not begun -/
abbrev TGn := L2.St → Hp → (GIt → Nat → Hp → Prop) → Prop
structure PGn (X : Cx) (k : Nat) (e : Expr) (tg : TGn) : Prop where
  run : ∀ (pins : List (Addr × Obj)) (s : Shared) (σ : L2.St) (H : Hp) (cont : GIt → Nat → Hp → Prop), Inv X pins σ H s → tg σ H cont → wpAny (model X.prog X.w) X.A (eval e X.env)
    (fun u s' => ∃ H1 sc, Inv X pins σ H1 sc ∧ Made X.prog X.w X.K X.base k X.stack H1 sc (fun J Nm => cont J Nm H1) u s') X.xe s
section
variable {X : Cx} {k : Nat} {f C : Addr} {fd : FuncData} {ps : List Str} {sp : SpN} {dvs : List V} {ds : List Value} {x m : Str} {p pos pos' apos : Pos} {o : Expr} {ta : TE}
theorem run_gnfn {pins : List (Addr × Obj)} {σ : L2.St} {H : Hp} {s : Shared} {us : List Value} {vs : List V} {cont : GIt → Nat → Prop} {E1 : Value → Shared → Prop} (F : GnFn X.prog X.w X.K X.mg X.base k f fd ps sp) (hr : Room k X.A) (hb : Binds X.K fd ps ds) (hd : Vals dvs ds)
    (I : Inv X pins σ H s) (r : Vals vs us) (h : sp (vs ++ dvs) H cont) : wpAny (model X.prog X.w) X.A (call (.ref f) us) (fun u s' => Made X.prog X.w X.K X.base k X.stack H s cont u s') E1 s := by
  have r2 : Vals (vs ++ dvs) (us ++ ds) := r.append hd
  have hl2 : (us ++ ds).length = ps.length := by rw [← r2.length]; exact F.len _ _ _ h
  refine wpAny_call (codeAny_mono (F.run X.A X.stack s H ⟨us, []⟩ (us ++ ds) (vs ++ dvs) cont hr I.env0 (hb s us I.kIn hl2) r2 h) fun r s' hq => ?_)
  cases r with
  | error e => exact hq.elim
  | ok fl =>
    cases fl with
    | ret u => exact hq
    | _ => exact hq.elim
def tGn0 (C : Addr) (m : Str) (sp : SpN) (dvs : List V) (ta : TE) : TGn := fun σ H cont => ta σ H fun x H1 => ∃ a dx fs, x = .ref a ∧ H1 a = some (.ins C dx fs) ∧ fs.lookup m = none ∧ sp (x :: dvs) H1 fun J Nm => cont J Nm H1
/-- o.m() of a generator method -/
theorem pgn_meth0 {pl : Sem Bool} (he : PE X o ta) (c : Cls X.K C) (hm : Meth X.K C m f) (F : GnFn X.prog X.w X.K X.mg X.base k f fd ps sp) (hr : Room k X.A) (hb : Binds X.K fd ps ds) (hd : Vals dvs ds)
    (ht : eval (.Call (.Attribute o m apos) [] [] pos') X.env = (do
      let ov ← eval o X.env
      standAt apos.atName
      let (f, first) ← holding [ov] (getMethod ov m pl)
      callWith pos' f first (backTo pos' (starEach [] X.env)) (backToKw pos' (keywordEach [] X.env))) := by rfl) : PGn X k (.Call (.Attribute o m apos) [] [] pos') (tGn0 C m sp dvs ta) := by
  refine ⟨fun pins s σ H cont I h => ?_⟩
  refine PySem.W.methodCall_KW (pl := pl) (thn (he.run pins s σ H _ I h) fun u s1 z => ?_) ht
  obtain ⟨x, H1, I1, rx, a, dx, fs, ex, ea, l, q⟩ := z
  subst ex
  obtain rfl : u = Value.ref a := rx
  refine getmeth_ok I1 ea c hm l ?_
  exact PySem.W.callWith_K0 (first := [.ref a]) I1.kIn hm.kp (wpAny_mono (run_gnfn (us := [.ref a]) (vs := [.ref a]) F hr hb hd I1 (.cons rfl .nil) q) (fun u s' z => ⟨H1, s1, I1, z⟩) fun _ _ z => z)
end
end GnW
/-! GnG: a list comprehension over a generator. -/
namespace GnW
open PySem PySem.Spec PyProof.Rows L2

/-- [elt for target in generator if ..]: D the new list; W by the turn and a measure -/
def tLcG (tn : TGn) (g : TG) (tt : TT) (te : TE) (vs : List Nat) : TE := fun σ H Q => tn σ H fun J _ H1 => ∀ D, H1 D = none → ∃ W : Nat → Nat → Hp → Prop, (∃ m, W 0 m (upd H1 D (.lst []))) ∧ ∀ i m H, W i m H →
  (J.go i H ∨ J.stop i H) ∧ (∀ H', J.fin i H H' → Q (.ref D) H') ∧ ∀ x H', J.yld i H x H' → ∃ Nx : Hp → Prop, (∀ H'', Nx H'' → J.wk i H' H'' ∧ ∃ m', m' < m ∧ W (i + 1) m' H'') ∧ g x (wipe σ vs) H' fun σ2 H2 => wipe σ2 vs = wipe σ vs ∧ tt σ2 H2 fun b H3 =>
    if b = true then te σ2 H3 fun y H4 => ∃ acc, H4 D = some (.lst acc) ∧ acc.length < sizeLine ∧ Nx (upd H4 D (.lst (acc ++ [y]))) else Nx H3
section
variable {X : Cx}
theorem lcg_core {pins : List (Addr × Obj)} {s : Shared} {σ : L2.St} {H : Hp} {Q : VK} {elt tg iter : Expr} {ifs : List Expr} {scope : Scope} {own : List (Str × Nat)} {pos pos' : Pos} {k : Nat} {tn : TGn} {g : TG} {tt : TT} {te : TE} {use : Option (Value → Sem Unit)} {Qf : Value → Shared → Prop}
    (hc : X.calm = true) (hN : X.N.Nodup) (hr : Room (k + 1) X.A) (I : Inv X pins σ H s) (hi : PGn X k iter tn) (ok : BlkOk X.N X.env.scope scope own) (hsc : ∀ y ∈ scope.names, y.2 ≠ .cell ∧ y.2 ≠ .free)
    (hg : ∀ (s : Shared) (H : Hp) (C : Addr) (cl : List (Str × Addr)) (fp : List Addr), PG (X.blk s H scope (compEnvC scope cl C X.env) fp) tg g)
    (ht : ∀ (s : Shared) (H : Hp) (C : Addr) (cl : List (Str × Addr)) (fp : List Addr), PTs (X.blk s H scope (compEnvC scope cl C X.env) fp) ifs tt)
    (he : ∀ (s : Shared) (H : Hp) (C : Addr) (cl : List (Str × Addr)) (fp : List Addr), PE (X.blk s H scope (compEnvC scope cl C X.env) fp) elt te)
    (hs : ∀ x, foldedSetIterable iter X.env x = pure x) (h : tLcG tn g tt te (own.map (·.2)) σ H Q)
    (hRR : ∀ D C s' m H', Inv X pins σ H' s' → Q (.ref D) H' → s'.heap.Ns C m → FpOk X pins H' C → compPost (model X.prog X.w) X.A X.xe use Qf (.ref D) C (.ok .next) s') :
    wpAny (model X.prog X.w) X.A (comprehension (.ListComp elt [⟨tg, iter, ifs, 0⟩] scope pos) scope X.env pos' (newList []) false (eval iter X.env) use) Qf X.xe s := by
  have hfree : ∀ y ∈ scope.names, y.2 = .free → ∃ c, X.env.cells.lookup y.1 = some c := fun y hy e => absurd e (hsc y hy).2
  have hd : X.A.handled = none := I.ok.hd hc
  have hroom : X.A.depth < recursionLimit := hr.depth
  refine wpAny_comprehension_free (use := use) rfl hs (closure_ok hfree) ok.kind (fun y hy e => by rw [ok.uniq y hy, e]) (wpAny_mono (hi.run pins s σ H _ I h) (fun xv s1 hx => ?_) fun _ _ z => z)
  obtain ⟨H1, sc, Isc, ⟨h1, tk1, gs1, es1, bare1, kp1⟩, J, Nm, q, born⟩ := hx
  obtain ⟨Xg, a, g1, go, c, σg, eu, B⟩ := born X.A.in1 hr.in1 Isc.ok.frames
  subst eu
  have I1 : Inv X pins σ H1 s1 := by
    rw [es1]
    exact Isc.call' (ch := []) rfl (Un.kept kp1) (Isc.hok.kept kp1) bare1 fun b z => by simp at z
  have kpS : ∀ b o, sc.heap.get? b = some o → s1.heap.get? b = some o := by rw [es1]; exact kp1
  have osS : s1.os = sc.os := by rw [es1]
  have Ig1 := B.inv
  have ga : s1.heap.get? a = some go := (Ig1.pin (a, go) (List.mem_append_left _ (by rw [B.ePn]; exact List.mem_singleton.mpr rfl))).1
  have hga : a < s1.heap.objs.size := Heap.lt_size ga
  refine wpAny_pyIter_gen (B.isGen _ ga) ?_
  refine wpAny_newObj_type (newEnv_comp ?_) (by show 0 ≤ sizeLine; decide)
  generalize hD : s1.heap.objs.size = D
  have hDn : H1 D = none := I1.hok.fresh (Nat.le_of_eq hD)
  obtain ⟨W, ⟨m0, w0⟩, turn⟩ := q D hDn
  generalize hs3 : ({ s1 with heap := s1.heap.push { cls := .type "list", data := .seq ([] : List Value).toArray } } : Shared) = s3
  have h3 : s3.heap = s1.heap.push { cls := .type "list", data := .seq ([] : List Value).toArray } := by rw [← hs3]
  have I3 : Inv X pins σ (upd H1 D (.lst [])) s3 := by
    rw [← hs3]
    refine I1.laid (t' := s1.toks) (fun b o e => Heap.get?_push_of_some _ e) (Nat.le_of_eq hD) ⟨Nat.zero_le _, [], 0, .nil, ?_⟩
    rw [← hD]
    exact Heap.get?_push_size _ rfl
  have I4 := block_start (fp := []) I3 ok hN (fun b z => nomatch z)
  have pg := fun (s : Shared) (H : Hp) => hg s H s3.heap.objs.size (cellsFrom (s3.heap.objs.size + 1) scope.names (cloFrom X.env.cells scope.names [])) []
  have pt := fun (s : Shared) (H : Hp) => ht s H s3.heap.objs.size (cellsFrom (s3.heap.objs.size + 1) scope.names (cloFrom X.env.cells scope.names [])) []
  have pe := fun (s : Shared) (H : Hp) => he s H s3.heap.objs.size (cellsFrom (s3.heap.objs.size + 1) scope.names (cloFrom X.env.cells scope.names [])) []
  have noC : ∀ x c, (cellsFrom (s3.heap.objs.size + 1) scope.names (cloFrom X.env.cells scope.names [])).lookup x = some c → False := fun x c e => by
    have e2 : (x, c) ∈ cellsFrom (s3.heap.push { cls := .type "dict", data := .dict #[] }).objs.size scope.names (cloFrom X.env.cells scope.names []) := by rw [Heap.size_push]; exact PySem.mem_of_lookup e
    rcases cells_mem e2 with z | ⟨z, _⟩
    · rcases cloFrom_mem z with z | ⟨z, _⟩
      · cases z
      · exact (hsc _ z).2 rfl
    · exact (hsc _ z).1 rfl
  show codeAny _ _ (.compStart (.ListComp elt [⟨tg, iter, ifs, 0⟩] scope pos) 0 (.ref a) (.ref D) (compEnvC scope (cellsFrom (s3.heap.objs.size + 1) scope.names (cloFrom X.env.cells scope.names [])) s3.heap.objs.size X.env))
    (compPost (model X.prog X.w) X.A X.xe use Qf (.ref D) s3.heap.objs.size) { s3 with heap := pushCells (s3.heap.push { cls := .type "dict", data := .dict #[] }) scope.names }
  have cE : (compEnvC scope (cellsFrom (s3.heap.objs.size + 1) scope.names (cloFrom X.env.cells scope.names [])) s3.heap.objs.size X.env).cells = cellsFrom (s3.heap.objs.size + 1) scope.names (cloFrom X.env.cells scope.names []) := rfl
  generalize hce : compEnvC scope (cellsFrom (s3.heap.objs.size + 1) scope.names (cloFrom X.env.cells scope.names [])) s3.heap.objs.size X.env = ce at I4 pg pt pe cE ⊢
  have cL : ce.locals = s3.heap.objs.size := by subst hce; rfl
  have cN : ∀ x c, ce.cells.lookup x = some c → False := fun x c e => noC x c (by rw [← cE]; exact e)
  have szD : s3.heap.objs.size = D + 1 := by rw [h3, Heap.size_push, hD]
  have scD : sc.heap.objs.size ≤ D := by
    rw [← hD]
    have z := B.young
    exact Nat.le_trans z (Nat.le_of_lt Ig1.lt)
  have DC : D < ce.locals := by rw [cL, szD]; exact Nat.lt_succ_self _
  generalize hs4 : ({ s3 with heap := pushCells (s3.heap.push { cls := .type "dict", data := .dict #[] }) scope.names } : Shared) = s4 at I4 ⊢
  have kp4 : ∀ b o, s1.heap.get? b = some o → s4.heap.get? b = some o := fun b o e => by
    rw [← hs4]
    refine pushCells_keeps _ _ _ _ (Heap.get?_push_of_some _ ?_)
    rw [h3]
    exact Heap.get?_push_of_some _ e
  have gens4 : s4.gens = s1.gens := by rw [← hs4, ← hs3]
  have os4 : s4.os = sc.os := by rw [← hs4, ← hs3]; exact osS
  -- of the generator
  have Lsc : sc.heap.objs.size ≤ Xg.env.locals := B.young
  have LC : Xg.env.locals < ce.locals := Nat.lt_trans (by rw [← hD]; exact Ig1.lt) DC
  have frLow : ∀ b ∈ frs X.stack, b < sc.heap.objs.size := fun b hb => by
    obtain ⟨_, o, ho, _⟩ := Isc.stack.mem hb
    exact Heap.lt_size ho
  have fsG : Xg.fs = frs X.stack := by show frs Xg.outer = _; rw [B.eOuter]
  have ownNo : ∀ b, sc.heap.objs.size ≤ b → b ∉ frs X.stack := fun b hb z => absurd (Nat.lt_of_lt_of_le (frLow b z) hb) (Nat.lt_irrefl _)
  have cellLt : ∀ x c, Xg.env.cells.lookup x = some c → c < D := fun x c e => by
    obtain ⟨v, o, ho, _⟩ := Ig1.cell x c e
    rw [← hD]
    exact Heap.lt_size ho
  have toG : ∀ {s0 : Shared} {H0 H' : Hp} {s' : Shared}, Later (X.blk s0 H0 scope ce []) H' s' → Later Xg H' s' := fun {s0 H0 H' s'} z =>
    ⟨z.bare, by rw [B.eBase]; exact z.bs, by rw [B.eBase, B.eOuter]; exact z.funs, by rw [fsG]; exact z.frf, by rw [B.eProg, B.eW]; exact z.hok⟩
  have ofG : ∀ {s0 : Shared} {H0 H' : Hp} {s' : Shared}, Later Xg H' s' → Later (X.blk s0 H0 scope ce []) H' s' := fun {s0 H0 H' s'} z =>
    ⟨z.bare, by have q := z.bs; rw [B.eBase] at q; exact q, by have q := z.funs; rw [B.eBase, B.eOuter] at q; exact q, by have q := z.frf; rw [fsG] at q; exact q, by have q := z.hok; rw [B.eProg, B.eW] at q; exact q⟩
  have Ig4 : Inv (anew Xg s4 (upd H1 D (.lst []))) [] σg (upd H1 D (.lst [])) s4 := by
    refine Inv.anew' Ig1 B.ab (toG (Inv.later I4)) (fun b o hb e => ⟨kp4 b o e, ?_⟩) (fun p hp => ?_)
    · rw [upd_ne (by rw [← hD]; exact Nat.ne_of_lt (Heap.lt_size e))]
      rcases hb with z | ⟨x, z⟩
      · rw [z]; exact Ig1.free
      · exact Ig1.freeC x b z
    · obtain ⟨a1, a2, a3, a4, a5⟩ := Ig1.pin p hp
      exact ⟨kp4 _ _ a1, by rw [upd_ne (by rw [← hD]; exact Nat.ne_of_lt (Heap.lt_size a1))]; exact a2, a3, a4, a5⟩
  have U4 : Un (frs X.stack) [] H1 (upd H1 D (.lst [])) sc.heap s4.heap := Un.laid (fun b o e => kp4 b o (kpS b o e)) scD hDn
  have abB : ∀ (s0 : Shared) (H0 : Hp), Above (X.blk s0 H0 scope ce []) := fun s0 H0 x c _ e => (cN x c e).elim
  have loop : codeAny (model X.prog X.w) X.A (.compLoop (.ListComp elt [⟨tg, iter, ifs, 0⟩] scope pos) 0 (.ref a) (.ref D) ce) (compPost (model X.prog X.w) X.A X.xe use Qf (.ref D) s3.heap.objs.size) s4 := by
    refine compLoop_any (fun n s' => ∃ (i : Nat) (H' : Hp) (s0 : Shared) (H0 : Hp) (sg : Shared) (Hg : Hp) (ip : List (Addr × Obj)) (σ1 : L2.St) (gs : GenState) (nf : Nat),
      Inv (X.blk s0 H0 scope ce []) [] (wipe σ (own.map (·.2))) H' s' ∧ Inv (anew Xg sg Hg) ip σ1 H' s' ∧ s'.gens[g1]? = some gs ∧
      (∀ P : List (Addr × Obj), P.map (·.1) = [ce.locals] → InG Xg ⟨i, s'.setGen g1 .running, H', P⟩ ip σ1 H' (s'.setGen g1 .running) → (J.go i H' ∨ J.stop i H') →
        GoesOn (model X.prog X.w) X.A.in1 (GR Xg J) (GY Xg J Nm) nf gs (.send .none) ⟨i, s'.setGen g1 .running, H', P⟩ (s'.setGen g1 .running)) ∧
      (s'.os = sc.os ∧ Un (frs X.stack) [] H1 H' sc.heap s'.heap) ∧ W i n H') ?_ m0 ⟨0, _, s3, _, s4, _, [], σg, .fresh c, Nm, I4, Ig4, by rw [gens4]; exact B.fresh, fun P hP IG hJ => ⟨rfl, B.run _ ⟨0, _, _, P⟩ rfl hP (Nat.le_of_lt (Ig4.lt)) IG hJ⟩, ⟨os4, U4⟩, w0⟩
    rintro n s5 ⟨i, H5, s0, H0, sg, Hg, ip, σ1, gs, nf, Ib, Ig, hgs, hgo, ⟨os5, U5⟩, w5⟩
    obtain ⟨hJ, hfin, step⟩ := turn i n H5 w5
    obtain ⟨mC, ⟨oC, esC, epC, hoC, hdC, hrC⟩, _⟩ := Ib.loc
    have hoC : s5.heap.get? ce.locals = some oC := hoC
    have freeC : H5 ce.locals = none := Ib.free
    have hgl : g1 < s5.gens.size := (Array.getElem?_eq_some_iff.mp hgs).1
    have IG : InG Xg ⟨i, s5.setGen g1 .running, H5, [(ce.locals, oC)]⟩ ip σ1 H5 (s5.setGen g1 .running) := by
      have L5 := Inv.later Ig
      refine Inv.anew' (X := anew Xg sg Hg) (s' := s5.setGen g1 .running) (pins' := ip ++ [(ce.locals, oC)]) Ig B.ab ⟨allBare_setGen L5.bare rfl, L5.bs, L5.funs, L5.frf, L5.hok⟩ (fun b o hb e => ⟨e, ?_⟩) (fun p hp => ?_)
      · rcases hb with z | ⟨x, z⟩
        · rw [z]; exact Ig.free
        · exact Ig.freeC x b z
      · rcases List.mem_append.mp hp with z | z
        · exact Ig.pin p (List.mem_append_left _ z)
        · rcases List.mem_append.mp z with z | z
          · exact Ig.pin p (List.mem_append_right _ z)
          · rw [List.mem_singleton.mp z]
            refine ⟨hoC, freeC, Nat.ne_of_gt LC, ?_, fun v z => by rw [hdC] at z; cases z⟩
            show ce.locals ∉ Xg.fs
            rw [fsG]
            exact ownNo _ (Nat.le_trans Lsc (Nat.le_of_lt LC))
    have isG : s5.heap.IsGen a g1 := B.isGen _ (Ig.pin (a, go) (List.mem_append_left _ (by show (a, go) ∈ Xg.pn; rw [B.ePn]; exact List.mem_singleton.mpr rfl))).1
    refine GenW.wpAny_gsz (n := g1 + 1) hgl ?_
    refine next_any hd Ig.nolimit hroom isG hgs (F := fun γ s => ∃ ip σ H, InG Xg γ ip σ H s ∧ J.fin γ.i γ.H H) (fun _ _ _ z => z) (hgo _ rfl IG hJ) (fun v s6 gs6 hb6 hz6 hv => ?_) (fun s6 hp h6 hk => ?_)
    · intro hsz
      have hsz6 : g1 < s6.gens.size := by
        have z : (s6.setGen g1 gs6).gens.size = s6.gens.size := GenW.setGen_size _ _ _
        have hsz' : g1 + 1 ≤ (s6.setGen g1 gs6).gens.size := hsz
        omega
      obtain ⟨x, ip6, σ6, H6, rv, I6, dis6, y6, more⟩ := hv
      have pinG : ∀ p ∈ Xg.pn ++ ip6, s6.heap.get? p.1 = some p.2 ∧ H6 p.1 = none ∧ p.1 ≠ Xg.env.locals ∧ p.1 ∉ Xg.fs ∧ ∀ v, p.2.data ≠ .cell v := fun p hp => I6.pin p (by
        rcases List.mem_append.mp hp with z | z
        · exact List.mem_append_left _ z
        · exact List.mem_append_right _ (List.mem_append_left _ z))
      obtain ⟨c1, c2, _⟩ := I6.pin (ce.locals, oC) (List.mem_append_right _ (List.mem_append_right _ (List.mem_singleton.mpr rfl)))
      have a6 : s6.heap.get? a = some go := (pinG (a, go) (List.mem_append_left _ (by rw [B.ePn]; exact List.mem_singleton.mpr rfl))).1
      obtain ⟨og, nmg, qng, hog, hgc, hgd, hgsl⟩ := B.isGen _ a6
      have eog : og = go := by rw [a6] at hog; exact (Option.some.inj hog).symm
      subst eog
      refine go_of (s := s6.setGen g1 gs6) (o := og) (n := "generator") a6 hgc hgd (by decide) ?_
      have L6 := Inv.later I6
      have Ib6 : Inv (X.blk (low (s6.setGen g1 gs6) ce.locals) H6 scope ce []) (Xg.pn ++ ip6) (wipe σ (own.map (·.2))) H6 (s6.setGen g1 gs6) := by
        refine Inv.anew' (X := X.blk s0 H0 scope ce []) (s' := s6.setGen g1 gs6) Ib (abB s0 H0) (ofG ⟨allBare_setGen L6.bare hb6, L6.bs, L6.funs, L6.frf, L6.hok⟩) (fun b o hb e => ?_) (fun p hp => ?_)
        · rcases hb with z | ⟨x, z⟩
          · rw [z] at e ⊢
            rw [hoC] at e
            cases e
            exact ⟨c1, c2⟩
          · exact (cN x b z).elim
        · have hp : p ∈ Xg.pn ++ ip6 := hp
          obtain ⟨a1, a2, a3, a4, a5⟩ := pinG p hp
          refine ⟨a1, a2, ?_, by rw [fsG] at a4; exact a4, a5⟩
          rcases List.mem_append.mp hp with z | z
          · rw [B.ePn] at z
            rw [List.mem_singleton.mp z]
            exact Nat.ne_of_lt (Nat.lt_trans (by rw [← hD]; exact hga) DC)
          · exact fun e => dis6 p z (by rw [e]; exact List.mem_singleton.mpr rfl)
      obtain ⟨Nx, hNx, st⟩ := step x H6 y6
      generalize hs7 : s6.setGen g1 gs6 = s7 at Ib6 ⊢
      have e7 : s7.heap = s6.heap := by rw [← hs7]; rfl
      have o7 : s7.os = s6.os := by rw [← hs7]; rfl
      have g7 : s7.gens[g1]? = some gs6 := by rw [← hs7]; exact setGen_at hsz6
      have fin : ∀ {σ' : L2.St} {H' : Hp} {s' : Shared}, Inv (X.blk (low s7 ce.locals) H6 scope ce []) (Xg.pn ++ ip6) σ' H' s' → wipe σ' (own.map (·.2)) = wipe σ (own.map (·.2)) → SameSleep s7 s' → Nx H' →
          ∃ m, m < n ∧ ∃ (i : Nat) (H' : Hp) (s0 : Shared) (H0 : Hp) (sg : Shared) (Hg : Hp) (ip : List (Addr × Obj)) (σ1 : L2.St) (gs : GenState) (nf : Nat),
      Inv (X.blk s0 H0 scope ce []) [] (wipe σ (own.map (·.2))) H' s' ∧ Inv (anew Xg sg Hg) ip σ1 H' s' ∧ s'.gens[g1]? = some gs ∧
      (∀ P : List (Addr × Obj), P.map (·.1) = [ce.locals] → InG Xg ⟨i, s'.setGen g1 .running, H', P⟩ ip σ1 H' (s'.setGen g1 .running) → (J.go i H' ∨ J.stop i H') →
        GoesOn (model X.prog X.w) X.A.in1 (GR Xg J) (GY Xg J Nm) nf gs (.send .none) ⟨i, s'.setGen g1 .running, H', P⟩ (s'.setGen g1 .running)) ∧
      (s'.os = sc.os ∧ Un (frs X.stack) [] H1 H' sc.heap s'.heap) ∧ W i m H' := fun {σ' H' s'} I' hw' sl nx => by
        obtain ⟨wk, m', hm, w'⟩ := hNx H' nx
        have hl : (wipe σ (own.map (·.2))).length = σ'.length := by rw [← hw', wipe_length]
        have kept7 : ∀ b o, b < ce.locals → s6.heap.get? b = some o → H6 b = none → b ∉ frs X.stack → s'.heap.get? b = some o ∧ H' b = none := fun b o hb e hn hf =>
          Inv.keptNow (X := X.blk s7 H6 scope ce []) (s0 := s7) (H0 := H6) I' hb (by rw [e7]; exact e) hn hf
        have Ig' : Inv (anew Xg s' H') ip6 σ6 H' s' := by
          refine Inv.anew' (X := anew Xg (s5.setGen g1 .running) H5) (s' := s') I6 B.ab (let z := toG (Inv.later I'); ⟨z.bare, z.bs, z.funs, z.frf, z.hok⟩) (fun b o hb e => ?_) (fun p hp => ?_)
          · rcases hb with z | ⟨x, z⟩
            · have z : b = Xg.env.locals := z
              subst z
              exact kept7 _ o LC e I6.free (ownNo _ Lsc)
            · have z : Xg.env.cells.lookup x = some b := z
              exact kept7 b o (Nat.lt_trans (cellLt x b z) DC) e (I6.freeC x b z) (ownNo b (B.cells x b z))
          · have hp : p ∈ Xg.pn ++ ip6 := hp
            obtain ⟨a1, a2, a3, a4, a5⟩ := I'.pin p (List.mem_append_right _ hp)
            obtain ⟨_, _, b3, b4, _⟩ := pinG p hp
            exact ⟨a1, a2, b3, b4, a5⟩
        refine ⟨m', hm, i + 1, H', _, _, _, _, ip6, σ6, gs6, nf - 1, (I'.pins_of (pins' := []) fun p hp => nomatch hp).weak hl (fun j v e => ?_), Ig', sl g1 gs6 hz6 g7, fun P hP IG' hJ' => ?_, ⟨?_, ?_⟩, w'⟩
        · rw [← hw'] at e
          exact (wipe_some e).1
        · have z := more ⟨i + 1, s'.setGen g1 .running, H', P⟩ rfl hP (Nat.le_of_lt Ig'.lt) IG' wk hJ' .none (fun a e => by cases e)
          cases nf with
          | zero => exact False.elim z
          | succ nf => exact z
        · have z1 : s'.os = s7.os := I'.os
          have z2 : s6.os = s5.os := I6.os
          rw [z1, o7, z2]; exact os5
        · have u6 : Un (frs X.stack) [] H1 H6 sc.heap s6.heap := un_low U5 Lsc (by
            have z : Un Xg.fs [] H5 H6 (lowH s5.heap Xg.env.locals) s6.heap := I6.base
            rw [fsG] at z; exact z)
          refine un_low u6 (Nat.le_trans Lsc (Nat.le_of_lt LC)) ?_
          have z : Un (frs X.stack) [] H6 H' (lowH s7.heap ce.locals) s'.heap := I'.base
          rw [e7] at z
          exact z
      -- the target
      refine wpAny_mono (wpAny_asleep Ib6.bare fun G hG => (pg _ _).run _ { s7 with gens := G } _ H6 x v _ (Inv.gens Ib6 hG) rv st) (fun _ s8 z => ?_) fun _ s8 z => (let ⟨_, _, _, f⟩ := z; False.elim f)
      obtain ⟨sl8, G8, bG8, σ8, H8, I8, hw8, q8⟩ := z
      have J8 := Inv.gens (s := s8) I8 (bG8 I8.bare)
      -- the tests
      refine wpAny_mono (wpAny_asleep (s := s8) J8.bare fun G hG => (pt _ _).run _ { s8 with gens := G } σ8 H8 _ (Inv.gens J8 hG) q8) (fun b s9 z => ?_) fun _ s9 z => (let ⟨_, _, _, f⟩ := z; False.elim f)
      obtain ⟨sl9, G9, bG9, H9, I9, q9⟩ := z
      have J9 := Inv.gens (s := s9) I9 (bG9 I9.bare)
      cases b with
      | false =>
        simp only [Bool.false_eq_true, if_false] at q9 ⊢
        exact fin J9 hw8 (SameSleep.trans sl8 sl9) q9
      | true =>
        simp only [if_true] at q9 ⊢
        refine wpAny_mono (wpAny_asleep (s := s9) J9.bare fun G hG => (pe _ _).run _ { s9 with gens := G } σ8 H9 _ (Inv.gens J9 hG) q9) (fun y s10 z => ?_) fun _ s10 z => (let ⟨_, _, _, f⟩ := z; False.elim f)
        obtain ⟨sl10, G10, bG10, yv, H10, I10, r10, acc, hD10, hz10, nx⟩ := z
        have J10 := Inv.gens (s := s10) I10 (bG10 I10.bare)
        refine wpAny_mono (wpAny_asleep (s := s10) (E := fun _ _ => False) (Q := fun (_ : Value) s' => Inv (X.blk (low s7 ce.locals) H6 scope ce []) (Xg.pn ++ ip6) σ8 (upd H10 D (.lst (acc ++ [yv]))) s') J10.bare fun G hG =>
          app_ok (X := X.blk (low s7 ce.locals) H6 scope ce []) (Inv.gens J10 hG) hD10 hz10 r10 fun s11 I11 => I11) (fun _ s11 z => ?_) fun _ s11 z => (let ⟨_, _, _, f⟩ := z; False.elim f)
        obtain ⟨sl11, G11, bG11, I11⟩ := z
        exact fin (Inv.gens (s := s11) I11 (bG11 I11.bare)) hw8 (SameSleep.trans sl8 (SameSleep.trans sl9 (SameSleep.trans sl10 sl11))) nx
    · intro _
      obtain ⟨ip6, σ6, H6, I6, hf⟩ := hp
      obtain ⟨c1, c2, _⟩ := I6.pin (ce.locals, oC) (List.mem_append_right _ (List.mem_append_right _ (List.mem_singleton.mpr rfl)))
      have u6 : Un (frs X.stack) [] H1 H6 sc.heap s6.heap := un_low U5 Lsc (by
        have z : Un Xg.fs [] H5 H6 (lowH s5.heap Xg.env.locals) s6.heap := I6.base
        rw [fsG] at z; exact z)
      have hok6 : HOk X.prog X.w H6 s6.heap := by
        have z := I6.hok
        have z : HOk Xg.prog Xg.w H6 s6.heap := z
        rw [B.eProg, B.eW] at z; exact z
      have I7 : Inv X pins σ H6 { s6.setGen g1 .finished with heap := h6 } := by
        refine Isc.call' (ch := []) ?_ (u6.trans (Un.kept hk)) (hok6.kept hk) (allBare_setGen (s := s6) (g := g1) I6.bare rfl) fun b z => nomatch z
        have z2 : s6.os = s5.os := I6.os
        show s6.os = sc.os
        rw [z2]; exact os5
      refine hRR D s3.heap.objs.size _ mC H6 I7 (hfin H6 hf) ?_ (Isc.fpOk (by rw [szD]; exact Nat.le_succ_of_le scD) (by rw [← cL]; exact c2))
      rw [← cL]
      exact ⟨oC, esC, epC, hk _ _ c1, hdC, hrC⟩
  refine codeAny_compStart_list loop (wpAny_pyIter_gen (B.isGen _ ?_) loop)
  exact kp4 a go ga
/-- as a value -/
theorem pe_lcG {elt tg iter : Expr} {ifs : List Expr} {scope : Scope} {own : List (Str × Nat)} {pos : Pos} {k : Nat} {tn : TGn} {g : TG} {tt : TT} {te : TE} (hc : X.calm = true) (hN : X.N.Nodup) (hr : Room (k + 1) X.A) (hi : PGn X k iter tn) (ok : BlkOk X.N X.env.scope scope own)
    (hg : ∀ (s : Shared) (H : Hp) (C : Addr) (cl : List (Str × Addr)) (fp : List Addr), PG (X.blk s H scope (compEnvC scope cl C X.env) fp) tg g)
    (ht : ∀ (s : Shared) (H : Hp) (C : Addr) (cl : List (Str × Addr)) (fp : List Addr), PTs (X.blk s H scope (compEnvC scope cl C X.env) fp) ifs tt)
    (he : ∀ (s : Shared) (H : Hp) (C : Addr) (cl : List (Str × Addr)) (fp : List Addr), PE (X.blk s H scope (compEnvC scope cl C X.env) fp) elt te) (hsc : ∀ y ∈ scope.names, y.2 ≠ .cell ∧ y.2 ≠ .free := by decide) (hs : ∀ x, foldedSetIterable iter X.env x = pure x := by intro _; rfl) :
    PE X (.ListComp elt [⟨tg, iter, ifs, 0⟩] scope pos) (tLcG tn g tt te (own.map (·.2))) := by
  refine ⟨fun pins s σ H Q I h => ?_⟩
  rw [eval_ListComp]
  refine lcg_core hc hN hr I hi ok hsc hg ht he hs h fun D C s' m H' I' q hn f => ⟨m, hn, fun h2 sb => ?_⟩
  obtain ⟨f0, f1, f2, f3, f4, f5⟩ := f
  exact ⟨.ref D, H', I'.turned (t' := s'.toks) (fun b o hb e => (sb.2 b hb).trans e) f0 f1 f3 f4 f5, rfl, q⟩
/-- name = [.. generator ..] on one line, the name a local -/
theorem ps_setLcG {i : Nat} {y : Str} {py : Pos} {elt tg iter : Expr} {ifs : List Expr} {scope : Scope} {own : List (Str × Nat)} {pos spos : Pos} {k : Nat} {tn : TGn} {g : TG} {tt : TT} {te : TE} (hc : X.calm = true) (hN : X.N.Nodup) (hr : Room (k + 1) X.A) (hy : X.N[i]? = some y)
    (hyl : X.env.scope.names.lookup y = some .local) (hsw : swapsWith (.ListComp elt [⟨tg, iter, ifs, 0⟩] scope pos) (some (.Name y py)) spos.line X.env = pure true) (hi : PGn X k iter tn) (ok : BlkOk X.N X.env.scope scope own)
    (hg : ∀ (s : Shared) (H : Hp) (C : Addr) (cl : List (Str × Addr)) (fp : List Addr), PG (X.blk s H scope (compEnvC scope cl C X.env) fp) tg g)
    (ht : ∀ (s : Shared) (H : Hp) (C : Addr) (cl : List (Str × Addr)) (fp : List Addr), PTs (X.blk s H scope (compEnvC scope cl C X.env) fp) ifs tt)
    (he : ∀ (s : Shared) (H : Hp) (C : Addr) (cl : List (Str × Addr)) (fp : List Addr), PE (X.blk s H scope (compEnvC scope cl C X.env) fp) elt te) (hsc : ∀ y ∈ scope.names, y.2 ≠ .cell ∧ y.2 ≠ .free := by decide) (hs : ∀ x, foldedSetIterable iter X.env x = pure x := by intro _; rfl) :
    PS X (.Assign [.Name y py] (.ListComp elt [⟨tg, iter, ifs, 0⟩] scope pos) spos) (tAsg (tLcG tn g tt te (own.map (·.2))) (gName i)) := by
  refine ⟨fun pins s σ H D I h => ?_⟩
  rw [exec_Assign_Name_used _ _ _ _ hsw]
  refine wpAny_bind (wpAny_standAt (wpAny_bind ?_))
  have h : tLcG tn g tt te (own.map (·.2)) σ H (fun x H1 => gName i x σ H1 D.nx) := h
  refine wpAny_bind (wpAny_mono (lcg_core (use := some (assign (.Name y py) X.env)) (Qf := fun _ s' => SP X pins D .next s') hc hN hr I hi ok hsc hg ht he hs h fun L C s' m H' I' q hn f => ?_) (fun _ s' hq => wpAny_pure (wpAny_pure hq)) fun _ _ z => z)
  obtain ⟨f0, f1, f2, f3, f4, f5⟩ := f
  refine wpAny_assign_Name (store_ok2 (v := V.ref L) I' hN hy (.inl hyl) rfl (fun s2 I2 z => ?_) (.inr hyl))
  obtain ⟨a, sb, ha⟩ := z
  have hCa : C ≠ a := by
    rcases ha with z | z
    · rw [z]; exact f1
    · exact fun e => f4 y a z e.symm
  exact ⟨m, hn.sameBut sb hCa, fun h3 sb3 => ⟨_, H', I2.turned (t' := s2.toks) (fun b o hb e => (sb3.2 b hb).trans e) f0 f1 f3 f4 f5, q⟩⟩
end
end GnW
/-! GnH: a generator def of the text. -/
namespace GnW
open PySem PySem.Spec PyProof.Rows L2
theorem fun_okG {P : Program} {w : World} {K : PySem.W.Frag} {mg : Str → Option Value} {base : Heap} {x qual : Str} {st : Stmt} {f : Addr} {fd : FuncData} {N ps : List Str} {k : Nat} {sp : SpN} (F : Fun K x qual st f fd) (S : GScope N ps (defScope st))
    (len : ∀ vs H cont, sp vs H cont → vs.length = ps.length)
    (hbody : ∀ (cdv : Value) (A : Around) (outer : List Env) (s : Shared) (H : Hp) (vs : List V) (cont : GIt → Nat → Prop), Room k (A.deeper (envOfC qual (defScope st) s.heap.objs.size f cdv)) → sp vs H cont →
      ∃ J Nm, cont J Nm ∧ ∀ (Aw : Around) (pn : List (Addr × Obj)), Room k (Aw.deeper (envOfC qual (defScope st) s.heap.objs.size f cdv)) → ∃ t, GSts (gnx P w K mg base N qual (defScope st) f cdv Aw outer s H pn) J Nm (defBody st) t ∧ ∀ Hw, (J.go 0 Hw ∨ J.stop 0 Hw) → t (gAll J) 0 Hw (start N vs) Hw) :
    GnFn P w K mg base (k + 1) f fd ps sp := by
  obtain ⟨oc, od, kV, doc, pm, an, cdv, ct, osl, rfl, lk, hcd⟩ := F.ex
  exact gnfn_of lk hcd S len fun A outer s H vs cont hr hsp => hbody cdv A outer s H vs cont hr hsp
section
variable {X : Cx} {J : GIt} {N : Nat}
/-- the rules with a first copy of each part, at the body's own context, which fixes the reading -/
theorem gst_plain2 {st : Stmt} {t : TS} (_ : PS X st t) (h : ∀ s0 H0, PS (anew X s0 H0) st t) : GSt X J N st (tgPlain t) := gst_plain h
theorem gst_yield2 {e : Expr} {yp pos : Pos} {te : TE} (_ : PE X e te) (he : ∀ s0 H0, PE (anew X s0 H0) e te) (hco : X.env.scope.isCoroutine = false := by rfl) (hi : interactive X.env = false := by rfl) : GSt X J N (.Expr (.Yield (some e) yp) pos) (tgYield J N te) := gst_yield he hco hi
theorem gst_for2 {tg iter : Expr} {body : List Stmt} {wi : TI} {g : TG} {tb : TG2} {pos : Pos} (hc : X.calm = true) (_ : PI X tg iter wi) (hi : ∀ s0 H0, PI (anew X s0 H0) tg iter wi) (_ : PG X tg g) (hg : ∀ s0 H0, PG (anew X s0 H0) tg g) (hb : GSts X J N body tb)
    (hs : ∀ x, foldedSetIterable iter X.env x = pure x := by intro _; rfl) : GSt X J N (.For tg iter body [] pos) (tgFor wi g tb) := gst_for hc hi hg hb hs
end
/-- turns of an inner iterator, one by one: Pv by the turn -/
theorem gfor_it {Jr : It} {n : Nat} {Gd : Hp → Prop} {Yd : Nat → Hp → V → Hp → Prop} (w : Walk Jr n Gd Yd) {g : TG} {tb : TG2} {D : GEnd} {i : Nat} {Hw : Hp} {σ : L2.St} {H : Hp} (Pv : Nat → Nat → Hp → L2.St → Hp → Prop) (h0 : Pv 0 i Hw σ H) (hG : ∀ j i Hw σ H, j ≤ n → Pv j i Hw σ H → Gd H)
    (hs : ∀ j i Hw x σ H H', j < n → Pv j i Hw σ H → Yd j H x H' → g x σ H' fun σ2 H2 => tb { D with nx := Pv (j + 1), ct := Pv (j + 1), bk := D.nx } i Hw σ2 H2) (hd : ∀ i Hw σ H, Pv n i Hw σ H → D.nx i Hw σ H) :
    ∃ W : Nat → Nat → Nat → Hp → L2.St → Hp → Prop, (∃ m, W 0 m i Hw σ H) ∧ ∀ j m i Hw σ H, W j m i Hw σ H →
  (Jr.stop j H ∧ D.nx i Hw σ H) ∨ (Jr.go j H ∧ ∃ Nx : Nat → Hp → L2.St → Hp → Prop, (∀ i' Hw' σ' H', Nx i' Hw' σ' H' → ∃ m', m' < m ∧ W (j + 1) m' i' Hw' σ' H') ∧
    ∀ x H', Jr.yld j H x H' → g x σ H' fun σ2 H2 => tb { D with nx := Nx, ct := Nx, bk := D.nx } i Hw σ2 H2) := by
  refine ⟨fun j m i Hw σ H => m = n - j ∧ j ≤ n ∧ Pv j i Hw σ H, ⟨n, by simp, Nat.zero_le _, h0⟩, ?_⟩
  rintro j m i Hw σ H ⟨rfl, hj, p⟩
  have q := hG j i Hw σ H hj p
  by_cases hlt : j < n
  · exact .inr ⟨w.goes j H hlt q, Pv (j + 1), fun i' Hw' σ' H' p' => ⟨n - (j + 1), by omega, rfl, hlt, p'⟩, fun x H' y => hs j i Hw x σ H H' hlt p (w.yields j H x H' hlt q y)⟩
  · have e : j = n := by omega
    subst e
    exact .inl ⟨w.stops H q, hd i Hw σ H p⟩
/-- a comprehension over a generator, turn by turn: Pv by the turn and the heap (the new list at D within) -/
theorem lcg_it {J : GIt} {n : Nat} {g : TG} {tt : TT} {te : TE} {vs : List Nat} {σ : L2.St} {H1 : Hp} {D : Addr} {Qd : Hp → Prop} (Pv : Nat → Hp → Prop) (h0 : Pv 0 (upd H1 D (.lst []))) (hG : ∀ i H, i ≤ n → Pv i H → J.go i H ∨ J.stop i H) (hF : ∀ i H H', i ≤ n → Pv i H → J.fin i H H' → Qd H')
    (hs : ∀ i x H H', i ≤ n → Pv i H → J.yld i H x H' → i < n ∧ g x (wipe σ vs) H' fun σ2 H2 => wipe σ2 vs = wipe σ vs ∧ tt σ2 H2 fun b H3 =>
      if b = true then te σ2 H3 fun y H4 => ∃ acc, H4 D = some (.lst acc) ∧ acc.length < sizeLine ∧ (J.wk i H' (upd H4 D (.lst (acc ++ [y]))) ∧ Pv (i + 1) (upd H4 D (.lst (acc ++ [y])))) else J.wk i H' H3 ∧ Pv (i + 1) H3) :
    ∃ W : Nat → Nat → Hp → Prop, (∃ m, W 0 m (upd H1 D (.lst []))) ∧ ∀ i m H, W i m H →
  (J.go i H ∨ J.stop i H) ∧ (∀ H', J.fin i H H' → Qd H') ∧ ∀ x H', J.yld i H x H' → ∃ Nx : Hp → Prop, (∀ H'', Nx H'' → J.wk i H' H'' ∧ ∃ m', m' < m ∧ W (i + 1) m' H'') ∧ g x (wipe σ vs) H' fun σ2 H2 => wipe σ2 vs = wipe σ vs ∧ tt σ2 H2 fun b H3 =>
    if b = true then te σ2 H3 fun y H4 => ∃ acc, H4 D = some (.lst acc) ∧ acc.length < sizeLine ∧ Nx (upd H4 D (.lst (acc ++ [y]))) else Nx H3 := by
  refine ⟨fun i m H => m = n - i ∧ i ≤ n ∧ Pv i H, ⟨n, by simp, Nat.zero_le _, h0⟩, ?_⟩
  rintro i m H ⟨rfl, hi, p⟩
  refine ⟨hG i H hi p, fun H' hf => hF i H H' hi p hf, fun x H' y => ?_⟩
  obtain ⟨hlt, q⟩ := hs i x H H' hi p y
  exact ⟨fun H'' => J.wk i H' H'' ∧ Pv (i + 1) H'', fun H'' z => ⟨z.1, n - (i + 1), by omega, rfl, hlt, z.2⟩, q⟩
end GnW
namespace K27
open PySem PySem.Spec PyProof.Rows L2 TL
/-! ### words for all -/
theorem pe_gs {X : Cx} {x : Str} {z : Str} {pos : Pos} (hg : Gl X x) (hm : ∃ t, X.mg x = some (.str z t)) (hd : (x == ("__debug__" : Str)) = false := by decide) : PE X (.Name x pos) (tC (.str z)) :=
  hm.elim fun t h => pe_glob (v := .str z) hg h ⟨t, rfl⟩ hd
theorem pe_gi {X : Cx} {x : Str} {z : Int} {pos : Pos} (hg : Gl X x) (hm : ∃ t, X.mg x = some (.int z t)) (hd : (x == ("__debug__" : Str)) = false := by decide) : PE X (.Name x pos) (tC (.int z)) :=
  hm.elim fun t h => pe_glob (v := .int z) hg h ⟨t, rfl⟩ hd
theorem pe_gr {X : Cx} {x : Str} {r : Addr} {pos : Pos} (hg : Gl X x) (hm : X.mg x = some (.ref r)) (hd : (x == ("__debug__" : Str)) = false := by decide) : PE X (.Name x pos) (tC (.ref r)) := pe_glob (v := .ref r) hg hm rfl hd
theorem same_upd {H : Hp} {p : Addr} {o : HO} (h : H p = none) : Same H (upd H p o) := fun b x e => by
  rw [upd_ne (ne_of_none e h)]
  exact e
/-- a new object of ours changes: what stood before stands -/
theorem same_mut {H H' : Hp} {p : Addr} {o : HO} (s : Same H H') (h : H p = none) : Same H (upd H' p o) := fun b x e => by
  rw [upd_ne (ne_of_none e h)]
  exact s _ _ e
def Big (z : Str) : Prop := z.length ≤ 1000000
theorem bigLine {n : Nat} (h : n ≤ 1000000) : n < sizeLine := Nat.lt_of_le_of_lt h (by decide)
theorem bigLe {n : Nat} (h : n ≤ 1000000) : n ≤ sizeLine := Nat.le_of_lt (bigLine h)
theorem st_ite {c : TT} {t1 t2 : TS} {σ : L2.St} {H : Hp} {D : Ends} {b : Bool} (h : Ans c σ H b) (h1 : b = true → t1 D σ H) (h2 : b = false → t2 D σ H) : tIfS c t1 t2 D σ H := by
  cases b with
  | true => exact st_yes h (h1 rfl)
  | false => exact st_no h (h2 rfl)
theorem while_ans {c : TT} {tb : TS} {D : Ends} {σ : L2.St} {H : Hp} (Pv : Nat → L2.St → Hp → Prop) (m : Nat) (h0 : Pv m σ H)
    (hs : ∀ m σ H, Pv m σ H → ∃ b, Ans c σ H b ∧ (b = true → tb { D with nx := fun σ' H' => ∃ m', m' < m ∧ Pv m' σ' H', ct := fun σ' H' => ∃ m', m' < m ∧ Pv m' σ' H', bk := D.nx } σ H) ∧ (b = false → D.nx σ H)) : tWhile c tb D σ H := by
  refine ⟨Pv, ⟨m, h0⟩, fun m σ H p => ?_⟩
  obtain ⟨b, ha, ht, hf⟩ := hs m σ H p
  refine ha _ ?_
  cases b with
  | true => exact ⟨_, fun σ' H' h => h, ht rfl⟩
  | false => exact hf rfl
/-- a comprehension or loop over the signs of a text -/
theorem lc_str {x : Str} {g : TG} {tt : TT} {te : TE} {vs : List Nat} {σ : L2.St} {H1 : Hp} {D : Addr} {Qd : Hp → Prop} (Pv : Nat → Hp → Prop) (h0 : Pv 0 (upd H1 D (.lst [])))
    (hs : ∀ i c H, x.cps[i]? = some c → Pv i H → g (.str ⟨#[c]⟩) (wipe σ vs) H fun σ2 H2 => wipe σ2 vs = wipe σ vs ∧ tt σ2 H2 fun b H3 =>
      if b = true then te σ2 H3 fun y H4 => ∃ acc, H4 D = some (.lst acc) ∧ acc.length < sizeLine ∧ Pv (i + 1) (upd H4 D (.lst (acc ++ [y]))) else Pv (i + 1) H3) (hd : ∀ H, Pv x.cps.size H → Qd H) :
    ∃ W : Nat → Nat → Hp → Prop, (∃ m, W 0 m (upd H1 D (.lst []))) ∧ ∀ i m H, W i m H →
      ((Its x).stop i H ∧ Qd H) ∨ ((Its x).go i H ∧ ∃ Nx : Hp → Prop, (∀ H', Nx H' → ∃ m', m' < m ∧ W (i + 1) m' H') ∧ ∀ x' H', (Its x).yld i H x' H' → g x' (wipe σ vs) H' fun σ2 H2 => wipe σ2 vs = wipe σ vs ∧ tt σ2 H2 fun b H3 =>
        if b = true then te σ2 H3 fun y H4 => ∃ acc, H4 D = some (.lst acc) ∧ acc.length < sizeLine ∧ Nx (upd H4 D (.lst (acc ++ [y]))) else Nx H3) := by
  refine ⟨fun i m H => m = x.cps.size - i ∧ i ≤ x.cps.size ∧ Pv i H, ⟨x.cps.size, by simp, Nat.zero_le _, h0⟩, ?_⟩
  rintro i m H ⟨rfl, hi, p⟩
  by_cases hlt : i < x.cps.size
  · refine .inr ⟨hlt, Pv (i + 1), fun H' p' => ⟨x.cps.size - (i + 1), by omega, rfl, hlt, p'⟩, fun x' H' y => ?_⟩
    obtain ⟨e, c, hc, y⟩ := y
    subst e y
    exact hs i c _ hc p
  · have e : i = x.cps.size := by omega
    subst e
    exact .inl ⟨Nat.le_refl _, hd H p⟩
/-- f of each sign, put into a new list -/
theorem lc_signs {z : Str} {g : TG} {te : TE} {vs : List Nat} {σ : L2.St} {H1 : Hp} {D : Addr} {Qd : Hp → Prop} (f : Nat → Bool) (hz : Big z) (hD : H1 D = none)
    (hs : ∀ c H (Q : VK), Q (.bl (f c)) H → g (.str ⟨#[c]⟩) (wipe σ vs) H fun σ2 H2 => wipe σ2 vs = wipe σ vs ∧ te σ2 H2 Q) (hd : ∀ H, Same H1 H → H D = some (.lst (((tl z).map f).map V.bl)) → Qd H) :
    ∃ W : Nat → Nat → Hp → Prop, (∃ m, W 0 m (upd H1 D (.lst []))) ∧ ∀ i m H, W i m H →
      ((Its z).stop i H ∧ Qd H) ∨ ((Its z).go i H ∧ ∃ Nx : Hp → Prop, (∀ H', Nx H' → ∃ m', m' < m ∧ W (i + 1) m' H') ∧ ∀ x' H', (Its z).yld i H x' H' → g x' (wipe σ vs) H' fun σ2 H2 => wipe σ2 vs = wipe σ vs ∧ tYes σ2 H2 fun b H3 =>
        if b = true then te σ2 H3 fun y H4 => ∃ acc, H4 D = some (.lst acc) ∧ acc.length < sizeLine ∧ Nx (upd H4 D (.lst (acc ++ [y]))) else Nx H3) := by
  refine lc_str (fun i H' => Same H1 H' ∧ H' D = some (.lst ((((tl z).take i).map f).map V.bl))) ⟨same_upd hD, upd_same⟩ ?_ ?_
  · rintro i c H' hi ⟨s2, hD2⟩
    have hi2 : (tl z)[i]? = some c := by rw [Array.getElem?_toList]; exact hi
    have hil : i < z.length := (Array.getElem?_eq_some_iff.mp hi).1
    have hsz : ((((tl z).take i).map f).map V.bl).length < sizeLine := by
      rw [List.length_map, List.length_map, List.length_take]
      exact Nat.lt_of_le_of_lt (Nat.min_le_left _ _) (bigLine (by unfold Big at hz; omega))
    have := hs c H' (fun y H4 => ∃ acc, H4 D = some (.lst acc) ∧ acc.length < sizeLine ∧ (Same H1 (upd H4 D (.lst (acc ++ [y]))) ∧ (upd H4 D (.lst (acc ++ [y]))) D = some (.lst ((((tl z).take (i + 1)).map f).map V.bl)))) ?_
    · exact this
    · refine ⟨_, hD2, hsz, same_mut s2 hD, ?_⟩
      rw [upd_same, List.take_add_one, hi2, List.map_append, List.map_append]
      rfl
  · rintro H' ⟨s2, hD2⟩
    have et : (tl z).take z.cps.size = tl z := List.take_of_length_le (by rw [Array.length_toList]; exact Nat.le_refl _)
    rw [et] at hD2
    exact hd _ s2 hD2
/-! ### own rules -/
theorem hu65 {A : Around} {k : Nat} (hr : Room k A) : A.units + 65 < cLine := by have := hr.un; omega
section
variable {X : Cx} {pos : Pos}
/-- o.f as a target -/
def gFld (K : PySem.W.Frag) (to : TE) (f : Str) : TG := fun v σ H Q => to σ H fun x H1 => ∃ a C dx fs, x = .ref a ∧ H1 a = some (.ins C dx fs) ∧ Cls K C ∧ NoAttr K C f ∧ fs.length < 1000 ∧ Q σ (upd H1 a (.ins C dx (putF f v fs)))
theorem pg_fld {o : Expr} {f : Str} {to : TE} (ho : PE X o to) : PG X (.Attribute o f pos) (gFld X.K to f) := by
  refine ⟨fun pins s σ H v u Q I r h => ?_⟩
  rw [assign_Attribute]
  refine wpAny_bind (wpAny_holding (thn (ho.run pins s σ H _ I h) fun ov s1 ⟨x, H1, I1, rx, a, C, dx, fs, ex, ea, c, n, l, q⟩ => ?_))
  subst ex
  obtain rfl : ov = Value.ref a := rx
  refine wpAny_bind (wpAny_standAt (wpAny_bind (wpAny_holding (setattr_ok I1 ea c n l r fun s3 I3 => ?_))))
  exact wpAny_release ⟨σ, _, I3, q⟩
/-- x in a tuple of data -/
def rInT (K : PySem.W.Frag) : R2 := fun x y H Q => ∃ d ds, Dp K H x d ∧ Dp K H y (.tuple ds) ∧ SeqAt.shaped d = true ∧ SeqAt.shaped (.tuple ds) = true ∧ Q (.bl (ds.any fun z => PyData.eqv z d)) H
theorem op_inT (hu : X.A.units + 65 < cLine) : OpR X (compareOp .In) (rInT X.K) := by
  intro pins s σ H x y v u Q I rx ry h
  obtain ⟨d, ds, hd, he, sd, se, q⟩ := h
  obtain ⟨as, r1⟩ := Dp.reads I d x v hd rx
  obtain ⟨bs, r2⟩ := Dp.reads I (.tuple ds) y u he ry
  exact SeqAt.in_tuple_reads r2 r1 (SeqAt.canLay_of_shaped se) (SeqAt.canLay_of_shaped sd) (room_in_shaped sd hu) ⟨.bl _, H, I, rfl, q⟩
end
/-! ### the text -/
abbrev LET : Str := "abcdefghijklmnopqrstuvwxyz"
abbrev DIG : Str := "0123456789"
def kws : List V := [.str "globals", .str "kinds", .str "keep", .str "def", .str "if", .str "else", .str "while", .str "risk", .str "raise", .str "try", .str "except", .str "finally", .str "undo", .str "with", .str "swallow", .str "return"]
def top (i : Nat) : Stmt := PySem.Challenge.pw_allornothing_k27_crashes.main.body.getD i (.Pass ⟨0, 0, 0, 0⟩)
abbrev s_is_integer : Stmt := top 5
abbrev s_is_word : Stmt := top 10
abbrev s_is_name : Stmt := top 12
abbrev s_are_values : Stmt := top 16
abbrev s_is_event : Stmt := top 17
abbrev s_behind : Stmt := top 18
abbrev s_undone_by_log : Stmt := top 19
abbrev s_Store___init__ : Stmt := inClass (top 21) 0
abbrev s_Store_perform : Stmt := inClass (top 21) 1
abbrev s_Store_current : Stmt := inClass (top 21) 2
abbrev s_Store_log : Stmt := inClass (top 21) 3
abbrev s_Store_pending : Stmt := inClass (top 21) 4
abbrev s_Store_crashes : Stmt := inClass (top 21) 5
abbrev s_Store_recovered : Stmt := inClass (top 21) 6
abbrev s_store_at : Stmt := top 22
abbrev s__law_pool : Stmt := top 24
abbrev s__law_mixed : Stmt := top 25
abbrev s__law_draw : Stmt := top 26
abbrev s__law_names : Stmt := top 27
abbrev s__law_applied : Stmt := top 29
abbrev s__law_crashes : Stmt := top 30
abbrev s__law_recovered : Stmt := top 31
abbrev s__law_event : Stmt := top 32
abbrev s__law_performed_right : Stmt := top 33
abbrev s__law_recovered_right : Stmt := top 34
abbrev s_law : Stmt := top 35
/-- where the text's defs and classes stand -/
structure Ads where
  f_is_integer : Addr
  f_is_integer_d : FuncData
  f_is_word : Addr
  f_is_word_d : FuncData
  f_is_name : Addr
  f_is_name_d : FuncData
  f_are_values : Addr
  f_are_values_d : FuncData
  f_is_event : Addr
  f_is_event_d : FuncData
  f_behind : Addr
  f_behind_d : FuncData
  f_undone_by_log : Addr
  f_undone_by_log_d : FuncData
  f_Store___init__ : Addr
  f_Store___init___d : FuncData
  f_Store_perform : Addr
  f_Store_perform_d : FuncData
  f_Store_current : Addr
  f_Store_current_d : FuncData
  f_Store_log : Addr
  f_Store_log_d : FuncData
  f_Store_pending : Addr
  f_Store_pending_d : FuncData
  pr_Store_pending : Addr
  f_Store_crashes : Addr
  f_Store_crashes_d : FuncData
  f_Store_recovered : Addr
  f_Store_recovered_d : FuncData
  f_store_at : Addr
  f_store_at_d : FuncData
  f__law_pool : Addr
  f__law_pool_d : FuncData
  f__law_mixed : Addr
  f__law_mixed_d : FuncData
  f__law_draw : Addr
  f__law_draw_d : FuncData
  f__law_names : Addr
  f__law_names_d : FuncData
  f__law_applied : Addr
  f__law_applied_d : FuncData
  f__law_crashes : Addr
  f__law_crashes_d : FuncData
  f__law_recovered : Addr
  f__law_recovered_d : FuncData
  f__law_event : Addr
  f__law_event_d : FuncData
  f__law_performed_right : Addr
  f__law_performed_right_d : FuncData
  f__law_recovered_right : Addr
  f__law_recovered_right_d : FuncData
  f_law : Addr
  f_law_d : FuncData
  c_Store : Addr
  t_KEYWORDS : Addr
  t_FLUSH : Addr
  t_CLEAR : Addr
/-- what the top has left -/
structure Txt (K : PySem.W.Frag) (mg : Str → Option Value) (a : Ads) : Prop where
  F_is_integer : Fun K "is_integer" "is_integer" s_is_integer a.f_is_integer a.f_is_integer_d
  b_is_integer : Binds K a.f_is_integer_d ["value"] []
  g_is_integer : mg "is_integer" = some (.ref a.f_is_integer)
  F_is_word : Fun K "is_word" "is_word" s_is_word a.f_is_word a.f_is_word_d
  b_is_word : Binds K a.f_is_word_d ["text"] []
  g_is_word : mg "is_word" = some (.ref a.f_is_word)
  F_is_name : Fun K "is_name" "is_name" s_is_name a.f_is_name a.f_is_name_d
  b_is_name : Binds K a.f_is_name_d ["value"] []
  g_is_name : mg "is_name" = some (.ref a.f_is_name)
  F_are_values : Fun K "are_values" "are_values" s_are_values a.f_are_values a.f_are_values_d
  b_are_values : Binds K a.f_are_values_d ["value"] []
  g_are_values : mg "are_values" = some (.ref a.f_are_values)
  F_is_event : Fun K "is_event" "is_event" s_is_event a.f_is_event a.f_is_event_d
  b_is_event : Binds K a.f_is_event_d ["value", "values"] []
  g_is_event : mg "is_event" = some (.ref a.f_is_event)
  F_behind : Fun K "behind" "behind" s_behind a.f_behind a.f_behind_d
  b_behind : Binds K a.f_behind_d ["values", "records", "events"] []
  g_behind : mg "behind" = some (.ref a.f_behind)
  F_undone_by_log : Fun K "undone_by_log" "undone_by_log" s_undone_by_log a.f_undone_by_log a.f_undone_by_log_d
  b_undone_by_log : Binds K a.f_undone_by_log_d ["values", "records"] []
  g_undone_by_log : mg "undone_by_log" = some (.ref a.f_undone_by_log)
  F_Store___init__ : Fun K "__init__" "Store.__init__" s_Store___init__ a.f_Store___init__ a.f_Store___init___d
  b_Store___init__ : Binds K a.f_Store___init___d ["self", "values"] []
  mk_Store : Mk K a.c_Store a.f_Store___init__
  F_Store_perform : Fun K "perform" "Store.perform" s_Store_perform a.f_Store_perform a.f_Store_perform_d
  b_Store_perform : Binds K a.f_Store_perform_d ["self", "event"] []
  m_Store_perform : Meth K a.c_Store "perform" a.f_Store_perform
  F_Store_current : Fun K "current" "Store.current" s_Store_current a.f_Store_current a.f_Store_current_d
  b_Store_current : Binds K a.f_Store_current_d ["self"] []
  m_Store_current : Meth K a.c_Store "current" a.f_Store_current
  F_Store_log : Fun K "log" "Store.log" s_Store_log a.f_Store_log a.f_Store_log_d
  b_Store_log : Binds K a.f_Store_log_d ["self"] []
  m_Store_log : Meth K a.c_Store "log" a.f_Store_log
  F_Store_pending : Fun K "pending" "Store.pending" s_Store_pending a.f_Store_pending a.f_Store_pending_d
  b_Store_pending : Binds K a.f_Store_pending_d ["self"] []
  pp_Store_pending : PropOf K a.c_Store "pending" a.pr_Store_pending a.f_Store_pending
  F_Store_crashes : Fun K "crashes" "Store.crashes" s_Store_crashes a.f_Store_crashes a.f_Store_crashes_d
  b_Store_crashes : Binds K a.f_Store_crashes_d ["self"] []
  m_Store_crashes : Meth K a.c_Store "crashes" a.f_Store_crashes
  F_Store_recovered : Fun K "recovered" "Store.recovered" s_Store_recovered a.f_Store_recovered a.f_Store_recovered_d
  b_Store_recovered : Binds K a.f_Store_recovered_d ["self"] []
  m_Store_recovered : Meth K a.c_Store "recovered" a.f_Store_recovered
  F_store_at : Fun K "store_at" "store_at" s_store_at a.f_store_at a.f_store_at_d
  b_store_at : Binds K a.f_store_at_d ["values", "records"] []
  g_store_at : mg "store_at" = some (.ref a.f_store_at)
  F__law_pool : Fun K "_law_pool" "_law_pool" s__law_pool a.f__law_pool a.f__law_pool_d
  b__law_pool : Binds K a.f__law_pool_d ["_law_script"] []
  g__law_pool : mg "_law_pool" = some (.ref a.f__law_pool)
  F__law_mixed : Fun K "_law_mixed" "_law_mixed" s__law_mixed a.f__law_mixed a.f__law_mixed_d
  b__law_mixed : Binds K a.f__law_mixed_d ["_law_number", "_law_count", "_law_many"] []
  g__law_mixed : mg "_law_mixed" = some (.ref a.f__law_mixed)
  F__law_draw : Fun K "_law_draw" "_law_draw" s__law_draw a.f__law_draw a.f__law_draw_d
  b__law_draw : Binds K a.f__law_draw_d ["_law_pool_here", "_law_many"] []
  g__law_draw : mg "_law_draw" = some (.ref a.f__law_draw)
  F__law_names : Fun K "_law_names" "_law_names" s__law_names a.f__law_names a.f__law_names_d
  b__law_names : Binds K a.f__law_names_d ["_law_pool_here"] []
  g__law_names : mg "_law_names" = some (.ref a.f__law_names)
  F__law_applied : Fun K "_law_applied" "_law_applied" s__law_applied a.f__law_applied a.f__law_applied_d
  b__law_applied : Binds K a.f__law_applied_d ["_law_state", "_law_event_here"] []
  g__law_applied : mg "_law_applied" = some (.ref a.f__law_applied)
  F__law_crashes : Fun K "_law_crashes" "_law_crashes" s__law_crashes a.f__law_crashes a.f__law_crashes_d
  b__law_crashes : Binds K a.f__law_crashes_d ["_law_values", "_law_events"] []
  g__law_crashes : mg "_law_crashes" = some (.ref a.f__law_crashes)
  F__law_recovered : Fun K "_law_recovered" "_law_recovered" s__law_recovered a.f__law_recovered a.f__law_recovered_d
  b__law_recovered : Binds K a.f__law_recovered_d ["_law_state"] []
  g__law_recovered : mg "_law_recovered" = some (.ref a.f__law_recovered)
  F__law_event : Fun K "_law_event" "_law_event" s__law_event a.f__law_event a.f__law_event_d
  b__law_event : Binds K a.f__law_event_d ["_law_pool_here", "_law_values", "_law_names_here"] []
  g__law_event : mg "_law_event" = some (.ref a.f__law_event)
  F__law_performed_right : Fun K "_law_performed_right" "_law_performed_right" s__law_performed_right a.f__law_performed_right a.f__law_performed_right_d
  b__law_performed_right : Binds K a.f__law_performed_right_d ["_law_store", "_law_values", "_law_events", "_law_middle"] []
  g__law_performed_right : mg "_law_performed_right" = some (.ref a.f__law_performed_right)
  F__law_recovered_right : Fun K "_law_recovered_right" "_law_recovered_right" s__law_recovered_right a.f__law_recovered_right a.f__law_recovered_right_d
  b__law_recovered_right : Binds K a.f__law_recovered_right_d ["_law_crash", "_law_state", "_law_name"] []
  g__law_recovered_right : mg "_law_recovered_right" = some (.ref a.f__law_recovered_right)
  F_law : Fun K "law" "law" s_law a.f_law a.f_law_d
  g_law : mg "law" = some (.ref a.f_law)
  cl_Store : Cls K a.c_Store
  mg_Store : mg "Store" = some (.ref a.c_Store)
  n_Store__values : NoAttr K a.c_Store "_values"
  n_Store__records : NoAttr K a.c_Store "_records"
  n_Store__ahead : NoAttr K a.c_Store "_ahead"
  enumerate : mg "enumerate" = none
  int : mg "int" = none
  len : mg "len" = none
  all : mg "all" = none
  isinstance : mg "isinstance" = none
  str : mg "str" = none
  tuple : mg "tuple" = none
  range : mg "range" = none
  bool : mg "bool" = none
  list : mg "list" = none
  dict : mg "dict" = none
  g_LETTERS : ∃ t, mg "LETTERS" = some (.str LET t)
  g_DIGITS : ∃ t, mg "DIGITS" = some (.str DIG t)
  g_KEYWORDS : mg "KEYWORDS" = some (.ref a.t_KEYWORDS)
  q_KEYWORDS : ∀ H, SqT K H a.t_KEYWORDS kws
  g_FLUSH : mg "FLUSH" = some (.ref a.t_FLUSH)
  q_FLUSH : ∀ H, SqT K H a.t_FLUSH [.str "flush"]
  g_CLEAR : mg "CLEAR" = some (.ref a.t_CLEAR)
  q_CLEAR : ∀ H, SqT K H a.t_CLEAR [.str "clear"]

/-! ### names -/
def letter (c : Nat) : Bool := decide (c ∈ LET.cps.toList)
def digit (c : Nat) : Bool := decide (c ∈ DIG.cps.toList)
def blank (c : Nat) : Bool := decide (c ∈ (Str.ofString " \n").cps.toList)
def alnum (c : Nat) : Bool := letter c || digit c
def isW (z : Str) : Bool := match tl z with
  | [] => false
  | c :: r => letter c && (c :: r).all alnum
theorem isW_cons {z : Str} {c : Nat} {r : List Nat} (e : tl z = c :: r) (hc : letter c = true) : isW z = ((tl z).map alnum).all id := by
  unfold isW
  rw [e]
  show (letter c && (c :: r).all alnum) = ((c :: r).map alnum).all id
  rw [hc, Bool.true_and, List.all_map]
  rfl
theorem isW_not {z : Str} {c : Nat} {r : List Nat} (e : tl z = c :: r) (hc : letter c = false) : isW z = false := by
  unfold isW
  rw [e]
  show (letter c && (c :: r).all alnum) = false
  rw [hc, Bool.false_and]
theorem isW_nil {z : Str} (e : tl z = []) : isW z = false := by
  unfold isW
  rw [e]
theorem tl_empty : tl (Str.ofString "") = [] := by decide +kernel
theorem at0 {z : Str} {c : Nat} {r : List Nat} (e : tl z = c :: r) : atI z.cps.toList 0 = some c := by
  show atI (tl z) 0 = some c
  rw [e]
  exact atI_nat (j := 0) rfl
def spWord : Sp := fun vs H Q _ => ∃ z, vs = [.str z] ∧ Big z ∧ ∀ H', Same H H' → Q (.bl (isW z)) H'
def isN (z : Str) : Bool := isW z && !inV (.str z) kws
theorem kws_flat : kws.all flatV = true := by decide +kernel
def spIsInt : Sp := fun vs H Q _ => ∃ i : Int, vs = [.int i] ∧ Q (.bl true) H
def spName : Sp := fun vs H Q _ => ∃ z, vs = [.str z] ∧ Big z ∧ ∀ H', Same H H' → Q (.bl (isN z)) H'
section
variable {P : Program} {w : World} {K : PySem.W.Frag} {mg : Str → Option Value} {base : Heap} {a : Ads}
theorem sc_is_integer : FnScope ["value"] ["value"] (defScope s_is_integer) := ⟨rfl, rfl, rfl, by decide +kernel, rfl, by decide +kernel, by decide +kernel⟩
theorem ok_is_integer (T : Txt K mg a) : FnOk P w K mg base CX0 1 a.f_is_integer a.f_is_integer_d ["value"] spIsInt := by
  refine T.F_is_integer.ok sc_is_integer (fun vs H Q E h => ?_) (fun cdv A outer s H vs Q E hr h => ?_)
  · obtain ⟨i, rfl, _⟩ := h
    rfl
  obtain ⟨i, rfl, q⟩ := h
  refine ⟨_, (pss_one (ps_ret (pe_and (pe_callB call_isi (by rfl) T.isinstance (by decide +kernel) (pa_cons (pv 0) (pa_cons (pe_bltn (v := .ty "int") (by rfl) T.int (by decide +kernel) rfl) pa_nil))) (pe_one (pe_not (pe_callB call_isi (by rfl) T.isinstance (by decide +kernel) (pa_cons (pv 0) (pa_cons (pe_bltn (v := .ty "bool") (by rfl) T.bool (by decide +kernel) rfl) pa_nil)))))))), ?_⟩
  refine ⟨_, rfl, .int i, .ty "int", .type "int", .type "int", true, rfl, .ty "int", .base (.int i), kit_ty (by decide +kernel), _, rfl, ite2 (fun _ => ?_) (fun e => absurd rfl e)⟩
  exact ⟨_, rfl, .int i, .ty "bool", .type "int", .type "bool", false, rfl, .ty "bool", .base (.int i), kit_ty (by decide +kernel), _, rfl, q⟩
theorem sc_is_word : FnScope ["text", "sign"] ["text"] (defScope s_is_word) := ⟨rfl, rfl, rfl, by decide +kernel, rfl, by decide +kernel, by decide +kernel⟩
theorem ok_is_word (T : Txt K mg a) : FnOk P w K mg base CX0 1 a.f_is_word a.f_is_word_d ["text"] spWord := by
  refine T.F_is_word.ok sc_is_word (fun vs H Q E h => ?_) (fun cdv A outer s H vs Q E hr h => ?_)
  · obtain ⟨z, rfl, _⟩ := h
    rfl
  obtain ⟨z, rfl, hz, q⟩ := h
  refine ⟨_, (pss_cons (ps_if (PW.pt (pw_or (pt_cmpR op_eq (pv 0) pe_str (nomark _)) (pw_or1 (pt_cmpR op_notIn_sign (pe_ix ix_str (pv 0) pe_int (fun _ _ => rfl)) (pe_gs rfl T.g_LETTERS) (by rfl)))))
      (pss_one (ps_ret pe_bl))
      pss_nil)
    (pss_one (ps_ret (pe_callB (cr_all rfl) (by rfl) T.all (by decide +kernel) (pa_cons (pe_lc (own := [("sign", 1)]) (g := gName 1) (tt := tYes) (by rfl) sc_is_word.nd (pi_str (pv 0)) (blkOk_by (own := [("sign", 1)]) (N := ["text", "sign"]) (sc := defScope s_is_word) (by decide +kernel)) (fun _ _ _ _ _ => pg_name (i := 1) sc_is_word.nd rfl (Or.inl rfl)) (fun _ _ _ _ _ => pts_nil) (fun _ _ _ _ _ => (pe_or (pe_cmpR op_in_sign (pv 1) (pe_gs rfl T.g_LETTERS) (by rfl)) (pe_one (pe_cmpR op_in_sign (pv 1) (pe_gs rfl T.g_DIGITS) (by rfl)))))) pa_nil))))), ?_⟩
  cases hc : tl z with
  | nil =>
    have ez : z = Str.ofString "" := ext_tl (hc.trans tl_empty.symm)
    refine st_seq (st_yes (ans_or1 (ans_eq (fun Q q => ⟨_, rfl, q⟩) (fun Q q => q) rfl (decide_eq_true (congrArg V.str ez)))) ?_)
    have := q H (Same.refl H)
    rw [isW_nil hc] at this
    exact this
  | cons c r =>
    have ez : ¬ z = Str.ofString "" := fun e => by
      rw [e, tl_empty] at hc
      cases hc
    refine st_seq (st_ite (ans_or (ans_eq (fun Q q => ⟨_, rfl, q⟩) (fun Q q => q) rfl (decide_eq_false fun e => ez (V.str.inj e))) (b := !letter c) (fun Q q => ⟨_, rfl, z, 0, c, rfl, rfl, bigLe hz, at0 hc, c, LET, rfl, rfl, _, rfl, q⟩)) (fun e => ?_) (fun e => ?_))
    · have := q H (Same.refl H)
      rw [isW_not hc (by simpa using e)] at this
      exact this
    · have hl : letter c = true := by simpa using e
      refine ⟨_, rfl, z, rfl, fun D hD => lc_signs alnum hz hD (fun c' H' Q' q' => ⟨rfl, _, rfl, c', LET, rfl, rfl, _, rfl, ite2 (fun e => ?_) (fun e => ?_)⟩) (fun H' s2 hD2 => ⟨D, _, rfl, SqL.of hD2, ?_⟩)⟩
      · have : alnum c' = true := by unfold alnum letter; rw [e]; rfl
        rw [this] at q'
        exact q'
      · refine ⟨_, rfl, c', DIG, rfl, rfl, ?_⟩
        have : alnum c' = digit c' := by unfold alnum letter; rw [Bool.eq_false_iff.mpr e, Bool.false_or]
        rw [this] at q'
        exact q'
      · rw [← isW_cons hc hl]
        exact q _ s2
theorem sc_is_name : FnScope ["value"] ["value"] (defScope s_is_name) := ⟨rfl, rfl, rfl, by decide +kernel, rfl, by decide +kernel, by decide +kernel⟩
theorem ok_is_name (T : Txt K mg a) : FnOk P w K mg base CX0 2 a.f_is_name a.f_is_name_d ["value"] spName := by
  refine T.F_is_name.ok sc_is_name (fun vs H Q E h => ?_) (fun cdv A outer s H vs Q E hr h => ?_)
  · obtain ⟨z, rfl, _⟩ := h
    rfl
  obtain ⟨z, rfl, hz, q⟩ := h
  refine ⟨_, (pss_one (ps_ret (pe_and (pe_callB call_isi (by rfl) T.isinstance (by decide +kernel) (pa_cons (pv 0) (pa_cons (pe_bltn (v := .ty "str") (by rfl) T.str (by decide +kernel) rfl) pa_nil))) (pe_and (pe_call (ok_is_word T) (hr.mono (by decide)) (by rfl) T.g_is_word T.F_is_word.kp T.b_is_word .nil pass0 (pa_cons (pv 0) pa_nil)) (pe_one (pe_cmpR op_notIn_seq (pv 0) (pe_gr rfl T.g_KEYWORDS) (by rfl))))))), ?_⟩
  refine ⟨_, rfl, _, _, _, _, true, rfl, .ty "str", .base (.str z), kit_ty (by decide +kernel), true, rfl, iteT ⟨_, rfl, z, rfl, hz, fun H1 s1 => ⟨isW z, rfl, ite2 (fun e => ?_) (fun e => ?_)⟩⟩⟩
  · refine ⟨_, rfl, a.t_KEYWORDS, kws, rfl, .inr (T.q_KEYWORDS H1), rfl, kws_flat, ?_⟩
    have := q H1 s1
    unfold isN at this
    rw [e, Bool.true_and] at this
    exact this
  · have := q H1 s1
    unfold isN at this
    rw [Bool.eq_false_iff.mpr e, Bool.false_and] at this
    exact this
end
end K27
namespace K27
open PySem PySem.Spec PyProof.Rows L2 TL
/-! ### tables of texts and ints, records, events -/
abbrev Tb := List (Str × Int)
def dv (t : Tb) : List (Key × V) := t.map fun p => (Sum.inr p.1, V.int p.2)
def putT (t : Tb) (x : Str) (v : Int) : Tb := if (t.any fun p => decide (p.1 = x)) = true then t.map (fun p => if p.1 = x then (p.1, v) else p) else t ++ [(x, v)]
def keysT (t : Tb) : List Str := t.map (·.1)
theorem dv_len (t : Tb) : (dv t).length = t.length := List.length_map _
theorem dv_any (t : Tb) (x : Str) : ((dv t).any fun kv => decide (kv.1 = Sum.inr x)) = t.any fun p => decide (p.1 = x) := by
  unfold dv
  rw [List.any_map]
  congr 1
  funext p
  by_cases h : p.1 = x
  · simp [h]
  · have h2 : ¬ ((Sum.inr p.1 : Key) = Sum.inr x) := fun z => h (Sum.inr.inj z)
    simp [h]
theorem dv_put (t : Tb) (x : Str) (v : Int) : putK (dv t) (Sum.inr x) (.int v) = dv (putT t x v) := by
  unfold putK putT
  rw [dv_any]
  by_cases h : (t.any fun p => decide (p.1 = x)) = true
  · rw [if_pos h, if_pos h]
    unfold dv
    rw [List.map_map, List.map_map]
    apply List.map_congr_left
    intro p _
    by_cases e : p.1 = x
    · simp [e]
    · have h2 : ¬ ((Sum.inr p.1 : Key) = Sum.inr x) := fun z => e (Sum.inr.inj z)
      simp [e]
  · rw [if_neg h, if_neg h]
    unfold dv
    rw [List.map_append]
    rfl
theorem keysT_put {t : Tb} {x : Str} (v : Int) (h : x ∈ keysT t) : keysT (putT t x v) = keysT t := by
  have h2 : (t.any fun p => decide (p.1 = x)) = true := by
    obtain ⟨p, hp, e⟩ := List.mem_map.mp h
    exact List.any_eq_true.mpr ⟨p, hp, decide_eq_true e⟩
  unfold putT keysT
  rw [if_pos h2, List.map_map]
  apply List.map_congr_left
  intro p _
  show (if p.1 = x then (p.1, v) else p).1 = p.1
  split <;> rfl
theorem keysT_new {t : Tb} {x : Str} (v : Int) (h : x ∉ keysT t) : putT t x v = t ++ [(x, v)] := by
  have h2 : ¬ (t.any fun p => decide (p.1 = x)) = true := fun z => by
    obtain ⟨p, hp, e⟩ := List.any_eq_true.mp z
    exact h (List.mem_map.mpr ⟨p, hp, of_decide_eq_true e⟩)
  unfold putT
  rw [if_neg h2]
theorem putT_nodup {t : Tb} {x : Str} (v : Int) (h : (keysT t).Nodup) : (keysT (putT t x v)).Nodup := by
  by_cases m : x ∈ keysT t
  · rw [keysT_put v m]
    exact h
  · rw [keysT_new v m]
    unfold keysT at h m ⊢
    rw [List.map_append, List.nodup_append]
    refine ⟨h, by simp, fun a ha b hb e => ?_⟩
    obtain rfl : b = x := by simpa using hb
    exact m (e ▸ ha)
theorem putT_mem {t : Tb} {x y : Str} {v : Int} (h : y ∈ keysT (putT t x v)) : y ∈ keysT t ∨ y = x := by
  by_cases m : x ∈ keysT t
  · rw [keysT_put v m] at h
    exact .inl h
  · rw [keysT_new v m] at h
    unfold keysT at h ⊢
    rw [List.map_append] at h
    rcases List.mem_append.mp h with h | h
    · exact .inl h
    · exact .inr (by simpa using h)
theorem putT_has {t : Tb} {x : Str} {v : Int} : x ∈ keysT (putT t x v) := by
  by_cases m : x ∈ keysT t
  · rw [keysT_put v m]
    exact m
  · rw [keysT_new v m]
    unfold keysT
    simp
theorem putT_keep {t : Tb} {x y : Str} {v : Int} (h : y ∈ keysT t) : y ∈ keysT (putT t x v) := by
  by_cases m : x ∈ keysT t
  · rw [keysT_put v m]
    exact h
  · rw [keysT_new v m]
    unfold keysT at h ⊢
    rw [List.map_append]
    exact List.mem_append_left _ h
theorem putT_len (t : Tb) (x : Str) (v : Int) : (putT t x v).length ≤ t.length + 1 := by
  unfold putT
  split
  · rw [List.length_map]; omega
  · rw [List.length_append]; exact Nat.le_refl _
theorem dv_val : ∀ {t : Tb}, (keysT t).Nodup → ∀ p ∈ dv t, valV (dv t) p.1 = some p.2 ∧ flatB p.2 = true
  | [], _, _, h => absurd h (by intro z; cases z)
  | (x, v) :: t, hn, p, h => by
    have hn2 : (x :: keysT t).Nodup := hn
    rw [List.nodup_cons] at hn2
    rcases List.mem_cons.mp (show p ∈ (Sum.inr x, V.int v) :: dv t from h) with e | h
    · subst e
      exact ⟨valV_pos (p := ((Sum.inr x : Key), V.int v)) (r := dv t) rfl, rfl⟩
    · obtain ⟨p', hp', e⟩ := List.mem_map.mp h
      have hne : ¬ ((Sum.inr x : Key) = p.1) := fun z => by
        rw [← e] at z
        exact hn2.1 (Sum.inr.inj z ▸ List.mem_map_of_mem hp')
      obtain ⟨h1, h2⟩ := dv_val hn2.2 p h
      exact ⟨(valV_neg (p := ((Sum.inr x : Key), V.int v)) (r := dv t) hne).trans h1, h2⟩
theorem dv_has {t : Tb} {x : Str} (h : x ∈ keysT t) : (valV (dv t) (Sum.inr x)).isSome = true := by
  rw [← valV_any, dv_any]
  obtain ⟨p, hp, e⟩ := List.mem_map.mp h
  exact List.any_eq_true.mpr ⟨p, hp, decide_eq_true e⟩
theorem dv_get {t : Tb} {i : Nat} {k : Key} {v : V} (h : (dv t)[i]? = some (k, v)) : ∃ x n, t[i]? = some (x, n) ∧ k = Sum.inr x ∧ v = .int n := by
  unfold dv at h
  rw [List.getElem?_map] at h
  obtain ⟨⟨x, n⟩, h1, h2⟩ := Option.map_eq_some_iff.mp h
  cases h2
  exact ⟨x, n, h1, rfl, rfl⟩
abbrev Rc := Str × Int
def rcV (r : Rc) : List V := [.str r.1, .int r.2]
inductive Ev where
  | log (x : Str) (v : Int)
  | write (x : Str) (v : Int)
  | clear
  | flush
def evV : Ev → List V
  | .log x v => [.str "log", .str x, .int v]
  | .write x v => [.str "write", .str x, .int v]
  | .clear => [.str "clear"]
  | .flush => [.str "flush"]
def evOk (ks : List Str) : Ev → Prop
  | .log x _ => x ∈ ks
  | .write x _ => x ∈ ks
  | _ => True
def stepE (s : Tb × List Rc) : Ev → Tb × List Rc
  | .log x v => (s.1, s.2 ++ [(x, v)])
  | .write x v => (putT s.1 x v, s.2)
  | .clear => (s.1, [])
  | .flush => s
def runE (s : Tb × List Rc) (es : List Ev) : Tb × List Rc := es.foldl stepE s
theorem runE_snoc (s : Tb × List Rc) (es : List Ev) (e : Ev) : runE s (es ++ [e]) = stepE (runE s es) e := by
  unfold runE
  rw [List.foldl_append]
  rfl
theorem runE_succ {s : Tb × List Rc} {es : List Ev} {i : Nat} {e : Ev} (h : es[i]? = some e) : runE s (es.take (i + 1)) = stepE (runE s (es.take i)) e := by
  rw [List.take_add_one, h]
  exact runE_snoc _ _ _
def undo (t : Tb) (l : List Rc) : Tb := l.reverse.foldl (fun t r => putT t r.1 r.2) t
/-- the keys are ks, and all records are of them -/
def KeyOk (ks : List Str) (s : Tb × List Rc) : Prop := keysT s.1 = ks ∧ ∀ r ∈ s.2, r.1 ∈ ks
theorem KeyOk.step {ks : List Str} {s : Tb × List Rc} (h : KeyOk ks s) {e : Ev} (he : evOk ks e) : KeyOk ks (stepE s e) := by
  cases e with
  | log x v =>
    refine ⟨h.1, fun r hr => (List.mem_append.mp hr).elim (h.2 r) fun z => ?_⟩
    obtain rfl : r = (x, v) := by simpa using z
    exact he
  | write x v => exact ⟨(keysT_put v (h.1 ▸ he)).trans h.1, h.2⟩
  | clear => exact ⟨h.1, fun r hr => by cases hr⟩
  | flush => exact h
theorem KeyOk.run {ks : List Str} : ∀ {es : List Ev} {s : Tb × List Rc}, KeyOk ks s → (∀ e ∈ es, evOk ks e) → KeyOk ks (runE s es)
  | [], _, h, _ => h
  | e :: es, _, h, he => KeyOk.run (es := es) (h.step (he e (List.mem_cons_self ..))) fun x hx => he x (List.mem_cons_of_mem _ hx)
theorem KeyOk.undo {ks : List Str} : ∀ {l : List Rc} {t : Tb}, keysT t = ks → (∀ r ∈ l, r.1 ∈ ks) → keysT (l.foldl (fun t r => putT t r.1 r.2) t) = ks
  | [], _, h, _ => h
  | r :: l, t, h, hl => KeyOk.undo (l := l) ((keysT_put r.2 (h ▸ hl r (List.mem_cons_self ..))).trans h) fun x hx => hl x (List.mem_cons_of_mem _ hx)
theorem stepE_log (s : Tb × List Rc) (e : Ev) : (stepE s e).2.length ≤ s.2.length + 1 := by
  cases e <;> simp [stepE]
theorem runE_log : ∀ (es : List Ev) (s : Tb × List Rc), (runE s es).2.length ≤ s.2.length + es.length
  | [], _ => Nat.le_refl _
  | e :: es, s => by
    have h1 := stepE_log s e
    have h2 := runE_log es (stepE s e)
    show (runE (stepE s e) es).2.length ≤ _
    rw [List.length_cons]
    omega
theorem stepE_tab (s : Tb × List Rc) (e : Ev) : (stepE s e).1.length ≤ s.1.length + 1 := by
  cases e with
  | write x v => exact putT_len _ _ _
  | _ => exact Nat.le_succ _
theorem runE_tab : ∀ (es : List Ev) (s : Tb × List Rc), (runE s es).1.length ≤ s.1.length + es.length
  | [], _ => Nat.le_refl _
  | e :: es, s => by
    have h1 := stepE_tab s e
    have h2 := runE_tab es (stepE s e)
    show (runE (stepE s e) es).1.length ≤ _
    rw [List.length_cons]
    omega
/-! ### tuples in rows of addresses -/
section
variable {α : Type}
def TupsAt (f : α → List V) (H : Hp) : List Addr → List α → Prop
  | [], [] => True
  | a :: as, r :: rs => H a = some (.tup (f r)) ∧ TupsAt f H as rs
  | _, _ => False
variable {f : α → List V} {H H' : Hp}
theorem TupsAt.same (s : Same H H') : ∀ {as : List Addr} {rs : List α}, TupsAt f H as rs → TupsAt f H' as rs
  | [], [], _ => trivial
  | _ :: _, _ :: _, h => ⟨s _ _ h.1, TupsAt.same s h.2⟩
  | [], _ :: _, h => h.elim
  | _ :: _, [], h => h.elim
theorem TupsAt.imp (k : ∀ b xs, H b = some (.tup xs) → H' b = some (.tup xs)) : ∀ {as : List Addr} {rs : List α}, TupsAt f H as rs → TupsAt f H' as rs
  | [], [], _ => trivial
  | _ :: _, _ :: _, h => ⟨k _ _ h.1, TupsAt.imp k h.2⟩
  | [], _ :: _, h => h.elim
  | _ :: _, [], h => h.elim
theorem TupsAt.app {a : Addr} {r : α} (ha : H a = some (.tup (f r))) : ∀ {as : List Addr} {rs : List α}, TupsAt f H as rs → TupsAt f H (as ++ [a]) (rs ++ [r])
  | [], [], _ => ⟨ha, trivial⟩
  | _ :: _, _ :: _, h => ⟨h.1, TupsAt.app ha h.2⟩
  | [], _ :: _, h => h.elim
  | _ :: _, [], h => h.elim
theorem TupsAt.len : ∀ {as : List Addr} {rs : List α}, TupsAt f H as rs → as.length = rs.length
  | [], [], _ => rfl
  | _ :: _, _ :: _, h => congrArg (· + 1) (TupsAt.len h.2)
  | [], _ :: _, h => h.elim
  | _ :: _, [], h => h.elim
theorem TupsAt.get : ∀ {as : List Addr} {rs : List α} {i : Nat} {a : Addr}, TupsAt f H as rs → as[i]? = some a → ∃ r, rs[i]? = some r ∧ H a = some (.tup (f r))
  | _ :: _, r :: _, 0, a, h, e => ⟨r, rfl, by rw [← Option.some.inj (show some _ = some a from e)]; exact h.1⟩
  | _ :: _, _ :: _, i + 1, _, h, e => TupsAt.get (i := i) h.2 e
  | [], [], _, _, _, e => by cases e
  | [], _ :: _, _, _, h, _ => h.elim
  | _ :: _, [], _, _, h, _ => h.elim
theorem TupsAt.rev {as : List Addr} {rs : List α} (h : TupsAt f H as rs) : TupsAt f H as.reverse rs.reverse := by
  induction as generalizing rs with
  | nil => cases rs with
    | nil => trivial
    | cons => exact h.elim
  | cons a as ih => cases rs with
    | nil => exact h.elim
    | cons r rs =>
      rw [List.reverse_cons, List.reverse_cons]
      exact (ih h.2).app h.1
theorem TupsAt.snoc {a : Addr} {r : α} (as : List Addr) (rs : List α) (h : TupsAt f H (as ++ [a]) (rs ++ [r])) : True := trivial
theorem TupsAt.get2 : ∀ {as : List Addr} {rs : List α} {i : Nat} {r : α}, TupsAt f H as rs → rs[i]? = some r → ∃ a, as[i]? = some a ∧ H a = some (.tup (f r))
  | a :: _, _ :: _, 0, r, h, e => ⟨a, rfl, by rw [← Option.some.inj (show some _ = some r from e)]; exact h.1⟩
  | _ :: _, _ :: _, i + 1, _, h, e => TupsAt.get2 (i := i) h.2 e
  | [], [], _, _, _, e => by cases e
  | [], _ :: _, _, _, h, _ => h.elim
  | _ :: _, [], _, _, h, _ => h.elim
/-- a list of tuples -/
def LstAt (f : α → List V) (H : Hp) (q : Addr) (rs : List α) : Prop := ∃ as, H q = some (.lst (as.map V.ref)) ∧ TupsAt f H as rs
theorem LstAt.same (s : Same H H') {q : Addr} {rs : List α} (h : LstAt f H q rs) : LstAt f H' q rs := by
  obtain ⟨as, e, t⟩ := h
  exact ⟨as, s _ _ e, t.same s⟩
theorem LstAt.imp (k : ∀ b xs, H b = some (.tup xs) → H' b = some (.tup xs)) {q : Addr} (kq : H' q = H q) {rs : List α} (h : LstAt f H q rs) : LstAt f H' q rs := by
  obtain ⟨as, e, t⟩ := h
  exact ⟨as, by rw [kq]; exact e, t.imp k⟩
end
/-- tuples stand when something else is written -/
theorem tup_off {H : Hp} {p : Addr} {u o : HO} (hp : H p = some u) (hu : ∀ xs, u ≠ .tup xs) : ∀ b xs, H b = some (.tup xs) → (upd H p o) b = some (.tup xs) := fun b xs e => by
  rw [upd_ne (ne_of e hp (fun z => hu _ z.symm))]
  exact e
end K27
namespace K27
open PySem PySem.Spec PyProof.Rows L2 TL
/-! ### events: promises -/
theorem same_lock {H H1 : Hp} {d : Addr} {od : Obj} {u : HO} (hd : H d = some u) (s : Same (upd H d (.frz od u)) H1) : Same H (upd H1 d u) := fun b x e => by
  by_cases z : b = d
  · subst z
    rw [upd_same, ← e, hd]
  · rw [upd_ne z]
    exact s b x (by rw [upd_ne z]; exact e)
theorem get_map {α β : Type} {f : α → β} {l : List α} {i : Nat} {y : β} (h : (l.map f)[i]? = some y) : ∃ x, l[i]? = some x ∧ f x = y := by
  rw [List.getElem?_map] at h
  exact Option.map_eq_some_iff.mp h
def GoodT (t : Tb) : Prop := ∀ p ∈ t, isN p.1 = true ∧ Big p.1
def spVals : Sp := fun vs H Q _ => ∃ (d : Addr) (t : Tb), vs = [.ref d] ∧ H d = some (.dK (dv t)) ∧ t.length ≤ 1000 ∧ GoodT t ∧ ∀ H', Same H H' → Q (.bl true) H'
def spEvent : Sp := fun vs H Q _ => ∃ (e d : Addr) (ev : Ev) (t : Tb), vs = [.ref e, .ref d] ∧ H e = some (.tup (evV ev)) ∧ H d = some (.dK (dv t)) ∧ evOk (keysT t) ev ∧ ∀ H', Same H H' → Q (.bl true) H'
def spBehind : Sp := fun vs H Q _ => ∃ (d r q : Addr) (t : Tb) (l : List Rc) (es : List Ev), vs = [.ref d, .ref r, .ref q] ∧ H d = some (.dK (dv t)) ∧ LstAt rcV H r l ∧ LstAt evV H q es ∧ t.length + es.length ≤ 1000 ∧ l.length + es.length ≤ 1000 ∧
  ∀ H' c d' r', Same H H' → H' c = some (.tup [.ref d', .ref r']) → H d' = none → H r' = none → H' d' = some (.dK (dv (runE (t, l) es).1)) → LstAt rcV H' r' (runE (t, l) es).2 → Q (.ref c) H'
def spUndone : Sp := fun vs H Q _ => ∃ (d r : Addr) (t : Tb) (l : List Rc), vs = [.ref d, .ref r] ∧ H d = some (.dK (dv t)) ∧ LstAt rcV H r l ∧ t.length + l.length ≤ 1000 ∧
  ∀ H' d', Same H H' → H d' = none → H' d' = some (.dK (dv (undo t l))) → Q (.ref d') H'
theorem ev_wl : decide (V.str "write" = V.str "log") = false := by decide +kernel
theorem ev_cl : decide (V.str "clear" = V.str "log") = false := by decide +kernel
theorem ev_cw : decide (V.str "clear" = V.str "write") = false := by decide +kernel
theorem ev_fl : decide (V.str "flush" = V.str "log") = false := by decide +kernel
theorem ev_fw : decide (V.str "flush" = V.str "write") = false := by decide +kernel
theorem ev_fc : decide (V.str "flush" = V.str "clear") = false := by decide +kernel
theorem ev_lf : decide (V.str "log" = V.str "flush") = false := by decide +kernel
theorem ev_wf : decide (V.str "write" = V.str "flush") = false := by decide +kernel
theorem ev_cf : decide (V.str "clear" = V.str "flush") = false := by decide +kernel
theorem ev_lc : decide (V.str "log" = V.str "clear") = false := by decide +kernel
theorem ev_wc : decide (V.str "write" = V.str "clear") = false := by decide +kernel
theorem ev_lw : decide (V.str "log" = V.str "write") = false := by decide +kernel
theorem no_b {b : Bool} {p : Prop} (h : b = false) : b = true → p := fun e => by rw [h] at e; cases e
theorem yes_b {b : Bool} {p : Prop} (h : b = true) : ¬ b = true → p := fun e => absurd h e
theorem in_ev (s : Str) (h : s = "clear" ∨ s = "flush") : ([PyData.tuple [.str "flush"], PyData.tuple [.str "clear"]].any fun z => PyData.eqv z (.tuple [.str s])) = true := by
  rcases h with rfl | rfl
  · simp [PyData.eqv, PyData.eqvAll]
  · simp [PyData.eqv, PyData.eqvAll]
section
variable {P : Program} {w : World} {K : PySem.W.Frag} {mg : Str → Option Value} {base : Heap} {a : Ads}
theorem sc_are_values : FnScope ["value", "name", "number"] ["value"] (defScope s_are_values) := ⟨rfl, rfl, rfl, by decide +kernel, rfl, by decide +kernel, by decide +kernel⟩
theorem ok_are_values (T : Txt K mg a) : FnOk P w K mg base CX0 3 a.f_are_values a.f_are_values_d ["value"] spVals := by
  refine T.F_are_values.ok sc_are_values (fun vs H Q E h => ?_) (fun cdv A outer s H vs Q E hr h => ?_)
  · obtain ⟨d, t, rfl, _⟩ := h
    rfl
  obtain ⟨d, t, rfl, hd, hl, hg, q⟩ := h
  refine ⟨_, (pss_cons (ps_if (pt_not (pt_val (pe_callB call_isi (by rfl) T.isinstance (by decide +kernel) (pa_cons (pv 0) (pa_cons (pe_bltn (v := .ty "dict") (by rfl) T.dict (by decide +kernel) rfl) pa_nil)))))
      (pss_one (ps_ret pe_bl))
      pss_nil)
    (pss_one (ps_ret (pe_callB (cr_all rfl) (by rfl) T.all (by decide +kernel) (pa_cons (pe_lock (pe_lc (own := [("name", 1), ("number", 2)]) (g := gTup K 2 (gCons (gName 1) (gCons (gName 2) gNil))) (tt := tYes) (by rfl) sc_are_values.nd (pi_items (pv 0)) (blkOk_by (own := [("name", 1), ("number", 2)]) (N := ["value", "name", "number"]) (sc := defScope s_are_values) (by decide +kernel)) (fun _ _ _ _ _ => pg_tup (by rfl) (pgs_cons (pg_name (i := 1) sc_are_values.nd rfl (Or.inl rfl)) (pgs_cons (pg_name (i := 2) sc_are_values.nd rfl (Or.inl rfl)) pgs_nil))) (fun _ _ _ _ _ => pts_nil) (fun _ _ _ _ _ => (pe_and (pe_call (ok_is_name T) (hr.mono (by decide)) (by rfl) T.g_is_name T.F_is_name.kp T.b_is_name .nil pass0 (pa_cons (pv 1) pa_nil)) (pe_one (pe_call (ok_is_integer T) (hr.mono (by decide)) (by rfl) T.g_is_integer T.F_is_integer.kp T.b_is_integer .nil pass0 (pa_cons (pv 2) pa_nil))))))) pa_nil))))), ?_⟩
  refine ⟨_, rfl, .ref d, .ty "dict", .type "dict", .type "dict", true, rfl, .ty "dict", .base (.dK hd), kit_ty (by decide +kernel), _, rfl, iteF ?_⟩
  refine ⟨d, _, hd, trivial, fun od => ?_⟩
  refine ⟨_, rfl, d, od, _, rfl, upd_same, fun D nD => ?_⟩
  have dD : d ≠ D := ne_of_none upd_same nD
  refine lc_it walk_items (fun i H' => Same (upd H d (.frz od (.dK (dv t)))) H' ∧ H' D = some (.lst ((List.replicate i true).map V.bl))) ⟨same_upd nD, upd_same⟩ (fun i H' _ h => h.1 _ _ upd_same) ?_ ?_
  · rintro i x H1 H2 hi ⟨s1, hD1⟩ ⟨c, k, v, rfl, nc, rfl, hk, hv⟩
    obtain ⟨⟨k', v'⟩, hkv, ek⟩ := Option.map_eq_some_iff.mp hk
    obtain ⟨x, n, hx, rfl, rfl⟩ := dv_get hkv
    obtain rfl : V.str x = k := ek
    have ev : v = .int n := by
      have hv2 : Option.map Prod.snd (dv t)[i]? = some v := hv
      rw [hkv] at hv2
      exact (Option.some.inj hv2).symm
    subst ev
    have hm : (x, n) ∈ t := List.mem_of_getElem? hx
    obtain ⟨g1, g2⟩ := hg _ hm
    rw [dv_len] at hi
    refine ⟨c, _, rfl, SqT.of upd_same, rfl, _, _, rfl, _, _, rfl, rfl, rfl, ?_⟩
    refine ⟨_, rfl, x, rfl, g2, fun H3 s3 => ⟨_, rfl, ite2 (fun _ => ?_) (fun e => absurd g1 e)⟩⟩
    have s4 := (same_upd nc).trans s3
    refine ⟨_, rfl, n, rfl, _, s4 _ _ hD1, ?_, same_mut (s1.trans s4) nD, ?_⟩
    · rw [List.length_map, List.length_replicate]
      exact bigLine (by omega)
    · rw [upd_same, List.replicate_succ', List.map_append]
      rfl
  · rintro H1 ⟨s1, hD1⟩
    refine ⟨s1 _ _ upd_same, D, _, rfl, SqL.of (by rw [upd_ne dD.symm]; exact hD1), ?_⟩
    have e : (List.replicate (dv t).length true).all id = true := by
      rw [List.all_eq_true]
      intro b hb
      rw [List.eq_of_mem_replicate hb]
      rfl
    rw [e]
    exact q _ (same_lock hd s1)
theorem sc_is_event : FnScope ["value", "values"] ["value", "values"] (defScope s_is_event) := ⟨rfl, rfl, rfl, by decide +kernel, rfl, by decide +kernel, by decide +kernel⟩
theorem ok_is_event (T : Txt K mg a) : FnOk P w K mg base CX0 2 a.f_is_event a.f_is_event_d ["value", "values"] spEvent := by
  refine T.F_is_event.ok sc_is_event (fun vs H Q E h => ?_) (fun cdv A outer s H vs Q E hr h => ?_)
  · obtain ⟨e, d, ev, t, rfl, _⟩ := h
    rfl
  obtain ⟨e, d, ev, t, rfl, he, hd, hk, q⟩ := h
  refine ⟨_, (pss_cons (ps_if (PW.pt (pw_or (pt_not (pt_val (pe_callB call_isi (by rfl) T.isinstance (by decide +kernel) (pa_cons (pv 0) (pa_cons (pe_bltn (v := .ty "tuple") (by rfl) T.tuple (by decide +kernel) rfl) pa_nil))))) (pw_or (pt_cmpR op_eq (pe_callB call_len_seq (by rfl) T.len PySem.boot_len (pa_cons (pv 0) pa_nil)) pe_int (nomark _)) (pw_or1 (pt_not (pt_val (pe_callB call_isi (by rfl) T.isinstance (by decide +kernel) (pa_cons (pe_ix ix_tup (pv 0) pe_int (fun _ _ => rfl)) (pa_cons (pe_bltn (v := .ty "str") (by rfl) T.str (by decide +kernel) rfl) pa_nil)))))))))
      (pss_one (ps_ret pe_bl))
      pss_nil)
    (pss_cons (ps_if (pt_cmpR op_notIn_seq (pe_ix ix_tup (pv 0) pe_int (fun _ _ => rfl)) (pe_tup (pa_cons pe_str (pa_cons pe_str pa_nil))) (by rfl))
      (pss_one (ps_ret (pe_cmpR (op_inT (hu65 hr)) (pv 0) (pe_tup (pa_cons (pe_gr rfl T.g_FLUSH) (pa_cons (pe_gr rfl T.g_CLEAR) pa_nil))) (by rfl))))
      pss_nil)
    (pss_one (ps_ret (pe_and (pe_cmpR op_eq (pe_callB call_len_seq (by rfl) T.len PySem.boot_len (pa_cons (pv 0) pa_nil)) pe_int (nomark _)) (pe_and (pe_callB call_isi (by rfl) T.isinstance (by decide +kernel) (pa_cons (pe_ix ix_tup (pv 0) pe_int (fun _ _ => rfl)) (pa_cons (pe_bltn (v := .ty "str") (by rfl) T.str (by decide +kernel) rfl) pa_nil))) (pe_and (pe_cmp (pc_din (hu_of hr) (pe_ix ix_tup (pv 0) pe_int (fun _ _ => rfl)) (pv 1))) (pe_one (pe_call (ok_is_integer T) (hr.mono (by decide)) (by rfl) T.g_is_integer T.F_is_integer.kp T.b_is_integer .nil pass0 (pa_cons (pe_ix ix_tup (pv 0) pe_int (fun _ _ => rfl)) pa_nil)))))))))), ?_⟩
  refine ⟨_, rfl, .ref e, .ty "tuple", .type "tuple", .type "tuple", true, rfl, .ty "tuple", .base (.tup he), kit_ty (by decide +kernel), _, rfl, iteF ?_⟩
  refine ⟨_, rfl, e, _, rfl, .inr (SqT.of he), rfl, _, rfl, ite2 (no_b (by cases ev <;> rfl)) (fun _ => ?_)⟩
  cases ev with
  | log x v =>
    refine ⟨_, rfl, e, _, _, _, rfl, rfl, SqT.of he, atI_nat (j := 0) rfl, .str "log", .ty "str", .type "str", .type "str", true, rfl, .ty "str", .base (.str _), kit_ty (by decide +kernel), _, rfl, iteF ?_⟩
    refine ⟨_, rfl, e, _, _, _, rfl, rfl, SqT.of he, atI_nat (j := 0) rfl, (by show 2 ≤ sizeLine; decide), fun c nc => ⟨c, _, rfl, .inr (SqT.of upd_same), rfl, rfl, _, rfl, ite2 (no_b (by decide +kernel)) (fun _ => ?_)⟩⟩
    have s1 : Same H (upd H c (.tup [.str "log", .str "write"])) := same_upd nc
    refine ⟨_, rfl, e, _, rfl, .inr (SqT.of (s1 _ _ he)), rfl, _, rfl, iteT ?_⟩
    refine ⟨_, rfl, e, _, _, _, rfl, rfl, SqT.of (s1 _ _ he), atI_nat (j := 1) rfl, .str x, .ty "str", .type "str", .type "str", true, rfl, .ty "str", .base (.str _), kit_ty (by decide +kernel), _, rfl, iteT ?_⟩
    refine ⟨_, rfl, e, _, _, _, rfl, rfl, SqT.of (s1 _ _ he), atI_nat (j := 1) rfl, _, rfl, d, _, rfl, DGet.k (k := Sum.inr x) (s1 _ _ hd), _, rfl, ite2 (fun _ => ?_) (yes_b (dv_has hk))⟩
    exact ⟨_, rfl, e, _, _, _, rfl, rfl, SqT.of (s1 _ _ he), atI_nat (j := 2) rfl, v, rfl, q _ s1⟩
  | write x v =>
    refine ⟨_, rfl, e, _, _, _, rfl, rfl, SqT.of he, atI_nat (j := 0) rfl, .str "write", .ty "str", .type "str", .type "str", true, rfl, .ty "str", .base (.str _), kit_ty (by decide +kernel), _, rfl, iteF ?_⟩
    refine ⟨_, rfl, e, _, _, _, rfl, rfl, SqT.of he, atI_nat (j := 0) rfl, (by show 2 ≤ sizeLine; decide), fun c nc => ⟨c, _, rfl, .inr (SqT.of upd_same), rfl, rfl, _, rfl, ite2 (no_b (by decide +kernel)) (fun _ => ?_)⟩⟩
    have s1 : Same H (upd H c (.tup [.str "log", .str "write"])) := same_upd nc
    refine ⟨_, rfl, e, _, rfl, .inr (SqT.of (s1 _ _ he)), rfl, _, rfl, iteT ?_⟩
    refine ⟨_, rfl, e, _, _, _, rfl, rfl, SqT.of (s1 _ _ he), atI_nat (j := 1) rfl, .str x, .ty "str", .type "str", .type "str", true, rfl, .ty "str", .base (.str _), kit_ty (by decide +kernel), _, rfl, iteT ?_⟩
    refine ⟨_, rfl, e, _, _, _, rfl, rfl, SqT.of (s1 _ _ he), atI_nat (j := 1) rfl, _, rfl, d, _, rfl, DGet.k (k := Sum.inr x) (s1 _ _ hd), _, rfl, ite2 (fun _ => ?_) (yes_b (dv_has hk))⟩
    exact ⟨_, rfl, e, _, _, _, rfl, rfl, SqT.of (s1 _ _ he), atI_nat (j := 2) rfl, v, rfl, q _ s1⟩
  | clear =>
    refine ⟨_, rfl, e, _, _, _, rfl, rfl, SqT.of he, atI_nat (j := 0) rfl, .str "clear", .ty "str", .type "str", .type "str", true, rfl, .ty "str", .base (.str _), kit_ty (by decide +kernel), _, rfl, iteF ?_⟩
    refine ⟨_, rfl, e, _, _, _, rfl, rfl, SqT.of he, atI_nat (j := 0) rfl, (by show 2 ≤ sizeLine; decide), fun c nc => ⟨c, _, rfl, .inr (SqT.of upd_same), rfl, rfl, _, rfl, ite2 (fun _ => ?_) (yes_b (by decide +kernel))⟩⟩
    have s1 : Same H (upd H c (.tup [.str "log", .str "write"])) := same_upd nc
    refine ⟨_, rfl, (by show 2 ≤ sizeLine; decide), fun c2 nc2 => ?_⟩
    have s2 := s1.trans (same_upd (o := .tup [.ref a.t_FLUSH, .ref a.t_CLEAR]) nc2)
    refine ⟨.tuple [.str "clear"], [.tuple [.str "flush"], .tuple [.str "clear"]], .tup (SqT.of (s2 _ _ he)) (.cons (.str _) .nil), .tup (SqT.of upd_same) (.cons (.tup (T.q_FLUSH _) (.cons (.str _) .nil)) (.cons (.tup (T.q_CLEAR _) (.cons (.str _) .nil)) .nil)), by decide +kernel, by decide +kernel, ?_⟩
    rw [in_ev _ (.inl rfl)]
    exact q _ s2
  | flush =>
    refine ⟨_, rfl, e, _, _, _, rfl, rfl, SqT.of he, atI_nat (j := 0) rfl, .str "flush", .ty "str", .type "str", .type "str", true, rfl, .ty "str", .base (.str _), kit_ty (by decide +kernel), _, rfl, iteF ?_⟩
    refine ⟨_, rfl, e, _, _, _, rfl, rfl, SqT.of he, atI_nat (j := 0) rfl, (by show 2 ≤ sizeLine; decide), fun c nc => ⟨c, _, rfl, .inr (SqT.of upd_same), rfl, rfl, _, rfl, ite2 (fun _ => ?_) (yes_b (by decide +kernel))⟩⟩
    have s1 : Same H (upd H c (.tup [.str "log", .str "write"])) := same_upd nc
    refine ⟨_, rfl, (by show 2 ≤ sizeLine; decide), fun c2 nc2 => ?_⟩
    have s2 := s1.trans (same_upd (o := .tup [.ref a.t_FLUSH, .ref a.t_CLEAR]) nc2)
    refine ⟨.tuple [.str "flush"], [.tuple [.str "flush"], .tuple [.str "clear"]], .tup (SqT.of (s2 _ _ he)) (.cons (.str _) .nil), .tup (SqT.of upd_same) (.cons (.tup (T.q_FLUSH _) (.cons (.str _) .nil)) (.cons (.tup (T.q_CLEAR _) (.cons (.str _) .nil)) .nil)), by decide +kernel, by decide +kernel, ?_⟩
    rw [in_ev _ (.inr rfl)]
    exact q _ s2
theorem sc_behind : FnScope ["values", "records", "events", "held", "kept", "event"] ["values", "records", "events"] (defScope s_behind) := ⟨rfl, rfl, rfl, by decide +kernel, rfl, by decide +kernel, by decide +kernel⟩
theorem ok_behind (T : Txt K mg a) : FnOk P w K mg base CX0 1 a.f_behind a.f_behind_d ["values", "records", "events"] spBehind := by
  refine T.F_behind.ok sc_behind (fun vs H Q E h => ?_) (fun cdv A outer s H vs Q E hr h => ?_)
  · obtain ⟨d, r, q, t, l, es, rfl, _⟩ := h
    rfl
  obtain ⟨d, r, qa, t, l, es, rfl, hd, ⟨as, hra, hrt⟩, ⟨bs, hqa, hqt⟩, hb1, hb2, q⟩ := h
  refine ⟨_, (pss_cons (ps_set (i := 3) sc_behind.nd rfl (Or.inl rfl) (pe_callTy call_dictD (by rfl) T.dict (by decide +kernel) (pa_cons (pv 0) pa_nil)))
    (pss_cons (ps_set (i := 4) sc_behind.nd rfl (Or.inl rfl) (pe_callTy call_list_of (by rfl) T.list (by decide +kernel) (pa_cons (pv 1) pa_nil)))
    (pss_cons (ps_for PassesOwn.never rfl (pi_list (pv 2)) (pg_name (i := 5) sc_behind.nd rfl (Or.inl rfl))
      (pss_one (ps_if (pt_cmpR op_eq (pe_ix ix_tup (pv 5) pe_int (fun _ _ => rfl)) pe_str (nomark _))
        (pss_one (ps_expr (pe_bm PySem.F.plainAttrs_list PySem.F.slot_list_append PySem.F.type_list_append mt_append (pv 4) (pa_cons (pe_slice sl_tup (pv 5) (po_some pe_int) po_none) pa_nil))))
        (pss_one (ps_if (pt_cmpR op_eq (pe_ix ix_tup (pv 5) pe_int (fun _ _ => rfl)) pe_str (nomark _))
          (pss_one (ps_dput (hu_of hr) (pv 3) (pe_ix ix_tup (pv 5) pe_int (fun _ _ => rfl)) (pe_ix ix_tup (pv 5) pe_int (fun _ _ => rfl)) rfl))
          (pss_one (ps_if (pt_cmpR op_eq (pe_ix ix_tup (pv 5) pe_int (fun _ _ => rfl)) pe_str (nomark _))
            (pss_one (ps_set (i := 4) sc_behind.nd rfl (Or.inl rfl) (pe_lst pa_nil)))
            pss_nil)))))))
    (pss_one (ps_ret (pe_tup (pa_cons (pv 3) (pa_cons (pv 4) pa_nil)))))))), ?_⟩
  refine ⟨_, rfl, d, _, rfl, .inl hd, fun D nD => ?_⟩
  have s1 : Same H (upd H D (.dK (dv t))) := same_upd nD
  refine ⟨_, rfl, r, _, rfl, .inl (SqL.of (s1 _ _ hra)), fun R nR => ?_⟩
  have s2 := s1.trans (same_upd (o := .lst (as.map V.ref)) nR)
  have hbl : bs.length = es.length := hqt.len
  refine ⟨_, rfl, qa, rfl, ⟨_, SqL.of (s2 _ _ hqa)⟩, for_it (walk_list (K := K) (a := qa) (xs := bs.map V.ref)) (fun i σ H' => ∃ (v5 : Option V) (R' : Addr), σ = [some (.ref d), some (.ref r), some (.ref qa), some (.ref D), some (.ref R'), v5] ∧ Same H H' ∧ H R' = none ∧
    H' D = some (.dK (dv (runE (t, l) (es.take i)).1)) ∧ LstAt rcV H' R' (runE (t, l) (es.take i)).2)
    ⟨none, R, rfl, s2, s1.free nR, ?_, as, upd_same, hrt.same s2⟩ (fun i σ H' _ ⟨_, _, _, s, _⟩ => SqL.of (s _ _ hqa)) ?_ ?_⟩
  · rw [upd_ne (ne_of_none upd_same nR)]
    exact upd_same
  · rintro i x σ H1 H2 hi ⟨v5, R', rfl, s3, nR', hD3, cs, hRc, hct⟩ ⟨rfl, hx⟩
    obtain ⟨b, hb, rfl⟩ := get_map hx
    obtain ⟨ev, hev, hbt⟩ := (hqt.same s3).get hb
    have e1 := runE_succ (s := (t, l)) hev
    have hlg := runE_log (es.take i) (t, l)
    have htb := runE_tab (es.take i) (t, l)
    rw [List.length_take] at hlg htb
    have hlg2 : (runE (t, l) (es.take i)).2.length ≤ 1000 := by
      have : (t, l).2.length = l.length := rfl
      omega
    have htb2 : (runE (t, l) (es.take i)).1.length ≤ 1000 := by
      have : (t, l).1.length = t.length := rfl
      omega
    rw [e1]
    generalize runE (t, l) (es.take i) = st at hD3 hct hlg2 htb2 ⊢
    have hcl : cs.length = st.2.length := hct.len
    cases ev with
    | log x v =>
      refine ⟨_, rfl, b, _, _, _, rfl, rfl, SqT.of hbt, atI_nat (j := 0) rfl, rfl, _, rfl, ite2 (fun _ => ?_) (yes_b (decide_eq_true rfl))⟩
      refine ⟨_, rfl, .inl ⟨rfl, _, SqL.of hRc⟩, _, rfl, 1, rfl, b, _, rfl, SqT.of hbt, (fun z => by have z1 : (1 : Nat) = 0 := z.1; cases z1), fun c nc => ?_⟩
      have s4 : Same H2 (upd H2 c (.tup (cutV (evV (.log x v)) (some 1) none))) := same_upd nc
      refine ⟨R', _, _, rfl, rfl, s4 _ _ hRc, ?_, ?_⟩
      · rw [List.length_map]
        exact bigLine (by omega)
      · refine ⟨_, R', rfl, same_mut (s3.trans s4) nR', nR', ?_, cs ++ [c], ?_, ?_⟩
        · rw [upd_ne (ne_of hD3 hRc (by intro z; cases z))]
          exact s4 _ _ hD3
        · rw [upd_same, List.map_append]
          rfl
        · exact ((hct.same s4).imp (tup_off (s4 _ _ hRc) (by intro xs z; cases z))).app (r := (x, v)) (tup_off (s4 _ _ hRc) (by intro xs z; cases z) _ _ upd_same)
    | write x v =>
      refine ⟨_, rfl, b, _, _, _, rfl, rfl, SqT.of hbt, atI_nat (j := 0) rfl, rfl, _, rfl, ite2 (no_b ev_wl) (fun _ => ?_)⟩
      refine ⟨_, rfl, b, _, _, _, rfl, rfl, SqT.of hbt, atI_nat (j := 0) rfl, rfl, _, rfl, ite2 (fun _ => ?_) (yes_b (decide_eq_true rfl))⟩
      refine ⟨_, rfl, b, _, _, _, rfl, rfl, SqT.of hbt, atI_nat (j := 2) rfl, _, rfl, _, rfl, b, _, _, _, rfl, rfl, SqT.of hbt, atI_nat (j := 1) rfl, D, _, rfl, DPut.k (k := Sum.inr x) hD3 ?_, ?_⟩
      · rw [dv_len]
        exact bigLine (by omega)
      · refine ⟨_, R', rfl, same_mut s3 nD, nR', ?_, cs, ?_, ?_⟩
        · rw [upd_same, dv_put]
          rfl
        · rw [upd_ne (ne_of hRc hD3 (by intro z; cases z))]
          exact hRc
        · exact hct.imp (tup_off hD3 (by intro xs z; cases z))
    | clear =>
      refine ⟨_, rfl, b, _, _, _, rfl, rfl, SqT.of hbt, atI_nat (j := 0) rfl, rfl, _, rfl, ite2 (no_b ev_cl) (fun _ => ?_)⟩
      refine ⟨_, rfl, b, _, _, _, rfl, rfl, SqT.of hbt, atI_nat (j := 0) rfl, rfl, _, rfl, ite2 (no_b ev_cw) (fun _ => ?_)⟩
      refine ⟨_, rfl, b, _, _, _, rfl, rfl, SqT.of hbt, atI_nat (j := 0) rfl, rfl, _, rfl, ite2 (fun _ => ?_) (yes_b (decide_eq_true rfl))⟩
      refine ⟨(by show 0 ≤ sizeLine; decide), fun R2 nR2 => ?_⟩
      refine ⟨_, R2, rfl, s3.trans (same_upd nR2), s3.free nR2, ?_, [], upd_same, trivial⟩
      exact same_upd nR2 _ _ hD3
    | flush =>
      refine ⟨_, rfl, b, _, _, _, rfl, rfl, SqT.of hbt, atI_nat (j := 0) rfl, rfl, _, rfl, ite2 (no_b ev_fl) (fun _ => ?_)⟩
      refine ⟨_, rfl, b, _, _, _, rfl, rfl, SqT.of hbt, atI_nat (j := 0) rfl, rfl, _, rfl, ite2 (no_b ev_fw) (fun _ => ?_)⟩
      refine ⟨_, rfl, b, _, _, _, rfl, rfl, SqT.of hbt, atI_nat (j := 0) rfl, rfl, _, rfl, ite2 (no_b ev_fc) (fun _ => ?_)⟩
      exact ⟨_, R', rfl, s3, nR', hD3, cs, hRc, hct⟩
  · rintro σ H1 ⟨v5, R', rfl, s3, nR', hD3, hR3⟩
    rw [List.length_map, hbl, List.take_length] at hD3 hR3
    refine ⟨_, rfl, _, rfl, (by show 2 ≤ sizeLine; decide), fun c nc => ?_⟩
    exact q _ c D R' (s3.trans (same_upd nc)) upd_same nD nR' (same_upd nc _ _ hD3) (hR3.same (same_upd nc))
theorem sc_undone_by_log : FnScope ["values", "records", "held", "name", "number"] ["values", "records"] (defScope s_undone_by_log) := ⟨rfl, rfl, rfl, by decide +kernel, rfl, by decide +kernel, by decide +kernel⟩
theorem ok_undone_by_log (T : Txt K mg a) : FnOk P w K mg base CX0 1 a.f_undone_by_log a.f_undone_by_log_d ["values", "records"] spUndone := by
  refine T.F_undone_by_log.ok sc_undone_by_log (fun vs H Q E h => ?_) (fun cdv A outer s H vs Q E hr h => ?_)
  · obtain ⟨d, r, t, l, rfl, _⟩ := h
    rfl
  obtain ⟨d, r, t, l, rfl, hd, ⟨as, hra, hrt⟩, hb, q⟩ := h
  refine ⟨_, (pss_cons (ps_set (i := 2) sc_undone_by_log.nd rfl (Or.inl rfl) (pe_callTy call_dictD (by rfl) T.dict (by decide +kernel) (pa_cons (pv 0) pa_nil)))
    (pss_cons (ps_for PassesOwn.never rfl (pi_list (pe_revL (pv 1))) (pg_tup (by rfl) (pgs_cons (pg_name (i := 3) sc_undone_by_log.nd rfl (Or.inl rfl)) (pgs_cons (pg_name (i := 4) sc_undone_by_log.nd rfl (Or.inl rfl)) pgs_nil)))
      (pss_one (ps_dput (hu_of hr) (pv 2) (pv 3) (pv 4) rfl)))
    (pss_one (ps_ret (pv 2))))), ?_⟩
  refine ⟨_, rfl, d, _, rfl, .inl hd, fun D nD => ?_⟩
  have s1 : Same H (upd H D (.dK (dv t))) := same_upd nD
  refine ⟨_, rfl, r, _, rfl, SqL.of (s1 _ _ hra), fun R nR => ?_⟩
  have s2 := s1.trans (same_upd (o := .lst (as.map V.ref).reverse) nR)
  have hrv := (hrt.same s2).rev
  have hlen : as.reverse.length = l.reverse.length := hrv.len
  refine ⟨R, rfl, ⟨_, SqL.of upd_same⟩, for_it (walk_list (K := K) (a := R) (xs := (as.map V.ref).reverse)) (fun i σ H' => ∃ (v3 v4 : Option V), σ = [some (.ref d), some (.ref r), some (.ref D), v3, v4] ∧ Same H H' ∧ H' R = some (.lst (as.map V.ref).reverse) ∧
    TupsAt rcV H' as.reverse l.reverse ∧ ∃ t', H' D = some (.dK (dv t')) ∧ t' = (l.reverse.take i).foldl (fun t r => putT t r.1 r.2) t ∧ t'.length ≤ t.length + i)
    ⟨none, none, rfl, s2, upd_same, hrv, t, ?_, rfl, Nat.le_refl _⟩ (fun i σ H' _ ⟨_, _, _, _, h, _⟩ => SqL.of h) ?_ ?_⟩
  · rw [upd_ne (ne_of_none upd_same nR)]
    exact upd_same
  · rintro i x σ H1 H2 hi ⟨v3, v4, rfl, s3, hR3, ht3, t', hD3, et, lt⟩ ⟨rfl, hx⟩
    rw [← List.map_reverse] at hx
    obtain ⟨b, hb, rfl⟩ := get_map hx
    obtain ⟨⟨x, v⟩, hrc, hbt⟩ := ht3.get hb
    rw [List.length_reverse, List.length_map] at hi
    have hal := hrt.len
    refine ⟨b, _, rfl, SqT.of hbt, rfl, _, _, rfl, _, _, rfl, rfl, ?_⟩
    refine ⟨_, rfl, _, rfl, _, rfl, D, _, rfl, DPut.k (k := Sum.inr x) hD3 ?_, ?_⟩
    · rw [dv_len]
      exact bigLine (by omega)
    · refine ⟨_, _, rfl, same_mut s3 nD, ?_, ht3.imp (tup_off hD3 (by intro xs z; cases z)), putT t' x v, ?_, ?_, ?_⟩
      · rw [upd_ne (ne_of hR3 hD3 (by intro z; cases z))]
        exact hR3
      · rw [upd_same, dv_put]
      · rw [List.take_add_one, hrc, List.foldl_append, ← et]
        rfl
      · have := putT_len t' x v
        omega
  · rintro σ H1 ⟨v3, v4, rfl, s3, hR3, ht3, t', hD3, et, lt⟩
    refine ⟨_, rfl, ?_⟩
    have e2 : t' = undo t l := by
      rw [et]
      unfold undo
      rw [List.length_reverse, List.length_map, hrt.len, List.take_of_length_le (by rw [List.length_reverse]; exact Nat.le_refl _)]
    rw [e2] at hD3
    exact q H1 D s3 nD hD3
end
end K27
namespace K27
open PySem PySem.Spec PyProof.Rows L2 TL
/-! ### stores -/
def StAt (a : Ads) (H : Hp) (x d r q : Addr) (t : Tb) (l : List Rc) (es : List Ev) : Prop := ∃ dx, H x = some (.ins a.c_Store dx [("_values", .ref d), ("_records", .ref r), ("_ahead", .ref q)]) ∧ r ≠ q ∧ H d = some (.dK (dv t)) ∧ LstAt rcV H r l ∧ LstAt evV H q es
theorem StAt.same {a : Ads} {H H' : Hp} (s : Same H H') {x d r q : Addr} {t : Tb} {l : List Rc} {es : List Ev} (h : StAt a H x d r q t l es) : StAt a H' x d r q t l es := by
  obtain ⟨dx, h1, h0, h2, h3, h4⟩ := h
  exact ⟨dx, s _ _ h1, h0, s _ _ h2, h3.same s, h4.same s⟩
def Old (H : Hp) (d d' : Addr) : Prop := d' = d ∨ H d' = none
def spInit (a : Ads) : Sp := fun vs H Q _ => ∃ (x dx d0 : Addr) (t : Tb), vs = [.ref x, .ref d0] ∧ H x = some (.ins a.c_Store dx []) ∧ H d0 = some (.dK (dv t)) ∧ t.length ≤ 1000 ∧ GoodT t ∧
  ∀ H' d r q, (∀ b o, H b = some o → b ≠ x → H' b = some o) → H d = none → H r = none → H q = none → StAt a H' x d r q t [] [] → Q .non H'
def spPerform (a : Ads) : Sp := fun vs H Q _ => ∃ (x d r q e : Addr) (t : Tb) (l : List Rc) (es : List Ev) (ev : Ev), vs = [.ref x, .ref e] ∧ StAt a H x d r q t l es ∧ H e = some (.tup (evV ev)) ∧ evOk (keysT t) ev ∧ t.length + es.length ≤ 900 ∧ l.length + es.length ≤ 900 ∧
  ∀ H' d' r' q' t' l' es', (∀ b o, H b = some o → b ≠ x → b ≠ q → H' b = some o) → Old H d d' → Old H r r' → Old H q q' → StAt a H' x d' r' q' t' l' es' → (t', l', es') = (match ev with | .flush => ((runE (t, l) es).1, (runE (t, l) es).2, []) | _ => (t, l, es ++ [ev])) → Q .non H'
def spCurrent (a : Ads) : Sp := fun vs H Q _ => ∃ (x d r q : Addr) (t : Tb) (l : List Rc) (es : List Ev), vs = [.ref x] ∧ StAt a H x d r q t l es ∧ t.length + es.length ≤ 1000 ∧ l.length + es.length ≤ 1000 ∧
  ∀ H' d', Same H H' → H d' = none → H' d' = some (.dK (dv (runE (t, l) es).1)) → Q (.ref d') H'
def spLogS (a : Ads) : Sp := fun vs H Q _ => ∃ (x d r q : Addr) (t : Tb) (l : List Rc) (es : List Ev), vs = [.ref x] ∧ StAt a H x d r q t l es ∧ t.length + es.length ≤ 1000 ∧ l.length + es.length ≤ 1000 ∧
  ∀ H' r', Same H H' → H r' = none → LstAt rcV H' r' (runE (t, l) es).2 → Q (.ref r') H'
def spStoreAt (a : Ads) : Sp := fun vs H Q _ => ∃ (d0 r0 : Addr) (t : Tb) (l : List Rc), vs = [.ref d0, .ref r0] ∧ H d0 = some (.dK (dv t)) ∧ LstAt rcV H r0 l ∧ t.length ≤ 1000 ∧ GoodT t ∧
  ∀ H' x d q, Same H H' → H x = none → H d = none → H q = none → StAt a H' x d r0 q t l [] → Q (.ref x) H'
def spRecov (a : Ads) : Sp := fun vs H Q _ => ∃ (x d r q : Addr) (t : Tb) (l : List Rc) (es : List Ev), vs = [.ref x] ∧ StAt a H x d r q t l es ∧ t.length + es.length ≤ 400 ∧ l.length + es.length ≤ 400 ∧ GoodT (undo (runE (t, l) es).1 (runE (t, l) es).2) ∧
  ∀ H' x' d' r' q', Same H H' → H x' = none → H d' = none → H r' = none → H q' = none → StAt a H' x' d' r' q' (undo (runE (t, l) es).1 (runE (t, l) es).2) [] [] → Q (.ref x') H'
theorem undo_len : ∀ (l : List Rc) (t : Tb), (l.foldl (fun t r => putT t r.1 r.2) t).length ≤ t.length + l.length
  | [], _ => Nat.le_refl _
  | r :: l, t => by
    have h1 := putT_len t r.1 r.2
    have h2 := undo_len l (putT t r.1 r.2)
    show (l.foldl _ (putT t r.1 r.2)).length ≤ _
    rw [List.length_cons]
    omega
section
variable {P : Program} {w : World} {K : PySem.W.Frag} {mg : Str → Option Value} {base : Heap} {a : Ads}
theorem sc_Store___init__ : FnScope ["self", "values"] ["self", "values"] (defScope s_Store___init__) := ⟨rfl, rfl, rfl, by decide +kernel, rfl, by decide +kernel, by decide +kernel⟩
theorem ok_Store___init__ (T : Txt K mg a) : FnOk P w K mg base CX0 4 a.f_Store___init__ a.f_Store___init___d ["self", "values"] (spInit a) := by
  refine T.F_Store___init__.ok sc_Store___init__ (fun vs H Q E h => ?_) (fun cdv A outer s H vs Q E hr h => ?_)
  · obtain ⟨x, dx, d0, t, rfl, _⟩ := h
    rfl
  obtain ⟨x, dx, d0, t, rfl, hx, hd, hl, hg, q⟩ := h
  refine ⟨_, (pss_cons (ps_if (pt_not (pt_val (pe_call (ok_are_values T) (hr.mono (by decide)) (by rfl) T.g_are_values T.F_are_values.kp T.b_are_values .nil pass0 (pa_cons (pv 1) pa_nil))))
      (pss_one ps_never)
      pss_nil)
    (pss_cons (ps_fld (pv 0) (pe_callTy call_dictD (by rfl) T.dict (by decide +kernel) (pa_cons (pv 1) pa_nil)) rfl)
    (pss_cons (ps_fld (pv 0) (pe_lst pa_nil) rfl)
    (pss_one (ps_fld (pv 0) (pe_lst pa_nil) rfl))))), ?_⟩
  refine ⟨_, rfl, d0, t, rfl, hd, hl, hg, fun H1 s1 => ⟨_, rfl, iteF ?_⟩⟩
  refine ⟨_, rfl, d0, _, rfl, .inl (s1 _ _ hd), fun D nD => ?_⟩
  have s2 := s1.trans (same_upd (o := .dK (dv t)) nD)
  have hD2 : (upd H1 D (.dK (dv t))) D = some (.dK (dv t)) := upd_same
  generalize (upd H1 D (.dK (dv t))) = H2 at s2 hD2 ⊢
  refine ⟨_, rfl, x, _, dx, _, rfl, s2 _ _ hx, T.cl_Store, T.n_Store__values, (by decide), ?_⟩
  have k3 : ∀ b o, H b = some o → b ≠ x → (upd H2 x (.ins a.c_Store dx (putF "_values" (.ref D) []))) b = some o := fun b o e n => by rw [upd_ne n]; exact s2 _ _ e
  have hx3 : (upd H2 x (.ins a.c_Store dx (putF "_values" (.ref D) []))) x = some (.ins a.c_Store dx (putF "_values" (.ref D) [])) := upd_same
  have hxD : D ≠ x := ne_of hD2 (s2 _ _ hx) (by intro z; cases z)
  have hD3 : (upd H2 x (.ins a.c_Store dx (putF "_values" (.ref D) []))) D = some (.dK (dv t)) := by rw [upd_ne hxD]; exact hD2
  show tSeq _ _ _ _ (upd H2 x (.ins a.c_Store dx (putF "_values" (.ref D) [])))
  generalize (upd H2 x (.ins a.c_Store dx (putF "_values" (.ref D) []))) = H3 at k3 hx3 hD3 ⊢
  refine ⟨(by show 0 ≤ sizeLine; decide), fun R nR => ?_⟩
  refine ⟨_, rfl, x, _, dx, _, rfl, same_upd nR _ _ hx3, T.cl_Store, T.n_Store__records, (by show 1 < 1000; decide), ?_⟩
  have hRx : R ≠ x := fun z => by rw [z, hx3] at nR; cases nR
  have hRD : D ≠ R := fun z => by rw [← z, hD3] at nR; cases nR
  have nR0 : H R = none := by
    cases z : H R with
    | none => rfl
    | some o => rw [k3 _ _ z hRx] at nR; cases nR
  have k4 : ∀ b o, H b = some o → b ≠ x → (upd (upd H3 R (.lst [])) x (.ins a.c_Store dx (putF "_records" (.ref R) (putF "_values" (.ref D) [])))) b = some o := fun b o e n => by
    rw [upd_ne n, upd_ne (ne_of_none e nR0)]; exact k3 _ _ e n
  have hx4 : (upd (upd H3 R (.lst [])) x (.ins a.c_Store dx (putF "_records" (.ref R) (putF "_values" (.ref D) [])))) x = some (.ins a.c_Store dx (putF "_records" (.ref R) (putF "_values" (.ref D) []))) := upd_same
  have hD4 : (upd (upd H3 R (.lst [])) x (.ins a.c_Store dx (putF "_records" (.ref R) (putF "_values" (.ref D) [])))) D = some (.dK (dv t)) := by rw [upd_ne hxD, upd_ne hRD]; exact hD3
  have hR4 : (upd (upd H3 R (.lst [])) x (.ins a.c_Store dx (putF "_records" (.ref R) (putF "_values" (.ref D) [])))) R = some (.lst []) := by rw [upd_ne hRx]; exact upd_same
  show tSeq _ _ _ _ (upd (upd H3 R (.lst [])) x (.ins a.c_Store dx (putF "_records" (.ref R) (putF "_values" (.ref D) []))))
  generalize (upd (upd H3 R (.lst [])) x (.ins a.c_Store dx (putF "_records" (.ref R) (putF "_values" (.ref D) [])))) = H4 at k4 hx4 hD4 hR4 ⊢
  refine ⟨(by show 0 ≤ sizeLine; decide), fun q1 nq => ?_⟩
  refine ⟨_, rfl, x, _, dx, _, rfl, same_upd nq _ _ hx4, T.cl_Store, T.n_Store__ahead, (by show 2 < 1000; decide), ?_⟩
  have hqx : q1 ≠ x := fun z => by rw [z, hx4] at nq; cases nq
  have hqD : D ≠ q1 := fun z => by rw [← z, hD4] at nq; cases nq
  have hqR : R ≠ q1 := fun z => by rw [← z, hR4] at nq; cases nq
  have nq0 : H q1 = none := by
    cases z : H q1 with
    | none => rfl
    | some o => rw [k4 _ _ z hqx] at nq; cases nq
  refine q _ D R q1 (fun b o e n => by rw [upd_ne n, upd_ne (ne_of_none e nq0)]; exact k4 _ _ e n) (s1.free nD) nR0 nq0 ⟨dx, upd_same, hqR, ?_, ⟨[], ?_, trivial⟩, ⟨[], ?_, trivial⟩⟩
  · rw [upd_ne hxD, upd_ne hqD]; exact hD4
  · rw [upd_ne hRx, upd_ne hqR]; exact hR4
  · rw [upd_ne hqx]; exact upd_same
theorem sc_Store_current : FnScope ["self", "values", "_"] ["self"] (defScope s_Store_current) := ⟨rfl, rfl, rfl, by decide +kernel, rfl, by decide +kernel, by decide +kernel⟩
theorem ok_Store_current (T : Txt K mg a) : FnOk P w K mg base CX0 2 a.f_Store_current a.f_Store_current_d ["self"] (spCurrent a) := by
  refine T.F_Store_current.ok sc_Store_current (fun vs H Q E h => ?_) (fun cdv A outer s H vs Q E hr h => ?_)
  · obtain ⟨x, d, r, q, t, l, es, rfl, _⟩ := h
    rfl
  obtain ⟨x, d, r, qa, t, l, es, rfl, ⟨dx, hx, hrq, hd, hR, hE⟩, hb1, hb2, q⟩ := h
  refine ⟨_, (pss_cons (ps_asg (pe_call (ok_behind T) (hr.mono (by decide)) (by rfl) T.g_behind T.F_behind.kp T.b_behind .nil pass0 (pa_cons (pe_fld (pv 0) rfl) (pa_cons (pe_fld (pv 0) rfl) (pa_cons (pe_fld (pv 0) rfl) pa_nil)))) (pg_tup (by rfl) (pgs_cons (pg_name (i := 1) sc_Store_current.nd rfl (Or.inl rfl)) (pgs_cons (pg_name (i := 2) sc_Store_current.nd rfl (Or.inl rfl)) pgs_nil))))
    (pss_one (ps_ret (pv 1)))), ?_⟩
  refine ⟨_, rfl, x, _, dx, _, _, rfl, hx, T.cl_Store, T.n_Store__values, rfl, _, rfl, x, _, dx, _, _, rfl, hx, T.cl_Store, T.n_Store__records, rfl, _, rfl, x, _, dx, _, _, rfl, hx, T.cl_Store, T.n_Store__ahead, rfl, ?_⟩
  refine ⟨d, r, qa, t, l, es, rfl, hd, hR, hE, hb1, hb2, fun H1 c d' r' s1 hc nd nr hd' hr' => ?_⟩
  refine ⟨c, _, rfl, SqT.of hc, rfl, _, _, rfl, _, _, rfl, rfl, ?_⟩
  exact ⟨_, rfl, q H1 d' s1 nd hd'⟩
theorem sc_Store_log : FnScope ["self", "_", "records"] ["self"] (defScope s_Store_log) := ⟨rfl, rfl, rfl, by decide +kernel, rfl, by decide +kernel, by decide +kernel⟩
theorem ok_Store_log (T : Txt K mg a) : FnOk P w K mg base CX0 2 a.f_Store_log a.f_Store_log_d ["self"] (spLogS a) := by
  refine T.F_Store_log.ok sc_Store_log (fun vs H Q E h => ?_) (fun cdv A outer s H vs Q E hr h => ?_)
  · obtain ⟨x, d, r, q, t, l, es, rfl, _⟩ := h
    rfl
  obtain ⟨x, d, r, qa, t, l, es, rfl, ⟨dx, hx, hrq, hd, hR, hE⟩, hb1, hb2, q⟩ := h
  refine ⟨_, (pss_cons (ps_asg (pe_call (ok_behind T) (hr.mono (by decide)) (by rfl) T.g_behind T.F_behind.kp T.b_behind .nil pass0 (pa_cons (pe_fld (pv 0) rfl) (pa_cons (pe_fld (pv 0) rfl) (pa_cons (pe_fld (pv 0) rfl) pa_nil)))) (pg_tup (by rfl) (pgs_cons (pg_name (i := 1) sc_Store_log.nd rfl (Or.inl rfl)) (pgs_cons (pg_name (i := 2) sc_Store_log.nd rfl (Or.inl rfl)) pgs_nil))))
    (pss_one (ps_ret (pv 2)))), ?_⟩
  refine ⟨_, rfl, x, _, dx, _, _, rfl, hx, T.cl_Store, T.n_Store__values, rfl, _, rfl, x, _, dx, _, _, rfl, hx, T.cl_Store, T.n_Store__records, rfl, _, rfl, x, _, dx, _, _, rfl, hx, T.cl_Store, T.n_Store__ahead, rfl, ?_⟩
  refine ⟨d, r, qa, t, l, es, rfl, hd, hR, hE, hb1, hb2, fun H1 c d' r' s1 hc nd nr hd' hr' => ?_⟩
  refine ⟨c, _, rfl, SqT.of hc, rfl, _, _, rfl, _, _, rfl, rfl, ?_⟩
  exact ⟨_, rfl, q H1 r' s1 nr hr'⟩
theorem sc_Store_perform : FnScope ["self", "event"] ["self", "event"] (defScope s_Store_perform) := ⟨rfl, rfl, rfl, by decide +kernel, rfl, by decide +kernel, by decide +kernel⟩
theorem ok_Store_perform (T : Txt K mg a) : FnOk P w K mg base CX0 3 a.f_Store_perform a.f_Store_perform_d ["self", "event"] (spPerform a) := by
  refine T.F_Store_perform.ok sc_Store_perform (fun vs H Q E h => ?_) (fun cdv A outer s H vs Q E hr h => ?_)
  · obtain ⟨x, d, r, q, e, t, l, es, ev, rfl, _⟩ := h
    rfl
  obtain ⟨x, d, r, qa, e, t, l, es, ev, rfl, ⟨dx, hx, hrq, hd, hR, hE⟩, he, hk, hb1, hb2, q⟩ := h
  refine ⟨_, (pss_cons (ps_if (pt_not (pt_val (pe_call (ok_is_event T) (hr.mono (by decide)) (by rfl) T.g_is_event T.F_is_event.kp T.b_is_event .nil pass0 (pa_cons (pv 1) (pa_cons (pe_fld (pv 0) rfl) pa_nil)))))
      (pss_one ps_never)
      pss_nil)
    (pss_cons (ps_expr (pe_bm PySem.F.plainAttrs_list PySem.F.slot_list_append PySem.F.type_list_append mt_append (pe_fld (pv 0) rfl) (pa_cons (pv 1) pa_nil)))
    (pss_one (ps_if (pt_cmpR op_eq (pe_ix ix_tup (pv 1) pe_int (fun _ _ => rfl)) pe_str (nomark _))
      (pss_cons (ps_asg (pe_call (ok_behind T) (hr.mono (by decide)) (by rfl) T.g_behind T.F_behind.kp T.b_behind .nil pass0 (pa_cons (pe_fld (pv 0) rfl) (pa_cons (pe_fld (pv 0) rfl) (pa_cons (pe_fld (pv 0) rfl) pa_nil)))) (pg_tup (by rfl) (pgs_cons (pg_fld (pv 0)) (pgs_cons (pg_fld (pv 0)) pgs_nil))))
      (pss_one (ps_fld (pv 0) (pe_lst pa_nil) rfl)))
      pss_nil)))), ?_⟩
  refine ⟨_, rfl, _, rfl, x, _, dx, _, _, rfl, hx, T.cl_Store, T.n_Store__values, rfl, e, d, ev, t, rfl, he, hd, hk, fun H1 s1 => ⟨_, rfl, iteF ?_⟩⟩
  obtain ⟨bs, hq, hEt⟩ := hE
  have hx1 := s1 _ _ hx
  have hq1 := s1 _ _ hq
  have hlen := hEt.len
  refine ⟨_, rfl, x, _, dx, _, _, rfl, hx1, T.cl_Store, T.n_Store__ahead, rfl, .inl ⟨rfl, _, SqL.of hq1⟩, _, rfl, qa, _, _, rfl, rfl, hq1, ?_, ?_⟩
  · rw [List.length_map]
    exact bigLine (by omega)
  have k2 : ∀ b o, H b = some o → b ≠ x → b ≠ qa → (upd H1 qa (.lst (bs.map V.ref ++ [.ref e]))) b = some o := fun b o z n m => by rw [upd_ne m]; exact s1 _ _ z
  have hxq : x ≠ qa := ne_of hx hq (by intro z; cases z)
  have hx2 : (upd H1 qa (.lst (bs.map V.ref ++ [.ref e]))) x = some (.ins a.c_Store dx [("_values", .ref d), ("_records", .ref r), ("_ahead", .ref qa)]) := by rw [upd_ne hxq]; exact hx1
  have hd2 : (upd H1 qa (.lst (bs.map V.ref ++ [.ref e]))) d = some (.dK (dv t)) := by rw [upd_ne (ne_of hd hq (by intro z; cases z))]; exact s1 _ _ hd
  have off := tup_off (H := H1) (o := .lst (bs.map V.ref ++ [.ref e])) hq1 (by intro xs z; cases z)
  have hE2 : LstAt evV (upd H1 qa (.lst (bs.map V.ref ++ [.ref e]))) qa (es ++ [ev]) := ⟨bs ++ [e], by rw [upd_same, List.map_append]; rfl, ((hEt.same s1).imp off).app (off _ _ (s1 _ _ he))⟩
  have he2 := off _ _ (s1 _ _ he)
  have hR2 : LstAt rcV (upd H1 qa (.lst (bs.map V.ref ++ [.ref e]))) r l := (hR.same s1).imp off (upd_ne hrq)
  show tSeq _ _ _ _ (upd H1 qa (.lst (bs.map V.ref ++ [.ref e])))
  generalize (upd H1 qa (.lst (bs.map V.ref ++ [.ref e]))) = H2 at k2 hx2 hd2 hE2 he2 hR2 ⊢
  cases ev with
  | log n v =>
    refine ⟨_, rfl, e, _, _, _, rfl, rfl, SqT.of he2, atI_nat (j := 0) rfl, rfl, _, rfl, ite2 (no_b ev_lf) (fun _ => ?_)⟩
    exact q H2 d r qa t l _ k2 (.inl rfl) (.inl rfl) (.inl rfl) ⟨dx, hx2, hrq, hd2, hR2, hE2⟩ rfl
  | write n v =>
    refine ⟨_, rfl, e, _, _, _, rfl, rfl, SqT.of he2, atI_nat (j := 0) rfl, rfl, _, rfl, ite2 (no_b ev_wf) (fun _ => ?_)⟩
    exact q H2 d r qa t l _ k2 (.inl rfl) (.inl rfl) (.inl rfl) ⟨dx, hx2, hrq, hd2, hR2, hE2⟩ rfl
  | clear =>
    refine ⟨_, rfl, e, _, _, _, rfl, rfl, SqT.of he2, atI_nat (j := 0) rfl, rfl, _, rfl, ite2 (no_b ev_cf) (fun _ => ?_)⟩
    exact q H2 d r qa t l _ k2 (.inl rfl) (.inl rfl) (.inl rfl) ⟨dx, hx2, hrq, hd2, hR2, hE2⟩ rfl
  | flush =>
    refine ⟨_, rfl, e, _, _, _, rfl, rfl, SqT.of he2, atI_nat (j := 0) rfl, rfl, _, rfl, ite2 (fun _ => ?_) (yes_b (decide_eq_true rfl))⟩
    refine ⟨_, rfl, x, _, dx, _, _, rfl, hx2, T.cl_Store, T.n_Store__values, rfl, _, rfl, x, _, dx, _, _, rfl, hx2, T.cl_Store, T.n_Store__records, rfl, _, rfl, x, _, dx, _, _, rfl, hx2, T.cl_Store, T.n_Store__ahead, rfl, ?_⟩
    have hl9 : (es ++ [Ev.flush]).length = es.length + 1 := by rw [List.length_append]; rfl
    refine ⟨d, r, qa, t, l, es ++ [.flush], rfl, hd2, hR2, hE2, by omega, by omega, fun H3 c d' r' s3 hc nd nr hd' hr' => ?_⟩
    have fr : ∀ {b : Addr}, H2 b = none → b ≠ x → b ≠ qa → H b = none := fun {b} z n m => by
      cases y : H b with
      | none => rfl
      | some o => rw [k2 _ _ y n m] at z; cases z
    have ndx : d' ≠ x := fun z => by rw [z, hx2] at nd; cases nd
    have nrx : r' ≠ x := fun z => by rw [z, hx2] at nr; cases nr
    obtain ⟨es', hqe, _⟩ := hE2
    have ndq : d' ≠ qa := fun z => by rw [z, hqe] at nd; cases nd
    have nrq : r' ≠ qa := fun z => by rw [z, hqe] at nr; cases nr
    have erun : runE (t, l) (es ++ [.flush]) = runE (t, l) es := runE_snoc _ _ _
    rw [erun] at hd' hr'
    have k3 : ∀ b o, H b = some o → b ≠ x → b ≠ qa → H3 b = some o := fun b o z n m => s3 _ _ (k2 b o z n m)
    have hx3 := s3 _ _ hx2
    refine ⟨c, _, rfl, SqT.of hc, rfl, _, _, rfl, _, rfl, x, _, dx, _, rfl, hx3, T.cl_Store, T.n_Store__values, (by show 3 < 1000; decide), ?_⟩
    refine ⟨_, _, rfl, _, rfl, x, _, dx, _, rfl, upd_same, T.cl_Store, T.n_Store__records, (by show 3 < 1000; decide), rfl, ?_⟩
    have k4 : ∀ b o, H b = some o → b ≠ x → b ≠ qa → (upd (upd H3 x (.ins a.c_Store dx (putF "_values" (.ref d') [("_values", .ref d), ("_records", .ref r), ("_ahead", .ref qa)]))) x (.ins a.c_Store dx (putF "_records" (.ref r') (putF "_values" (.ref d') [("_values", .ref d), ("_records", .ref r), ("_ahead", .ref qa)])))) b = some o := fun b o z n m => by
      rw [upd_ne n, upd_ne n]; exact k3 b o z n m
    have offx := tup_off (H := H3) (o := .ins a.c_Store dx (putF "_values" (.ref d') [("_values", .ref d), ("_records", .ref r), ("_ahead", .ref qa)])) hx3 (by intro xs z; cases z)
    have offy := tup_off (H := upd H3 x (.ins a.c_Store dx (putF "_values" (.ref d') [("_values", .ref d), ("_records", .ref r), ("_ahead", .ref qa)]))) (o := .ins a.c_Store dx (putF "_records" (.ref r') (putF "_values" (.ref d') [("_values", .ref d), ("_records", .ref r), ("_ahead", .ref qa)]))) upd_same (by intro xs z; cases z)
    have hd4 : (upd (upd H3 x (.ins a.c_Store dx (putF "_values" (.ref d') [("_values", .ref d), ("_records", .ref r), ("_ahead", .ref qa)]))) x (.ins a.c_Store dx (putF "_records" (.ref r') (putF "_values" (.ref d') [("_values", .ref d), ("_records", .ref r), ("_ahead", .ref qa)])))) d' = some (.dK (dv (runE (t, l) es).1)) := by rw [upd_ne ndx, upd_ne ndx]; exact hd'
    have hr4 : LstAt rcV (upd (upd H3 x (.ins a.c_Store dx (putF "_values" (.ref d') [("_values", .ref d), ("_records", .ref r), ("_ahead", .ref qa)]))) x (.ins a.c_Store dx (putF "_records" (.ref r') (putF "_values" (.ref d') [("_values", .ref d), ("_records", .ref r), ("_ahead", .ref qa)])))) r' (runE (t, l) es).2 := (hr'.imp offx (upd_ne nrx)).imp offy (upd_ne nrx)
    have hx4 : (upd (upd H3 x (.ins a.c_Store dx (putF "_values" (.ref d') [("_values", .ref d), ("_records", .ref r), ("_ahead", .ref qa)]))) x (.ins a.c_Store dx (putF "_records" (.ref r') (putF "_values" (.ref d') [("_values", .ref d), ("_records", .ref r), ("_ahead", .ref qa)])))) x = some (.ins a.c_Store dx [("_values", .ref d'), ("_records", .ref r'), ("_ahead", .ref qa)]) := upd_same
    show tSeq _ _ _ _ (upd (upd H3 x (.ins a.c_Store dx (putF "_values" (.ref d') [("_values", .ref d), ("_records", .ref r), ("_ahead", .ref qa)]))) x (.ins a.c_Store dx (putF "_records" (.ref r') (putF "_values" (.ref d') [("_values", .ref d), ("_records", .ref r), ("_ahead", .ref qa)]))))
    generalize (upd (upd H3 x (.ins a.c_Store dx (putF "_values" (.ref d') [("_values", .ref d), ("_records", .ref r), ("_ahead", .ref qa)]))) x (.ins a.c_Store dx (putF "_records" (.ref r') (putF "_values" (.ref d') [("_values", .ref d), ("_records", .ref r), ("_ahead", .ref qa)])))) = H4 at k4 hd4 hr4 hx4 ⊢
    refine ⟨(by show 0 ≤ sizeLine; decide), fun q1 nq1 => ?_⟩
    have nqx : q1 ≠ x := fun z => by rw [z, hx4] at nq1; cases nq1
    refine ⟨_, rfl, x, _, dx, _, rfl, same_upd nq1 _ _ hx4, T.cl_Store, T.n_Store__ahead, (by show 3 < 1000; decide), ?_⟩
    have nqr : r' ≠ q1 := fun z => by
      obtain ⟨as', hra, _⟩ := hr4
      rw [← z, hra] at nq1
      cases nq1
    have nq0 : Old H qa q1 := by
      by_cases z : q1 = qa
      · exact .inl z
      · refine .inr ?_
        cases y : H q1 with
        | none => rfl
        | some o => rw [k4 _ _ y nqx z] at nq1; cases nq1
    have hxn : (upd H4 q1 (.lst [])) x = some (.ins a.c_Store dx [("_values", .ref d'), ("_records", .ref r'), ("_ahead", .ref qa)]) := same_upd nq1 _ _ hx4
    refine q _ d' r' q1 (runE (t, l) es).1 (runE (t, l) es).2 [] (fun b o z n m => ?_) (.inr (fr nd ndx ndq)) (.inr (fr nr nrx nrq)) nq0 ⟨dx, upd_same, nqr, ?_, ?_, [], ?_, trivial⟩ rfl
    · rw [upd_ne n]
      exact same_upd nq1 _ _ (k4 b o z n m)
    · rw [upd_ne ndx]
      exact same_upd nq1 _ _ hd4
    · exact (hr4.same (same_upd nq1)).imp (tup_off hxn (by intro xs z; cases z)) (upd_ne nrx)
    · rw [upd_ne nqx]
      exact upd_same
theorem sc_store_at : FnScope ["values", "records", "store"] ["values", "records"] (defScope s_store_at) := ⟨rfl, rfl, rfl, by decide +kernel, rfl, by decide +kernel, by decide +kernel⟩
theorem ok_store_at (T : Txt K mg a) : FnOk P w K mg base CX0 6 a.f_store_at a.f_store_at_d ["values", "records"] (spStoreAt a) := by
  refine T.F_store_at.ok sc_store_at (fun vs H Q E h => ?_) (fun cdv A outer s H vs Q E hr h => ?_)
  · obtain ⟨d0, r0, t, l, rfl, _⟩ := h
    rfl
  obtain ⟨d0, r0, t, l, rfl, hd, hR, hl, hg, q⟩ := h
  refine ⟨_, (pss_cons (ps_set (i := 2) sc_store_at.nd rfl (Or.inl rfl) (pe_make T.mk_Store (ok_Store___init__ T) (hr.mono (by decide)) (by rfl) T.mg_Store T.b_Store___init__ .nil pass0 (pa_cons (pv 0) pa_nil)))
    (pss_cons (ps_fld (pv 2) (pv 1) rfl)
    (pss_one (ps_ret (pv 2))))), ?_⟩
  refine ⟨_, rfl, ?_⟩
  intro x dx nx nd hne
  have s1 : Same H (upd (upd H dx (.own x)) x (.ins a.c_Store dx [])) := (same_upd nd).trans (same_upd (by rw [upd_ne (Ne.symm hne)]; exact nx))
  refine ⟨x, dx, d0, t, rfl, upd_same, s1 _ _ hd, hl, hg, fun H2 d r q1 k2 nd2 nr2 nq2 hS => ⟨rfl, ?_⟩⟩
  obtain ⟨dx2, hx, hrq, hd2, hR2, hE2⟩ := hS
  have k0 : ∀ b o, H b = some o → H2 b = some o := fun b o e => k2 b o (s1 _ _ e) (ne_of_none e nx)
  refine ⟨_, rfl, _, rfl, x, _, dx2, _, rfl, hx, T.cl_Store, T.n_Store__records, (by show 3 < 1000; decide), ?_⟩
  have hr0 : r0 ≠ x := by
    obtain ⟨as, h, _⟩ := hR
    exact ne_of_none h nx
  have hrq1 : r0 ≠ q1 := by
    obtain ⟨as, h, _⟩ := hR
    exact ne_of_none (s1 _ _ h) nq2
  have off := tup_off (H := H2) (o := .ins a.c_Store dx2 (putF "_records" (.ref r0) [("_values", .ref d), ("_records", .ref r), ("_ahead", .ref q1)])) hx (by intro xs z; cases z)
  have hqx : q1 ≠ x := by
    obtain ⟨as, h, _⟩ := hE2
    exact ne_of h hx (by intro z; cases z)
  refine ⟨_, rfl, q _ x d q1 (fun b o e => by rw [upd_ne (ne_of_none e nx)]; exact k0 b o e) nx (s1.free nd2) (s1.free nq2) ⟨dx2, upd_same, hrq1, ?_, ?_, hE2.imp off (upd_ne hqx)⟩⟩
  · rw [upd_ne (ne_of hd2 hx (by intro z; cases z))]
    exact hd2
  · obtain ⟨as, h, ht⟩ := hR
    exact ⟨as, by rw [upd_ne hr0]; exact k0 _ _ h, (ht.same k0).imp off⟩
theorem sc_Store_recovered : FnScope ["self"] ["self"] (defScope s_Store_recovered) := ⟨rfl, rfl, rfl, by decide +kernel, rfl, by decide +kernel, by decide +kernel⟩
theorem ok_Store_recovered (T : Txt K mg a) : FnOk P w K mg base CX0 7 a.f_Store_recovered a.f_Store_recovered_d ["self"] (spRecov a) := by
  refine T.F_Store_recovered.ok sc_Store_recovered (fun vs H Q E h => ?_) (fun cdv A outer s H vs Q E hr h => ?_)
  · obtain ⟨x, d, r, q, t, l, es, rfl, _⟩ := h
    rfl
  obtain ⟨x, d, r, qa, t, l, es, rfl, hS, hb1, hb2, hg, q⟩ := h
  refine ⟨_, (pss_one (ps_ret (pe_call (ok_store_at T) (hr.mono (by decide)) (by rfl) T.g_store_at T.F_store_at.kp T.b_store_at .nil pass0 (pa_cons (pe_call (ok_undone_by_log T) (hr.mono (by decide)) (by rfl) T.g_undone_by_log T.F_undone_by_log.kp T.b_undone_by_log .nil pass0 (pa_cons (pe_meth0 (pv 0) T.cl_Store T.m_Store_current (ok_Store_current T) (hr.mono (by decide)) T.b_Store_current .nil pass0) (pa_cons (pe_meth0 (pv 0) T.cl_Store T.m_Store_log (ok_Store_log T) (hr.mono (by decide)) T.b_Store_log .nil pass0) pa_nil))) (pa_cons (pe_lst pa_nil) pa_nil))))), ?_⟩
  have hlg := runE_log es (t, l)
  have htb := runE_tab es (t, l)
  have e1 : (t, l).2.length = l.length := rfl
  have e2 : (t, l).1.length = t.length := rfl
  have hul := undo_len (runE (t, l) es).2.reverse (runE (t, l) es).1
  rw [List.length_reverse] at hul
  obtain ⟨dx, hx, _⟩ := id hS
  refine ⟨_, rfl, x, dx, _, rfl, hx, rfl, x, d, r, qa, t, l, es, rfl, hS, by omega, by omega, fun H1 d1 s1 nd1 hd1 => ?_⟩
  refine ⟨_, rfl, x, dx, _, rfl, s1 _ _ hx, rfl, x, d, r, qa, t, l, es, rfl, hS.same s1, by omega, by omega, fun H2 r1 s2 nr1 hr1 => ?_⟩
  refine ⟨d1, r1, _, _, rfl, s2 _ _ hd1, hr1, by omega, fun H3 d2 s3 nd2 hd2 => ?_⟩
  refine ⟨(by show 0 ≤ sizeLine; decide), fun r2 nr2 => ?_⟩
  have s123 := (s1.trans s2).trans s3
  refine ⟨d2, r2, _, [], rfl, same_upd nr2 _ _ hd2, ⟨[], upd_same, trivial⟩, ?_, hg, fun H4 x' d' q' s4 nx' nd' nq' hS' => ?_⟩
  · show (undo _ _).length ≤ 1000
    unfold undo
    omega
  · exact q H4 x' d' r2 q' (s123.trans ((same_upd nr2).trans s4)) ((s123.trans (same_upd nr2)).free nx') ((s123.trans (same_upd nr2)).free nd') (s123.free nr2) ((s123.trans (same_upd nr2)).free nq') hS'
end
end K27
namespace K27
open PySem PySem.Spec PyProof.Rows L2 TL
/-! ### choices of events that are not durable -/
def chs (i : Nat) (c : Nat) : List Ev → List Ev
  | [] => []
  | e :: es => if c.testBit i then e :: chs (i + 1) c es else chs (i + 1) c es
theorem chs_snoc (c : Nat) (e : Ev) : ∀ (es : List Ev) (i : Nat), chs i c (es ++ [e]) = chs i c es ++ (if c.testBit (i + es.length) then [e] else [])
  | [], i => by
    show (if c.testBit i then e :: chs (i + 1) c [] else chs (i + 1) c []) = [] ++ (if c.testBit (i + 0) then [e] else [])
    rw [Nat.add_zero]; rfl
  | x :: es, i => by
    have h := chs_snoc c e es (i + 1)
    have z : i + 1 + es.length = i + (x :: es).length := by rw [List.length_cons]; omega
    rw [z] at h
    show (if c.testBit i then x :: chs (i + 1) c (es ++ [e]) else chs (i + 1) c (es ++ [e])) = (if c.testBit i then x :: chs (i + 1) c es else chs (i + 1) c es) ++ _
    rw [h]
    by_cases b : c.testBit i = true
    · rw [if_pos b, if_pos b]; rfl
    · rw [if_neg b, if_neg b]
theorem chs_congr (c c' : Nat) : ∀ (es : List Ev) (i : Nat), (∀ j, i ≤ j → j < i + es.length → c.testBit j = c'.testBit j) → chs i c es = chs i c' es
  | [], _, _ => rfl
  | x :: es, i, h => by
    have h1 := h i (Nat.le_refl _) (by rw [List.length_cons]; omega)
    have h2 := chs_congr c c' es (i + 1) fun j a b => h j (by omega) (by rw [List.length_cons]; omega)
    unfold chs
    rw [h1, h2]
theorem chs_len (c : Nat) : ∀ (es : List Ev) (i : Nat), (chs i c es).length ≤ es.length
  | [], _ => Nat.le_refl _
  | x :: es, i => by
    have h := chs_len c es (i + 1)
    unfold chs
    split
    · rw [List.length_cons, List.length_cons]; omega
    · rw [List.length_cons]; omega
theorem chs_mem (c : Nat) : ∀ (es : List Ev) (i : Nat) (e : Ev), e ∈ chs i c es → e ∈ es
  | [], _, _, h => h
  | x :: es, i, e, h => by
    unfold chs at h
    split at h
    · rcases List.mem_cons.mp h with z | z
      · rw [z]; exact List.mem_cons_self
      · exact List.mem_cons_of_mem _ (chs_mem c es (i + 1) e z)
    · exact List.mem_cons_of_mem _ (chs_mem c es (i + 1) e h)
abbrev Sta := Tb × List Rc
/-- the states behind each choice, as the law lays them -/
def crs (s : Sta) (ps : List Ev) : List Sta := ps.foldl (fun L e => L ++ L.map fun s => stepE s e) [s]
theorem crs_snoc (s : Sta) (ps : List Ev) (e : Ev) : crs s (ps ++ [e]) = crs s ps ++ (crs s ps).map fun s => stepE s e := by
  unfold crs
  rw [List.foldl_append]; rfl
theorem crs_eq (s : Sta) (ps : List Ev) : crs s ps = (List.range (2 ^ ps.length)).map fun c => runE s (chs 0 c ps) := by
  suffices h : ∀ (n : Nat) (ps : List Ev), ps.length = n → crs s ps = (List.range (2 ^ n)).map fun c => runE s (chs 0 c ps) from h _ ps rfl
  intro n
  induction n with
  | zero =>
    intro ps h
    cases ps with
    | nil => rfl
    | cons => cases h
  | succ n ih =>
    intro ps h
    obtain ⟨qs, e, rfl⟩ : ∃ qs e, ps = qs ++ [e] := by
      refine ⟨ps.dropLast, ps.getLast (by intro z; rw [z] at h; cases h), (List.dropLast_concat_getLast (by intro z; rw [z] at h; cases h)).symm⟩
    have hq : qs.length = n := by rw [List.length_append] at h; simpa using h
    rw [crs_snoc, ih qs hq]
    apply List.ext_getElem
    · simp only [List.length_append, List.length_map, List.length_range]
      rw [Nat.pow_succ]; omega
    · intro i h1 h2
      simp only [List.length_append, List.length_map, List.length_range] at h1 h2
      rw [List.getElem_append]
      split
      · rename_i hi
        simp only [List.getElem_map, List.getElem_range]
        have hi : i < 2 ^ n := by simpa using hi
        rw [chs_snoc, hq, Nat.zero_add, if_neg (by rw [Nat.testBit_lt_two_pow hi]; exact Bool.false_ne_true), List.append_nil]
      · rename_i hi
        have hi : 2 ^ n ≤ i := by simpa using hi
        simp only [List.getElem_map, List.getElem_range, List.length_map, List.length_range]
        obtain ⟨j, rfl⟩ : ∃ j, i = 2 ^ n + j := ⟨i - 2 ^ n, by omega⟩
        have hj : j < 2 ^ n := by rw [Nat.pow_succ] at h2; omega
        have e1 : 2 ^ n + j - 2 ^ n = j := by omega
        rw [e1, chs_snoc, hq, Nat.zero_add, if_pos (by rw [Nat.testBit_two_pow_add_eq, Nat.testBit_lt_two_pow hj]; rfl)]
        rw [show chs 0 (2 ^ n + j) qs = chs 0 j qs from chs_congr _ _ qs 0 fun k _ hk => Nat.testBit_two_pow_add_gt (by omega) j]
        exact (runE_snoc _ _ _).symm
theorem bit_of (c j : Nat) : Builtin.bitAnd ((c : Int) / 2 ^ (Int.toNat (j : Int))) 1 = if c.testBit j then 1 else 0 := by
  rw [Int.toNat_natCast]
  have h0 : (0 : Int) ≤ (c : Int) / 2 ^ j := Int.ediv_nonneg (by omega) (by exact Int.pow_nonneg (by decide))
  have h1 := Bits.bitAnd_mask (x := (c : Int) / 2 ^ j) 1 h0
  have e1 : ((2 : Int) ^ 1 - 1) = 1 := by decide
  rw [e1] at h1
  rw [h1, Nat.testBit_eq_decide_div_mod_eq]
  have e2 : (c : Int) / 2 ^ j % 2 ^ 1 = ((c / 2 ^ j % 2 : Nat) : Int) := by norm_cast
  rw [e2]
  have h2 : c / 2 ^ j % 2 < 2 := Nat.mod_lt _ (by decide)
  by_cases q : c / 2 ^ j % 2 = 1
  · rw [q]; rfl
  · have q0 : c / 2 ^ j % 2 = 0 := by omega
    rw [q0]; rfl
/-- how crashes() acts -/
def crJ (a : Ads) (x d r q : Addr) (t : Tb) (l : List Rc) (es : List Ev) : GnW.GIt where
  go := fun i H => i < 2 ^ es.length ∧ StAt a H x d r q t l es
  stop := fun i H => i = 2 ^ es.length ∧ StAt a H x d r q t l es
  yld := fun i H v H' => i < 2 ^ es.length ∧ Same H H' ∧ ∃ x' d' r' q', v = .ref x' ∧ H x' = none ∧ H d' = none ∧ H r' = none ∧ H q' = none ∧ StAt a H' x' d' r' q' (runE (t, l) (chs 0 i es)).1 (runE (t, l) (chs 0 i es)).2 []
  wk := fun _ _ _ => True
  fin := fun i H H' => i = 2 ^ es.length ∧ H' = H
def spCrash (a : Ads) : GnW.SpN := fun vs H cont => ∃ (x d r q : Addr) (t : Tb) (l : List Rc) (es : List Ev) (ks : List Str), vs = [.ref x] ∧ es.length ≤ 20 ∧ t.length ≤ 400 ∧ l.length ≤ 400 ∧ KeyOk ks (t, l) ∧ (∀ e ∈ es, evOk ks e) ∧ (∀ z ∈ ks, isN z = true ∧ Big z) ∧ cont (crJ a x d r q t l es) (2 ^ es.length)
end K27
namespace K27
open PySem PySem.Spec PyProof.Rows L2 TL GnW
theorem goodT_of {ks : List Str} (h : ∀ z ∈ ks, isN z = true ∧ Big z) {t : Tb} (e : keysT t = ks) : GoodT t := fun p hp => h p.1 (by rw [← e]; exact List.mem_map_of_mem hp)
theorem len_keys {t : Tb} {ks : List Str} (e : keysT t = ks) : t.length = ks.length := by rw [← e]; exact (List.length_map _).symm
theorem chs_take (c : Nat) {es : List Ev} {i : Nat} {e : Ev} (h : es[i]? = some e) : chs 0 c (es.take (i + 1)) = chs 0 c (es.take i) ++ (if c.testBit i then [e] else []) := by
  have hl : (es.take i).length = i := by
    rw [List.length_take]
    exact Nat.min_eq_left (Nat.le_of_lt (List.getElem?_eq_some_iff.mp h).1)
  rw [List.take_add_one, h]
  show chs 0 c (es.take i ++ [e]) = _
  rw [chs_snoc, hl, Nat.zero_add]
theorem dint1 {i : Int} : decide (V.int i = V.int 1) = decide (i = 1) := by
  by_cases h : i = 1
  · rw [h]; rfl
  · rw [decide_eq_false h, decide_eq_false (fun z => h (V.int.inj z))]
theorem bit_dec (j n : Nat) : decide (V.int (Builtin.bitAnd ((j : Int) / 2 ^ (Int.toNat (n : Int))) 1) = V.int 1) = j.testBit n := by
  rw [dint1]
  have h := bit_of j n
  cases b : j.testBit n with
  | true =>
    rw [b] at h
    exact decide_eq_true h
  | false =>
    rw [b] at h
    exact decide_eq_false (fun z => by rw [h] at z; revert z; decide)
section
variable {P : Program} {w : World} {K : PySem.W.Frag} {mg : Str → Option Value} {base : Heap} {a : Ads}
theorem sc_Store_crashes : GScope ["self", "choice", "kept", "values", "records", "at", "event"] ["self"] (defScope s_Store_crashes) := ⟨rfl, rfl, rfl, by decide +kernel, rfl, by decide +kernel, by decide +kernel⟩
theorem ok_Store_crashes (T : Txt K mg a) : GnFn P w K mg base 8 a.f_Store_crashes a.f_Store_crashes_d ["self"] (spCrash a) := by
  refine fun_okG T.F_Store_crashes sc_Store_crashes (fun vs H cont h => ?_) (fun cdv A outer s H vs cont hr h => ?_)
  · obtain ⟨x, d, r, q, t, l, es, ks, rfl, _⟩ := h
    rfl
  obtain ⟨x, d, r, qa, t, l, es, ks, rfl, hb, ht, hl, hk, ho, hg, hc⟩ := h
  refine ⟨_, _, hc, fun Aw pn hr => ⟨_, gsts_cons (gst_for2 rfl (pi_range1 (by rfl) T.range (pa_cons (pe_op op_shl pe_int (pe_callB call_len_seq (by rfl) T.len PySem.boot_len (pa_cons (pe_fld (pv 0) rfl) pa_nil))) pa_nil)) (fun _ _ => (pi_range1 (by rfl) T.range (pa_cons (pe_op op_shl pe_int (pe_callB call_len_seq (by rfl) T.len PySem.boot_len (pa_cons (pe_fld (pv 0) rfl) pa_nil))) pa_nil))) (pg_name (i := 1) sc_Store_crashes.nd rfl (Or.inr rfl)) (fun _ _ => (pg_name (i := 1) sc_Store_crashes.nd rfl (Or.inr rfl)))
    (gsts_cons (gst_plain2 (ps_setLc (i := 2) (own := [("at", 5), ("event", 6)]) (g := gTup K 2 (gCons (gName 5) (gCons (gName 6) gNil))) (tt := _) (by rfl) sc_Store_crashes.nd rfl rfl (sw_true rfl rfl rfl (by decide +kernel)) (pi_enum (by rfl) T.enumerate (pa_cons (pe_fld (pv 0) rfl) pa_nil)) (blkOk_by (own := [("at", 5), ("event", 6)]) (N := ["self", "choice", "kept", "values", "records", "at", "event"]) (sc := defScope s_Store_crashes) (by decide +kernel)) (fun _ _ _ _ _ => pg_tup (by rfl) (pgs_cons (pg_name (i := 5) sc_Store_crashes.nd rfl (Or.inl rfl)) (pgs_cons (pg_name (i := 6) sc_Store_crashes.nd rfl (Or.inl rfl)) pgs_nil))) (fun _ _ _ _ _ => (pts_one (pt_cmpR op_eq (pe_op op_and (pe_op op_shr (pv 1) (pv 5)) pe_int) pe_int (nomark _)))) (fun _ _ _ _ _ => (pv 6))) (fun _ _ => (ps_setLc (i := 2) (own := [("at", 5), ("event", 6)]) (g := gTup K 2 (gCons (gName 5) (gCons (gName 6) gNil))) (tt := _) (by rfl) sc_Store_crashes.nd rfl rfl (sw_true rfl rfl rfl (by decide +kernel)) (pi_enum (by rfl) T.enumerate (pa_cons (pe_fld (pv 0) rfl) pa_nil)) (blkOk_by (own := [("at", 5), ("event", 6)]) (N := ["self", "choice", "kept", "values", "records", "at", "event"]) (sc := defScope s_Store_crashes) (by decide +kernel)) (fun _ _ _ _ _ => pg_tup (by rfl) (pgs_cons (pg_name (i := 5) sc_Store_crashes.nd rfl (Or.inl rfl)) (pgs_cons (pg_name (i := 6) sc_Store_crashes.nd rfl (Or.inl rfl)) pgs_nil))) (fun _ _ _ _ _ => (pts_one (pt_cmpR op_eq (pe_op op_and (pe_op op_shr (pv 1) (pv 5)) pe_int) pe_int (nomark _)))) (fun _ _ _ _ _ => (pv 6)))))
    (gsts_cons (gst_plain2 (ps_asg (pe_call (ok_behind T) (hr.mono (by decide)) (by rfl) T.g_behind T.F_behind.kp T.b_behind .nil pass0 (pa_cons (pe_fld (pv 0) rfl) (pa_cons (pe_fld (pv 0) rfl) (pa_cons (pv 2) pa_nil)))) (pg_tup (by rfl) (pgs_cons (pg_name (i := 3) sc_Store_crashes.nd rfl (Or.inl rfl)) (pgs_cons (pg_name (i := 4) sc_Store_crashes.nd rfl (Or.inl rfl)) pgs_nil)))) (fun _ _ => (ps_asg (pe_call (ok_behind T) (hr.mono (by decide)) (by rfl) T.g_behind T.F_behind.kp T.b_behind .nil pass0 (pa_cons (pe_fld (pv 0) rfl) (pa_cons (pe_fld (pv 0) rfl) (pa_cons (pv 2) pa_nil)))) (pg_tup (by rfl) (pgs_cons (pg_name (i := 3) sc_Store_crashes.nd rfl (Or.inl rfl)) (pgs_cons (pg_name (i := 4) sc_Store_crashes.nd rfl (Or.inl rfl)) pgs_nil))))))
    (gsts_cons (gst_yield2 (pe_call (ok_store_at T) (hr.mono (by decide)) (by rfl) T.g_store_at T.F_store_at.kp T.b_store_at .nil pass0 (pa_cons (pv 3) (pa_cons (pv 4) pa_nil))) (fun _ _ => (pe_call (ok_store_at T) (hr.mono (by decide)) (by rfl) T.g_store_at T.F_store_at.kp T.b_store_at .nil pass0 (pa_cons (pv 3) (pa_cons (pv 4) pa_nil))))) gsts_nil)))) gsts_nil, fun Hw hJ => ?_⟩⟩
  have S0 : StAt a Hw x d r qa t l es := hJ.elim (fun z => z.2) fun z => z.2
  obtain ⟨dx, hx, hrq, hd, hR, bs, hE, hEt⟩ := id S0
  have hbl : (bs.map V.ref).length = es.length := by rw [List.length_map, hEt.len]
  have e2 : (1 : Int) * 2 ^ (Int.toNat ((bs.map V.ref).length : Nat)) = ((2 ^ es.length : Nat) : Int) := by rw [hbl, Int.toNat_natCast, Int.one_mul]; norm_cast
  have h20 : 2 ^ es.length ≤ 2 ^ 20 := Nat.pow_le_pow_right (by decide) hb
  refine ⟨_, rfl, x, _, dx, _, _, rfl, hx, T.cl_Store, T.n_Store__ahead, rfl, qa, _, rfl, .inl (SqL.of hE), _, _, rfl, rfl, ⟨by omega, by rw [hbl]; omega, by decide⟩, _, rfl, ?_, ?_, ?_⟩
  · rw [e2]
    have : (0 : Int) ≤ ((2 ^ es.length : Nat) : Int) := Int.natCast_nonneg _
    omega
  · rw [e2]
    have : ((2 ^ es.length : Nat) : Int) ≤ ((2 ^ 20 : Nat) : Int) := Int.ofNat_le.mpr h20
    have z : ((2 ^ 20 : Nat) : Int) < 2 ^ 62 := by decide
    omega
  rw [e2, Int.toNat_natCast]
  refine gfor_it (walk_range (lo := 0) (n := 2 ^ es.length)) (fun j i Hw σ H => j = i ∧ H = Hw ∧ StAt a H x d r qa t l es ∧ ∃ v1 v2 v3 v4 v5 v6, σ = [some (.ref x), v1, v2, v3, v4, v5, v6]) ⟨rfl, rfl, S0, _, _, _, _, _, _, rfl⟩ (fun _ _ _ _ _ _ _ => trivial) ?_ ?_
  · rintro j i Hw y σ H1 H1' hj ⟨rfl, rfl, S, v1, v2, v3, v4, v5, v6, rfl⟩ ⟨rfl, rfl⟩
    obtain ⟨dx, hx, hrq, hd, hR, bs, hE, hEt⟩ := id S
    have hbl : (bs.map V.ref).length = es.length := by rw [List.length_map, hEt.len]
    dsimp only [gName, List.set]
    rw [Int.zero_add]
    -- kept
    refine ⟨_, rfl, x, _, dx, _, _, rfl, hx, T.cl_Store, T.n_Store__ahead, rfl, qa, _, rfl, SqL.of hE, ?_⟩
    intro D nD
    refine lc_it (walk_enum (K := K) (a := qa) (xs := bs.map V.ref)) (fun n H2 => Same H1' H2 ∧ ∃ cs, H2 D = some (.lst (cs.map V.ref)) ∧ TupsAt evV H2 cs (chs 0 j (es.take n))) ⟨same_upd nD, [], upd_same, trivial⟩ (fun n H2 _ z => SqL.of (z.1 _ _ hE)) ?_ ?_
    · rintro n y H2 H2' hn ⟨s2, cs, hD2, hT2⟩ ⟨T1, u, v, rfl, nT, rfl, hu, hv⟩
      cases hu
      have hn' : n < es.length := by omega
      have he : es[n]? = some es[n] := List.getElem?_eq_getElem hn'
      obtain ⟨b, hb1, hb2⟩ := hEt.get2 he
      have ev : v = .ref b := by
        have hv : (bs.map V.ref)[n]? = some v := hv
        rw [List.getElem?_map, hb1] at hv
        exact (Option.some.inj hv).symm
      subst ev
      have s2' : Same H2 (upd H2 T1 (.tup [.int (n : Nat), .ref b])) := same_upd nT
      refine ⟨T1, _, rfl, SqT.of upd_same, rfl, _, _, rfl, _, _, rfl, rfl, ?_⟩
      have hlen : cs.length < sizeLine := by
        rw [hT2.len]
        have z := chs_len j (es.take n) 0
        rw [List.length_take] at z
        exact bigLine (by omega)
      refine ⟨rfl, _, rfl, _, rfl, _, _, rfl, rfl, Int.natCast_nonneg _, _, _, rfl, rfl, rfl, _, rfl, ?_⟩
      have eb := bit_dec j n
      refine ite2 (fun e => ?_) (fun e => ?_)
      · have hbit : j.testBit n = true := eb.symm.trans e
        refine ⟨_, rfl, cs.map V.ref, s2' _ _ hD2, by rw [List.length_map]; exact hlen, same_mut (s2.trans s2') nD, cs ++ [b], by rw [upd_same, List.map_append]; rfl, ?_⟩
        rw [chs_take j he, if_pos hbit]
        exact ((hT2.same s2').app (s2' _ _ (s2 _ _ hb2))).imp (tup_off (s2' _ _ hD2) (by intro xs z; cases z))
      · have hbit : ¬ j.testBit n = true := fun z => e (eb.trans z)
        refine ⟨s2.trans s2', cs, s2' _ _ hD2, ?_⟩
        rw [chs_take j he, if_neg hbit, List.append_nil]
        exact hT2.same s2'
    · rintro H2 ⟨s2, cs, hD2, hT2⟩
      rw [hbl, List.take_length] at hT2
      have hlc := chs_len j es 0
      have hks := len_keys hk.1
      -- behind
      refine ⟨_, rfl, x, _, dx, _, _, rfl, s2 _ _ hx, T.cl_Store, T.n_Store__values, rfl, _, rfl, x, _, dx, _, _, rfl, s2 _ _ hx, T.cl_Store, T.n_Store__records, rfl, _, rfl, ?_⟩
      refine ⟨d, r, D, t, l, chs 0 j es, rfl, s2 _ _ hd, hR.same s2, ⟨cs, hD2, hT2⟩, by omega, by omega, fun H3 c d' r' s3 hc' nd nr hd' hr' => ?_⟩
      refine ⟨c, _, rfl, SqT.of hc', rfl, _, _, rfl, _, _, rfl, rfl, ?_⟩
      -- yield
      have hrun : KeyOk ks (runE (t, l) (chs 0 j es)) := hk.run fun e he => ho e (chs_mem j es 0 e he)
      have htb := runE_tab (chs 0 j es) (t, l)
      refine ⟨hj, _, rfl, _, rfl, d', r', _, _, rfl, hd', hr', by show _ ≤ _; have z : (t, l).1.length = t.length := rfl; omega, goodT_of hg hrun.1, fun H4 x' d4 q4 s4 nx4 nd4 nq4 S4 => ⟨⟨hj, (s2.trans s3).trans s4, x', d4, r', q4, rfl, (s2.trans s3).free nx4, (s2.trans s3).free nd4, s2.free nr, (s2.trans s3).free nq4, S4⟩, fun H5 _ hJ5 => ?_⟩⟩
      have S5 : StAt a H5 x d r qa t l es := hJ5.elim (fun z => z.2) fun z => z.2
      exact ⟨rfl, rfl, S5, _, _, _, _, _, _, rfl⟩
  · rintro i Hw σ H1 ⟨rfl, rfl, S, v1, v2, v3, v4, v5, v6, rfl⟩
    exact ⟨rfl, rfl⟩
end
end K27
namespace K27
open PySem PySem.Spec PyProof.Rows L2 TL
theorem hu66 {A : Around} {k : Nat} (hr : Room k A) : A.units + 66 < cLine := by have := hr.un; omega
def spPending (a : Ads) : Sp := fun vs H Q _ => ∃ (x d r q : Addr) (t : Tb) (l : List Rc) (es : List Ev), vs = [.ref x] ∧ StAt a H x d r q t l es ∧ Q (.int (es.length : Nat)) H
section
variable {P : Program} {w : World} {K : PySem.W.Frag} {mg : Str → Option Value} {base : Heap} {a : Ads}
theorem sc_Store_pending : FnScope ["self"] ["self"] (defScope s_Store_pending) := ⟨rfl, rfl, rfl, by decide +kernel, rfl, by decide +kernel, by decide +kernel⟩
theorem ok_Store_pending (T : Txt K mg a) : FnOk P w K mg base CX0 1 a.f_Store_pending a.f_Store_pending_d ["self"] (spPending a) := by
  refine T.F_Store_pending.ok sc_Store_pending (fun vs H Q E h => ?_) (fun cdv A outer s H vs Q E hr h => ?_)
  · obtain ⟨x, d, r, q, t, l, es, rfl, _⟩ := h
    rfl
  obtain ⟨x, d, r, qa, t, l, es, rfl, ⟨dx, hx, hrq, hd, hR, bs, hE, hEt⟩, q⟩ := h
  refine ⟨_, (pss_one (ps_ret (pe_callB call_len_seq (by rfl) T.len PySem.boot_len (pa_cons (pe_fld (pv 0) rfl) pa_nil)))), ?_⟩
  refine ⟨_, rfl, x, _, dx, _, _, rfl, hx, T.cl_Store, T.n_Store__ahead, rfl, qa, _, rfl, .inl (SqL.of hE), ?_⟩
  rw [List.length_map, hEt.len]
  exact q
end
end K27
namespace K27
open PySem PySem.Spec PyProof.Rows L2 TL
/-! ### what stands after events -/
def stepS (s : Sta × List Ev) (e : Ev) : Sta × List Ev := match e with
  | .flush => (runE s.1 s.2, [])
  | e => (s.1, s.2 ++ [e])
def runS (t : Tb) (es : List Ev) : Sta × List Ev := es.foldl stepS ((t, []), [])
theorem runS_snoc (t : Tb) (es : List Ev) (e : Ev) : runS t (es ++ [e]) = stepS (runS t es) e := by
  unfold runS
  rw [List.foldl_append]; rfl
theorem runS_succ {t : Tb} {es : List Ev} {i : Nat} {e : Ev} (h : es[i]? = some e) : runS t (es.take (i + 1)) = stepS (runS t (es.take i)) e := by
  rw [List.take_add_one, h]
  exact runS_snoc _ _ _
structure SOk (ks : List Str) (n : Nat) (s : Sta × List Ev) : Prop where
  key : KeyOk ks s.1
  ev : ∀ e ∈ s.2, evOk ks e
  len : s.1.2.length + s.2.length ≤ n
theorem SOk.step {ks : List Str} {n : Nat} {s : Sta × List Ev} (h : SOk ks n s) {e : Ev} (he : evOk ks e) : SOk ks (n + 1) (stepS s e) := by
  have z := runE_log s.2 s.1
  have l := h.len
  cases e with
  | flush => exact ⟨h.key.run h.ev, fun e m => (nomatch m), by show (runE s.1 s.2).2.length + 0 ≤ n + 1; omega⟩
  | _ => exact ⟨h.key, fun e m => (List.mem_append.mp m).elim (h.ev e) fun z => by rw [List.mem_singleton.mp z]; exact he, by show s.1.2.length + (s.2 ++ [_]).length ≤ n + 1; rw [List.length_append, List.length_singleton]; omega⟩
theorem sOk {t : Tb} {es : List Ev} (he : ∀ e ∈ es, evOk (keysT t) e) : ∀ i, i ≤ es.length → SOk (keysT t) i (runS t (es.take i))
  | 0, _ => ⟨⟨rfl, fun r z => (nomatch z)⟩, fun e z => (nomatch z), Nat.le_refl _⟩
  | i + 1, h => by
    have hi : es[i]? = some es[i] := List.getElem?_eq_getElem (by omega)
    rw [runS_succ hi]
    exact (sOk he i (by omega)).step (he _ (List.mem_of_getElem? hi))
end K27
namespace K27
open PySem PySem.Spec PyProof.Rows L2 TL
/-- a pool at p, its cells at l, at most n draws so far -/
structure PoolAt (H : Hp) (p l : Addr) (n : Int) : Prop where
  ne : p ≠ l
  ex : ∃ (cs : List Int) (ix cnt seed ph : Int), H p = some (.lst [.ref l, .int ix, .int cnt, .int seed, .int ph, .int 30]) ∧ H l = some (.lst (cs.map V.int)) ∧
    0 ≤ ix ∧ 0 ≤ cnt ∧ cnt ≤ n ∧ 0 ≤ seed ∧ seed < 2147483647 ∧ cs.length ≤ 63
theorem PoolAt.keep {H H' : Hp} {p l : Addr} {n : Int} (P : PoolAt H p l n) (hp : H' p = H p) (hl : H' l = H l) : PoolAt H' p l n := by
  obtain ⟨ne, cs, ix, cnt, seed, ph, h1, h2, r⟩ := P
  exact ⟨ne, cs, ix, cnt, seed, ph, by rw [hp]; exact h1, by rw [hl]; exact h2, r⟩
theorem PoolAt.same {H H' : Hp} {p l : Addr} {n : Int} (P : PoolAt H p l n) (s : Same H H') : PoolAt H' p l n := by
  obtain ⟨ne, cs, ix, cnt, seed, ph, h1, h2, r⟩ := P
  exact ⟨ne, cs, ix, cnt, seed, ph, s _ _ h1, s _ _ h2, r⟩
def spPool (K : PySem.W.Frag) : Sp := fun vs H Q _ => ∃ (a : Addr) (ns : List Int), vs = [.ref a] ∧ SqL K H a (ns.map V.int) ∧ ns.length ≤ 63 ∧
  ∀ H' p l, Same H H' → H p = none → H l = none → PoolAt H' p l 0 → Q (.ref p) H'
def spMixed : Sp := fun vs H Q _ => ∃ (a c m : Int), vs = [.int a, .int c, .int m] ∧ 0 ≤ a ∧ a < 2147483647 ∧ 0 ≤ c ∧ c ≤ 1099511627776 ∧ 0 < m ∧
  ∀ r : Int, 0 ≤ r → r < m → Q (.int r) H
def spDraw : Sp := fun vs H Q _ => ∃ (p l : Addr) (n m : Int), vs = [.ref p, .int m] ∧ PoolAt H p l n ∧ n < 1099511627776 ∧ 0 < m ∧ m.natAbs.log2 < 9000 ∧
  ∀ (r : Int) (H' : Hp), 0 ≤ r → r < m → PoolAt H' p l (n + 1) → (∀ b, b ≠ p → b ≠ l → H' b = H b) → Q (.int r) H'
theorem ixN_at {n j : Nat} (hj : j < n) : ixN n (j : Int) = some j := by
  unfold ixN
  rw [if_pos (by omega), if_pos (by omega)]
  exact congrArg some (by omega)
def numT (i : Int) : Str := Str.ofString (toString i)
theorem numT_len {i : Int} (h0 : 0 ≤ i) (h : i < 1000000000000000000) : (numT i).length ≤ 18 := by
  obtain ⟨n, rfl⟩ : ∃ n : Nat, i = (n : Int) := ⟨i.toNat, by omega⟩
  unfold numT
  rw [len_tl, tl_num]
  exact numL_len (by decide) (by have e : (10 : Nat) ^ 18 = 1000000000000000000 := by decide
                                 rw [e]; omega)
theorem log_ok {i : Int} (h0 : 0 ≤ i) (h : i < 1000000000000000000) : i.natAbs.log2 < 1920 := by
  by_cases hz : i.natAbs = 0
  · rw [hz]
    decide
  · have e : (2 : Nat) ^ 60 = 1152921504606846976 := by decide
    have := (Nat.log2_lt (n := i.natAbs) (k := 60) hz).mpr (by rw [e]; omega)
    omega
theorem PoolAt.mono {H : Hp} {p l : Addr} {n m : Int} (P : PoolAt H p l n) (h : n ≤ m) : PoolAt H p l m := by
  obtain ⟨ne, cs, ix, cnt, seed, ph, h1, h2, a, b, c, d⟩ := P
  exact ⟨ne, cs, ix, cnt, seed, ph, h1, h2, a, b, by omega, d⟩
theorem PoolAt.off {H : Hp} {p l k : Addr} {n : Int} (P : PoolAt H p l n) (h : H k = none) : k ≠ p ∧ k ≠ l := by
  obtain ⟨_, cs, ix, cnt, seed, ph, e1, e2, _⟩ := P
  refine ⟨fun e => ?_, fun e => ?_⟩
  · rw [e, e1] at h
    cases h
  · rw [e, e2] at h
    cases h
/-- all but the pool stands -/
def Keep (p l : Addr) (H H' : Hp) : Prop := ∀ b x, H b = some x → b ≠ p → b ≠ l → H' b = some x
theorem Keep.refl (p l : Addr) (H : Hp) : Keep p l H H := fun _ _ h _ _ => h
theorem Keep.trans {p l : Addr} {H H1 H2 : Hp} (a : Keep p l H H1) (b : Keep p l H1 H2) : Keep p l H H2 := fun c x h n m => b c x (a c x h n m) n m
theorem Keep.of {p l : Addr} {H H1 : Hp} (s : Same H H1) : Keep p l H H1 := fun c x h _ _ => s c x h
theorem Keep.draw {p l : Addr} {H H1 : Hp} (f : ∀ b, b ≠ p → b ≠ l → H1 b = H b) : Keep p l H H1 := fun b x e n m => by
  rw [f b n m]
  exact e
theorem Keep.mut {p l : Addr} {H H1 : Hp} {q : Addr} {u : HO} (s : Keep p l H H1) (h : H q = none) : Keep p l H (upd H1 q u) := fun b x e n m => by
  rw [upd_ne (ne_of_none e h)]
  exact s _ _ e n m
theorem Keep.free {p l : Addr} {H H' : Hp} (e : Keep p l H H') {q : Addr} (h : H' q = none) (n : q ≠ p) (m : q ≠ l) : H q = none := by
  cases r : H q with
  | none => rfl
  | some x =>
    rw [e q x r n m] at h
    cases h
theorem atI_ex {α : Type} {xs : List α} {r : Int} (h0 : 0 ≤ r) (h1 : r < xs.length) : ∃ c, atI xs r = some c ∧ c ∈ xs := by
  obtain ⟨j, rfl⟩ : ∃ j : Nat, r = (j : Int) := ⟨r.toNat, by omega⟩
  have hj : j < xs.length := by omega
  exact ⟨xs[j], atI_nat (List.getElem?_eq_getElem hj), List.getElem_mem hj⟩
theorem log_small {m : Int} (h0 : 0 < m) (h : m < 1152921504606846976) : m.natAbs.log2 < 9000 := by
  have e : (2:Nat) ^ 60 = 1152921504606846976 := by decide
  have : m.natAbs.log2 < 60 := (Nat.log2_lt (by omega)).mpr (by rw [e]; omega)
  omega
def nameL (c : Nat) (s : Int) (k : Nat) : Str := (⟨#[c]⟩ : Str) ++ numT ((7 * ((0 : Int) + (k : Int)) + s) % 16)
def namesL (c : Nat) (s : Int) : List Str := (List.range 16).map (nameL c s)
def spNames : Sp := fun vs H Q _ => ∃ (p l : Addr) (n : Int), vs = [.ref p] ∧ PoolAt H p l n ∧ n < 1099511627000 ∧
  ∀ (H' : Hp) (q : Addr) (c : Nat) (s : Int), PoolAt H' p l (n + 2) → Keep p l H H' → q ≠ p → q ≠ l → H q = none → c ∈ tl LET → 0 ≤ s → s < 16 → H' q = some (.lst ((namesL c s).map V.str)) → Q (.ref q) H'
section
variable {P : Program} {w : World} {K : PySem.W.Frag} {mg : Str → Option Value} {base : Heap} {a : Ads}
theorem sc__law_mixed : FnScope ["_law_number", "_law_count", "_law_many"] ["_law_number", "_law_count", "_law_many"] (defScope s__law_mixed) := ⟨rfl, rfl, rfl, by decide +kernel, rfl, by decide +kernel, by decide +kernel⟩
theorem ok__law_mixed (T : Txt K mg a) : FnOk P w K mg base CX0 1 a.f__law_mixed a.f__law_mixed_d ["_law_number", "_law_count", "_law_many"] spMixed := by
  refine T.F__law_mixed.ok sc__law_mixed (fun vs H Q E h => ?_) (fun cdv A outer s H vs Q E hr h => ?_)
  · obtain ⟨x, c, m, rfl, _⟩ := h
    rfl
  obtain ⟨x, c, m, rfl, ha0, ha1, hc0, hc1, hm, q⟩ := h
  refine ⟨_, (pss_one (ps_ret (pe_op op_mod (pe_op op_fdiv (pe_callTy call_int1 (by rfl) T.int (by decide +kernel) (pa_cons (pe_op op_mod (pe_op op_pow (pe_callTy call_int1 (by rfl) T.int (by decide +kernel) (pa_cons (pe_op op_add (pv 0) (pe_op op_mul pe_int (pv 1))) pa_nil)) pe_int) pe_int) pa_nil)) pe_int) (pv 2)))), ?_⟩
  refine ⟨_, rfl, _, rfl, _, _, rfl, rfl, .inl ⟨by decide, by decide⟩, _, _, rfl, rfl, .inl ⟨_, rfl, ?_⟩⟩
  refine ⟨_, _, rfl, rfl, ⟨by decide, by decide, by omega⟩, _, _, rfl, rfl, (by show (0 : Int) < 2147483647; decide), .inl ⟨_, rfl, ?_⟩⟩
  refine ⟨_, _, rfl, rfl, ⟨by decide, by decide⟩, _, rfl, _, _, rfl, rfl, hm, ?_⟩
  exact q _ (Int.emod_nonneg _ (by omega)) (Int.emod_lt_of_pos _ hm)
theorem sc__law_pool : FnScope ["_law_script", "_law_cells", "_law_seed", "_law_cell"] ["_law_script"] (defScope s__law_pool) := ⟨rfl, rfl, rfl, by decide +kernel, rfl, by decide +kernel, by decide +kernel⟩
theorem ok__law_pool (T : Txt K mg a) : FnOk P w K mg base CX0 1 a.f__law_pool a.f__law_pool_d ["_law_script"] (spPool K) := by
  refine T.F__law_pool.ok sc__law_pool (fun vs H Q E h => ?_) (fun cdv A outer s H vs Q E hr h => ?_)
  · obtain ⟨a, ns, rfl, _⟩ := h
    rfl
  obtain ⟨a, ns, rfl, hS, hlen, q⟩ := h
  refine ⟨_, (pss_cons (ps_setLc (i := 1) (own := [("_law_cell", 3)]) (g := gName 3) (tt := tYes) (by rfl) sc__law_pool.nd rfl rfl (sw_true rfl rfl rfl (by decide +kernel)) (pi_list (pe_slice sl_list (pv 0) po_none (po_some pe_int))) (blkOk_by (own := [("_law_cell", 3)]) (N := ["_law_script", "_law_cells", "_law_seed", "_law_cell"]) (sc := defScope s__law_pool) (by decide +kernel)) (fun _ _ _ _ _ => pg_name (i := 3) sc__law_pool.nd rfl (Or.inl rfl)) (fun _ _ _ _ _ => pts_nil) (fun _ _ _ _ _ => (pe_callTy call_int1 (by rfl) T.int (by decide +kernel) (pa_cons (pv 3) pa_nil))))
    (pss_cons (ps_set (i := 2) sc__law_pool.nd rfl (Or.inl rfl) pe_int)
    (pss_cons (ps_for PassesOwn.never rfl (pi_list (pv 1)) (pg_name (i := 3) sc__law_pool.nd rfl (Or.inl rfl))
      (pss_one (ps_set (i := 2) sc__law_pool.nd rfl (Or.inl rfl) (pe_op op_mod (pe_callTy call_int1 (by rfl) T.int (by decide +kernel) (pa_cons (pe_op op_add (pe_op op_mul (pv 2) pe_int) (pv 3)) pa_nil)) pe_int))))
    (pss_one (ps_ret (pe_lst (pa_cons (pv 1) (pa_cons pe_int (pa_cons pe_int (pa_cons (pv 2) (pa_cons pe_int (pa_cons pe_int pa_nil)))))))))))), ?_⟩
  have ecut : cutV (ns.map V.int) none (some 63) = ns.map V.int := by
    unfold cutV
    rw [show HT.sIx (ns.map V.int).length (ns.map V.int).length (some 63) = min 63 (ns.map V.int).length from HT.sIx_nat _ _ 63, HT.sIx_none, List.length_map]
    show (ns.map V.int).take (min 63 ns.length - 0) = ns.map V.int
    exact List.take_of_length_le (by rw [List.length_map]; omega)
  refine ⟨_, rfl, 63, rfl, a, _, rfl, hS, fun c hc => ?_⟩
  have s1 : Same H (upd H c (.lst (cutV (ns.map V.int) none (some 63)))) := same_upd hc
  refine ⟨c, rfl, ⟨_, SqL.of upd_same⟩, fun D hD => ?_⟩
  have hcD : c ≠ D := ne_of_none upd_same hD
  refine lc_list (K := K) (a := c) (xs := ns.map V.int) (fun i H' => Same H H' ∧ H' c = some (.lst (ns.map V.int)) ∧ H' D = some (.lst ((ns.take i).map V.int))) ⟨s1.trans (same_upd hD), ?_, upd_same⟩ (fun i H' _ hh => SqL.of hh.2.1) ?_ ?_
  · rw [upd_ne hcD, upd_same, ecut]
  · rintro i x H' hi ⟨s2, hc2, hD2⟩
    obtain ⟨z, hz, rfl⟩ : ∃ z, ns[i]? = some z ∧ x = V.int z := by
      rw [List.getElem?_map] at hi
      cases e : ns[i]? with
      | none => rw [e] at hi; cases hi
      | some z => rw [e] at hi; exact ⟨z, rfl, (Option.some.inj hi).symm⟩
    have hil : i < ns.length := (List.getElem?_eq_some_iff.mp hz).1
    refine ⟨rfl, _, rfl, .inl ⟨_, rfl, _, hD2, ?_, ?_, ?_, ?_⟩⟩
    · rw [List.length_map, List.length_take]
      exact Nat.lt_of_le_of_lt (Nat.min_le_left _ _) (small1000 (by omega))
    · intro b o e
      rw [upd_ne (ne_of_none e (s1.free hD))]
      exact s2 _ _ e
    · rw [upd_ne hcD]; exact hc2
    · rw [upd_same, List.take_add_one, hz, List.map_append]; rfl
  · rintro H1 ⟨s2, hc2, hD2⟩
    rw [List.length_map, List.take_length] at hD2
    refine ⟨_, rfl, D, rfl, ⟨_, SqL.of hD2⟩, for_list (K := K) (a := D) (xs := ns.map V.int) (fun i σ H' => ∃ (v : Option V) (sd : Int), σ = [some (.ref a), some (.ref D), some (.int sd), v] ∧ H' = H1 ∧ 0 ≤ sd ∧ sd < 2147483647)
      ⟨none, 11, rfl, rfl, by decide, by decide⟩ (fun i σ H' _ ⟨_, _, _, e, _⟩ => by rw [e]; exact SqL.of hD2) ?_ ?_⟩
    · rintro i x σ H' hi ⟨v, sd, rfl, rfl, h0, h1⟩
      obtain ⟨z, hz, rfl⟩ : ∃ z, ns[i]? = some z ∧ x = V.int z := by
        rw [List.getElem?_map] at hi
        cases e : ns[i]? with
        | none => rw [e] at hi; cases hi
        | some z => rw [e] at hi; exact ⟨z, rfl, (Option.some.inj hi).symm⟩
      refine ⟨_, rfl, _, _, rfl, rfl, .inl ⟨by omega, by omega⟩, _, rfl, _, _, rfl, rfl, .inl ⟨_, rfl, _, _, rfl, rfl, (by show (0 : Int) < 2147483647; decide), ?_⟩⟩
      exact ⟨_, _, rfl, rfl, Int.emod_nonneg _ (by decide), Int.emod_lt_of_pos _ (by decide)⟩
    · rintro σ H' ⟨v, sd, rfl, rfl, h0, h1⟩
      refine ⟨_, rfl, _, rfl, (by show 6 ≤ sizeLine; decide), fun p hp => ?_⟩
      have hpD : D ≠ p := ne_of_none hD2 hp
      refine q _ p D (s2.trans (same_upd hp)) (s2.free hp) (s1.free hD) ⟨fun e => hpD e.symm, ns, 0, 0, sd, 0, upd_same, by rw [upd_ne hpD]; exact hD2, by decide, by decide, by decide, h0, h1, hlen⟩
theorem sc__law_draw : FnScope ["_law_pool_here", "_law_many", "_law_at", "_law_cells", "_law_cell"] ["_law_pool_here", "_law_many"] (defScope s__law_draw) := ⟨rfl, rfl, rfl, by decide +kernel, rfl, by decide +kernel, by decide +kernel⟩
theorem ok__law_draw (T : Txt K mg a) : FnOk P w K mg base CX0 2 a.f__law_draw a.f__law_draw_d ["_law_pool_here", "_law_many"] spDraw := by
  refine T.F__law_draw.ok sc__law_draw (fun vs H Q E h => ?_) (fun cdv A outer s H vs Q E hr h => ?_)
  · obtain ⟨p, l, n, m, rfl, _⟩ := h
    rfl
  obtain ⟨p, l, n, m, rfl, ⟨ne, cs, ix, cnt, seed, ph, h1, h2, hix, hc0, hcn, hs0, hs1, hlen⟩, hn, hm, hml, q⟩ := h
  refine ⟨_, (pss_cons (ps_asg (pe_op op_add (pe_ix ix_list (pv 0) pe_int (fun _ _ => rfl)) pe_int) (pg_sub (pv 0) pe_int set_list))
    (pss_cons (ps_if (pt_cmpR op_ge (pe_ix ix_list (pv 0) pe_int (fun _ _ => rfl)) (pe_callB call_len_seq (by rfl) T.len PySem.boot_len (pa_cons (pe_ix ix_list (pv 0) pe_int (fun _ _ => rfl)) pa_nil)) (nomark _))
      (pss_one (ps_ret (pe_call (ok__law_mixed T) (hr.mono (by decide)) (by rfl) T.g__law_mixed T.F__law_mixed.kp T.b__law_mixed .nil pass0 (pa_cons (pe_ix ix_list (pv 0) pe_int (fun _ _ => rfl)) (pa_cons (pe_ix ix_list (pv 0) pe_int (fun _ _ => rfl)) (pa_cons (pv 1) pa_nil))))))
      pss_nil)
    (pss_cons (ps_set (i := 2) sc__law_draw.nd rfl (Or.inl rfl) (pe_ix ix_list (pv 0) pe_int (fun _ _ => rfl)))
    (pss_cons (ps_set (i := 3) sc__law_draw.nd rfl (Or.inl rfl) (pe_ix ix_list (pv 0) pe_int (fun _ _ => rfl)))
    (pss_cons (ps_set (i := 4) sc__law_draw.nd rfl (Or.inl rfl) (pe_ix ix_list (pv 3) (pv 2) (fun _ _ => rfl)))
    (pss_cons (ps_if (PW.pt (pw_and (pt_cmpR op_ne (pe_ix ix_list (pv 0) pe_int (fun _ _ => rfl)) pe_int (nomark _)) (pw_and1 (pt_cmpR op_lt (pv 4) (pe_op op_pow pe_int pe_int) (nomark _)))))
      (pss_cons (ps_asg (pe_op op_add (pe_ix ix_list (pv 0) pe_int (fun _ _ => rfl)) pe_int) (pg_sub (pv 0) pe_int set_list))
      (pss_cons (ps_if (pt_cmpR op_eq (pe_ix ix_list (pv 0) pe_int (fun _ _ => rfl)) pe_int (nomark _))
        (pss_cons (ps_asg (pe_op op_add (pv 2) pe_int) (pg_sub (pv 0) pe_int set_list))
        (pss_one (ps_asg pe_int (pg_sub (pv 0) pe_int set_list))))
        pss_nil)
      (pss_one (ps_ret (pe_call (ok__law_mixed T) (hr.mono (by decide)) (by rfl) T.g__law_mixed T.F__law_mixed.kp T.b__law_mixed .nil pass0 (pa_cons (pe_op op_mod (pe_callTy call_int1 (by rfl) T.int (by decide +kernel) (pa_cons (pv 4) pa_nil)) pe_int) (pa_cons (pe_ix ix_list (pv 0) pe_int (fun _ _ => rfl)) (pa_cons (pv 1) pa_nil))))))))
      pss_nil)
    (pss_cons (ps_asg pe_int (pg_sub (pv 0) pe_int set_list))
    (pss_cons (ps_asg (pe_op op_fdivW (pe_callTy call_int1 (by rfl) T.int (by decide +kernel) (pa_cons (pv 4) pa_nil)) (pv 1)) (pg_sub (pv 3) (pv 2) set_list))
    (pss_cons (ps_if (pt_cmpR op_eq (pe_ix ix_list (pv 3) (pv 2) (fun _ _ => rfl)) pe_int (nomark _))
      (pss_cons (ps_asg (pe_op op_add (pv 2) pe_int) (pg_sub (pv 0) pe_int set_list))
      (pss_one (ps_asg pe_int (pg_sub (pv 0) pe_int set_list))))
      pss_nil)
    (pss_one (ps_ret (pe_op op_mod (pe_callTy call_int1 (by rfl) T.int (by decide +kernel) (pa_cons (pv 4) pa_nil)) (pv 1))))))))))))), ?_⟩
  refine ⟨_, rfl, p, _, _, _, rfl, rfl, SqL.of h1, atI_nat (j := 2) rfl, _, _, rfl, rfl, _, rfl, p, _, _, 2, rfl, rfl, h1, rfl, ?_⟩
  have h1a : (upd H p (.lst [.ref l, .int ix, .int (cnt + 1), .int seed, .int ph, .int 30])) p = some (.lst [.ref l, .int ix, .int (cnt + 1), .int seed, .int ph, .int 30]) := upd_same
  have h2a : (upd H p (.lst [.ref l, .int ix, .int (cnt + 1), .int seed, .int ph, .int 30])) l = some (.lst (cs.map V.int)) := by rw [upd_ne ne.symm]; exact h2
  have hfa : ∀ b, b ≠ p → b ≠ l → (upd H p (.lst [.ref l, .int ix, .int (cnt + 1), .int seed, .int ph, .int 30])) b = H b := fun b hb _ => upd_ne hb
  show tSeq _ _ _ _ (upd H p (.lst [.ref l, .int ix, .int (cnt + 1), .int seed, .int ph, .int 30]))
  generalize (upd H p (.lst [.ref l, .int ix, .int (cnt + 1), .int seed, .int ph, .int 30])) = H1 at h1a h2a hfa ⊢
  refine ⟨_, rfl, p, _, _, _, rfl, rfl, SqL.of h1a, atI_nat (j := 1) rfl, _, rfl, p, _, _, _, rfl, rfl, SqL.of h1a, atI_nat (j := 0) rfl, l, _, rfl, .inl (SqL.of h2a), _, _, rfl, rfl, _, rfl, ite2 (fun e => ?_) (fun e => ?_)⟩
  · refine ⟨_, rfl, p, _, _, _, rfl, rfl, SqL.of h1a, atI_nat (j := 3) rfl, _, rfl, p, _, _, _, rfl, rfl, SqL.of h1a, atI_nat (j := 2) rfl, _, rfl, seed, cnt + 1, m, rfl, hs0, hs1, by omega, by omega, hm, fun r hr0 hr1 => ?_⟩
    exact q r _ hr0 hr1 ⟨ne, cs, ix, cnt + 1, seed, ph, h1a, h2a, hix, by omega, by omega, hs0, hs1, hlen⟩ hfa
  · have hlt : ix < (cs.length : Int) := by
      have e' := of_decide_eq_false (Bool.eq_false_iff.mpr e)
      rw [List.length_map] at e'
      omega
    obtain ⟨j, rfl⟩ : ∃ j : Nat, ix = (j : Int) := ⟨ix.toNat, by omega⟩
    have hj : j < cs.length := by omega
    have hz : (cs.map V.int)[j]? = some (.int cs[j]) := by rw [List.getElem?_map, List.getElem?_eq_getElem hj]; rfl
    generalize cs[j] = z at hz
    refine ⟨_, rfl, p, _, _, _, rfl, rfl, SqL.of h1a, atI_nat (j := 1) rfl, ?_⟩
    refine ⟨_, rfl, p, _, _, _, rfl, rfl, SqL.of h1a, atI_nat (j := 0) rfl, ?_⟩
    refine ⟨_, rfl, _, rfl, l, _, _, _, rfl, rfl, SqL.of h2a, atI_nat (j := j) hz, ?_⟩
    dsimp only [gName]
    refine st_seq (st_ite (b := (!decide (V.int ph = V.int 2)) && decide (z < 10 ^ (18 : Int).toNat)) (ans_and2 (fun Q q => ⟨_, rfl, p, _, _, _, rfl, rfl, SqL.of h1a, atI_nat (j := 4) rfl, rfl, _, rfl, q⟩) (fun Q q => ⟨_, rfl, _, _, rfl, rfl, ⟨by decide, by decide, by decide⟩, _, _, rfl, rfl, _, rfl, q⟩)) (fun e1 => ?_) (fun e1 => ?_))
    · -- a small cell: the phase grows
      refine ⟨_, rfl, p, _, _, _, rfl, rfl, SqL.of h1a, atI_nat (j := 4) rfl, _, _, rfl, rfl, _, rfl, p, _, _, 4, rfl, rfl, h1a, rfl, ?_⟩
      dsimp only [gName]
      refine st_seq (st_ite (b := decide (V.int (ph + 1) = V.int 2)) (fun Q q => ⟨_, rfl, p, _, _, _, rfl, rfl, SqL.of upd_same, atI_nat (j := 4) rfl, rfl, _, rfl, q⟩) (fun e2 => ?_) (fun e2 => ?_))
      · refine ⟨_, rfl, _, _, rfl, rfl, _, rfl, p, _, _, 1, rfl, rfl, upd_same, rfl, _, rfl, p, _, _, 4, rfl, rfl, upd_same, rfl, ?_⟩
        refine ⟨_, rfl, .inl ⟨_, rfl, _, _, rfl, rfl, (by show (0 : Int) < 2147483647; decide), _, rfl, p, _, _, _, rfl, rfl, SqL.of upd_same, atI_nat (j := 2) rfl, _, rfl, _, cnt + 1, m, rfl, Int.emod_nonneg _ (by decide), Int.emod_lt_of_pos _ (by decide), by omega, by omega, hm, fun r hr0 hr1 => ?_⟩⟩
        exact q r _ hr0 hr1 ⟨ne, cs, (j : Int) + 1, cnt + 1, seed, 0, upd_same, by rw [upd_ne ne.symm, upd_ne ne.symm, upd_ne ne.symm]; exact h2a, by omega, by omega, by omega, hs0, hs1, hlen⟩ fun b hb hb2 => by rw [upd_ne hb, upd_ne hb, upd_ne hb]; exact hfa b hb hb2
      · refine ⟨_, rfl, .inl ⟨_, rfl, _, _, rfl, rfl, (by show (0 : Int) < 2147483647; decide), _, rfl, p, _, _, _, rfl, rfl, SqL.of upd_same, atI_nat (j := 2) rfl, _, rfl, _, cnt + 1, m, rfl, Int.emod_nonneg _ (by decide), Int.emod_lt_of_pos _ (by decide), by omega, by omega, hm, fun r hr0 hr1 => ?_⟩⟩
        exact q r _ hr0 hr1 ⟨ne, cs, (j : Int), cnt + 1, seed, ph + 1, upd_same, by rw [upd_ne ne.symm]; exact h2a, by omega, by omega, by omega, hs0, hs1, hlen⟩ fun b hb hb2 => by rw [upd_ne hb]; exact hfa b hb hb2
    · -- a great one: divided
      refine ⟨_, rfl, p, _, _, 4, rfl, rfl, h1a, rfl, ?_⟩
      refine ⟨_, rfl, .inl ⟨_, rfl, _, rfl, _, _, rfl, rfl, ⟨hm, hml⟩, _, rfl, _, rfl, l, _, _, j, rfl, rfl, by rw [upd_ne ne.symm]; exact h2a, ixN_at (by rw [List.length_map]; exact hj), ?_⟩⟩
      have h1b : ∀ x, (upd (upd H1 p (.lst [.ref l, .int j, .int (cnt + 1), .int seed, .int 2, .int 30])) l x) p = some (.lst [.ref l, .int j, .int (cnt + 1), .int seed, .int 2, .int 30]) := fun x => by rw [upd_ne ne]; exact upd_same
      have e3 : (cs.map V.int).set j (.int (z / m)) = (cs.set j (z / m)).map V.int := by rw [List.map_set]
      have hl2 : (cs.set j (z / m)).length ≤ 63 := by rw [List.length_set]; exact hlen
      have hz2 : ((cs.map V.int).set j (.int (z / m)))[j]? = some (.int (z / m)) := by rw [List.getElem?_set_self]; rw [List.length_map]; exact hj
      dsimp only [gName]
      refine st_seq (st_ite (b := decide (V.int (z / m) = V.int 0)) (fun Q q => ⟨_, rfl, _, rfl, l, _, _, _, rfl, rfl, SqL.of upd_same, atI_nat (j := j) hz2, rfl, _, rfl, q⟩) (fun e2 => ?_) (fun e2 => ?_))
      · refine ⟨_, rfl, _, _, rfl, rfl, _, rfl, p, _, _, 1, rfl, rfl, h1b _, rfl, _, rfl, p, _, _, 4, rfl, rfl, upd_same, rfl, ?_⟩
        refine ⟨_, rfl, .inl ⟨_, rfl, _, rfl, _, _, rfl, rfl, hm, ?_⟩⟩
        exact q _ _ (Int.emod_nonneg _ (by omega)) (Int.emod_lt_of_pos _ hm) ⟨ne, _, (j : Int) + 1, cnt + 1, seed, 0, upd_same, by rw [upd_ne ne.symm, upd_ne ne.symm, upd_same, e3], by omega, by omega, by omega, hs0, hs1, hl2⟩ fun b hb hb2 => by rw [upd_ne hb, upd_ne hb, upd_ne hb2, upd_ne hb]; exact hfa b hb hb2
      · refine ⟨_, rfl, .inl ⟨_, rfl, _, rfl, _, _, rfl, rfl, hm, ?_⟩⟩
        exact q _ _ (Int.emod_nonneg _ (by omega)) (Int.emod_lt_of_pos _ hm) ⟨ne, _, (j : Int), cnt + 1, seed, 2, h1b _, by rw [upd_same, e3], by omega, by omega, by omega, hs0, hs1, hl2⟩ fun b hb hb2 => by rw [upd_ne hb2, upd_ne hb]; exact hfa b hb hb2
theorem sc__law_names : FnScope ["_law_pool_here", "_law_letter", "_law_shift", "_law_k"] ["_law_pool_here"] (defScope s__law_names) := ⟨rfl, rfl, rfl, by decide +kernel, rfl, by decide +kernel, by decide +kernel⟩
theorem ok__law_names (T : Txt K mg a) : FnOk P w K mg base CX0 3 a.f__law_names a.f__law_names_d ["_law_pool_here"] spNames := by
  refine T.F__law_names.ok sc__law_names (fun vs H Q E h => ?_) (fun cdv A outer s H vs Q E hr h => ?_)
  · obtain ⟨p, l, n, rfl, _⟩ := h
    rfl
  obtain ⟨p, l, n, rfl, hP, hn, q⟩ := h
  refine ⟨_, (pss_cons (ps_set (i := 1) sc__law_names.nd rfl (Or.inr rfl) (pe_ix ix_str pe_str (pe_call (ok__law_draw T) (hr.mono (by decide)) (by rfl) T.g__law_draw T.F__law_draw.kp T.b__law_draw .nil pass0 (pa_cons (pv 0) (pa_cons pe_int pa_nil))) (fun _ _ => rfl)))
    (pss_cons (ps_set (i := 2) sc__law_names.nd rfl (Or.inr rfl) (pe_call (ok__law_draw T) (hr.mono (by decide)) (by rfl) T.g__law_draw T.F__law_draw.kp T.b__law_draw .nil pass0 (pa_cons (pv 0) (pa_cons pe_int pa_nil))))
    (pss_one (ps_ret (pe_lc (own := [("_law_k", 3)]) (g := gName 3) (tt := tYes) (by rfl) sc__law_names.nd (pi_range1 (by rfl) T.range (pa_cons pe_int pa_nil)) (blkOk_by (own := [("_law_k", 3)]) (N := ["_law_pool_here", "_law_letter", "_law_shift", "_law_k"]) (sc := defScope s__law_names) (by decide +kernel)) (fun _ _ _ _ _ => pg_name (i := 3) sc__law_names.nd rfl (Or.inl rfl)) (fun _ _ _ _ _ => pts_nil) (fun _ _ _ _ _ => (pe_op op_add_str (pv 1) (pe_callTy call_str_int (by rfl) T.str (by decide +kernel) (pa_cons (pe_op op_mod (pe_op op_add (pe_op op_mul pe_int (pv 3)) (pv 2)) pe_int) pa_nil))))))))), ?_⟩
  refine ⟨_, rfl, p, l, n, 26, rfl, hP, by omega, by decide, log_small (by decide) (by decide), fun r1 H1 r10 r11 P1 f1 => ?_⟩
  obtain ⟨c, hc, hm⟩ := atI_ex (xs := tl LET) (r := r1) r10 (by rw [show (tl LET).length = 26 from by decide +kernel]; exact r11)
  refine ⟨_, r1, c, rfl, rfl, (by decide +kernel), hc, ?_⟩
  refine ⟨_, rfl, p, l, n + 1, 16, rfl, P1, by omega, by decide, log_small (by decide) (by decide), fun r2 H2 r20 r21 P2 f2 => ?_⟩
  refine ⟨16, rfl, by decide, by decide, fun D hD => ?_⟩
  have hDo := P2.off hD
  have k2 : Keep p l H H2 := (Keep.draw f1).trans (Keep.draw f2)
  have nD : H D = none := k2.free hD hDo.1 hDo.2
  refine lc_range (lo := 0) (n := 16) (fun i H' => PoolAt H' p l (n + 2) ∧ Keep p l H H' ∧ H' D = some (.lst ((((List.range i).map (nameL c r2))).map V.str)))
    ⟨(P2.mono (by omega)).same (same_upd hD), k2.trans (Keep.of (same_upd hD)), upd_same⟩ ?_ ?_
  · rintro i H' hi ⟨P3, k3, hD3⟩
    have h16 : 0 ≤ (7 * ((0 : Int) + (i : Int)) + r2) % 16 ∧ (7 * ((0 : Int) + (i : Int)) + r2) % 16 < 16 := ⟨Int.emod_nonneg _ (by decide), Int.emod_lt_of_pos _ (by decide)⟩
    refine ⟨rfl, _, rfl, _, rfl, _, _, rfl, rfl, .inl ⟨by decide, by decide⟩, _, rfl, _, _, rfl, rfl, _, _, rfl, rfl, (by show (0 : Int) < 16; decide), _, rfl, log_ok h16.1 (by omega), _, _, rfl, rfl, ?_, _, hD3, ?_, ?_, ?_, ?_⟩
    · have := numT_len h16.1 (show _ < 1000000000000000000 by omega)
      unfold numT at this
      exact bigLe (by show 1 + _ ≤ 1000000; omega)
    · rw [List.length_map, List.length_map, List.length_range]
      exact bigLine (by omega)
    · exact P3.keep (upd_ne hDo.1.symm) (upd_ne hDo.2.symm)
    · exact k3.mut nD
    · rw [upd_same, List.range_succ, List.map_append, List.map_append]
      rfl
  · rintro H' ⟨P3, k3, hD3⟩
    exact q H' D c r2 P3 k3 hDo.1 hDo.2 nD hm r20 r21 hD3
end
theorem take_put {t : Tb} {i : Nat} {x : Str} {v : Int} (hn : (keysT t).Nodup) (h : t[i]? = some (x, v)) : putT (t.take i) x v = t.take (i + 1) := by
  rw [keysT_new, List.take_add_one, h]
  · rfl
  · intro m
    obtain ⟨hi, e⟩ := List.getElem?_eq_some_iff.mp h
    unfold keysT at m hn
    rw [List.map_take] at m
    obtain ⟨j, hj, ej⟩ := List.mem_iff_getElem.mp m
    rw [List.length_take, List.length_map] at hj
    rw [List.getElem_take] at ej
    have e2 : (t.map (·.1))[i]'(by rw [List.length_map]; exact hi) = x := by rw [List.getElem_map, e]
    have := (List.getElem_inj hn).mp (ej.trans e2.symm)
    omega
theorem get_rev {α : Type} {l : List α} {i : Nat} (h : i < l.length) : l.reverse[i]? = l[l.length - 1 - i]? := List.getElem?_reverse h
/-- a state of the law: (values, log) -/
def StL (H : Hp) (s lg : Addr) (x : Sta) : Prop := ∃ vd, H s = some (.tup [.ref vd, .ref lg]) ∧ H vd = some (.dK (dv x.1)) ∧ LstAt rcV H lg x.2
theorem StL.same {H H' : Hp} (k : Same H H') {s lg : Addr} {x : Sta} (h : StL H s lg x) : StL H' s lg x := by
  obtain ⟨vd, h1, h2, h3⟩ := h
  exact ⟨vd, k _ _ h1, k _ _ h2, h3.same k⟩
theorem StL.off {H : Hp} {s lg p : Addr} {x : Sta} {us vs : List V} (h : StL H s lg x) (hp : H p = some (.lst us)) (n : lg ≠ p) : StL (upd H p (.lst vs)) s lg x := by
  obtain ⟨vd, h1, h2, as, h3, h4⟩ := h
  exact ⟨vd, by rw [upd_ne (ne_of h1 hp (by intro z; cases z))]; exact h1, by rw [upd_ne (ne_of h2 hp (by intro z; cases z))]; exact h2, as, by rw [upd_ne n]; exact h3, h4.imp (tup_off hp (by intro xs z; cases z))⟩
def StT (H : Hp) (s : Addr) (x : Sta) : Prop := ∃ lg, StL H s lg x
theorem StT.same {H H' : Hp} (k : Same H H') {s : Addr} {x : Sta} (h : StT H s x) : StT H' s x := by
  obtain ⟨lg, h⟩ := h
  exact ⟨lg, h.same k⟩
def spAppl : Sp := fun vs H Q _ => ∃ (s e lg : Addr) (x : Sta) (ev : Ev), vs = [.ref s, .ref e] ∧ StL H s lg x ∧ H e = some (.tup (evV ev)) ∧ (keysT x.1).Nodup ∧ x.1.length ≤ 400 ∧ x.2.length ≤ 400 ∧ ∀ H' s' lg', Same H H' → (lg' = lg ∨ H lg' = none) → StL H' s' lg' (stepE x ev) → Q (.ref s') H'
def spRecT : Sp := fun vs H Q _ => ∃ (s : Addr) (x : Sta), vs = [.ref s] ∧ StT H s x ∧ (keysT x.1).Nodup ∧ x.1.length ≤ 400 ∧ x.2.length ≤ 400 ∧ ∀ H' D, Same H H' → H D = none → H' D = some (.dK (dv (undo x.1 x.2))) → Q (.ref D) H'
theorem ev_wf2 : decide (V.str "flush" = V.str "write") = false := by decide +kernel
section
variable {P : Program} {w : World} {K : PySem.W.Frag} {mg : Str → Option Value} {base : Heap} {a : Ads}
theorem sc__law_applied : FnScope ["_law_state", "_law_event_here", "_law_found", "_law_name", "_law_values", "_law_log"] ["_law_state", "_law_event_here"] (defScope s__law_applied) := ⟨rfl, rfl, rfl, by decide +kernel, rfl, by decide +kernel, by decide +kernel⟩
theorem ok__law_applied (T : Txt K mg a) : FnOk P w K mg base CX0 1 a.f__law_applied a.f__law_applied_d ["_law_state", "_law_event_here"] spAppl := by
  refine T.F__law_applied.ok sc__law_applied (fun vs H Q E h => ?_) (fun cdv A outer s H vs Q E hr h => ?_)
  · obtain ⟨s, e, lg, x, ev, rfl, _⟩ := h
    rfl
  obtain ⟨s, e, lg, ⟨t, l⟩, ev, rfl, ⟨vd, hs, hv, as, hl, hlt⟩, he, hn, hb1, hb2, q⟩ := h
  refine ⟨_, (pss_cons (ps_asg (pv 0) (pg_tup (by rfl) (pgs_cons (pg_name (i := 4) sc__law_applied.nd rfl (Or.inl rfl)) (pgs_cons (pg_name (i := 5) sc__law_applied.nd rfl (Or.inl rfl)) pgs_nil))))
    (pss_cons (ps_if (pt_cmpR op_eq (pe_ix ix_tup (pv 1) pe_int (fun _ _ => rfl)) pe_str (nomark _))
      (pss_one (ps_ret (pe_tup (pa_cons (pv 4) (pa_cons (pe_op op_cat (pv 5) (pe_lst (pa_cons (pe_slice sl_tup (pv 1) (po_some pe_int) po_none) pa_nil))) pa_nil)))))
      pss_nil)
    (pss_cons (ps_if (pt_cmpR op_eq (pe_ix ix_tup (pv 1) pe_int (fun _ _ => rfl)) pe_str (nomark _))
      (pss_one (ps_ret (pe_tup (pa_cons (pv 4) (pa_cons (pe_lst pa_nil) pa_nil)))))
      pss_nil)
    (pss_cons (ps_set (i := 2) sc__law_applied.nd rfl (Or.inl rfl) pe_dnewK)
    (pss_cons (ps_lock (ps_for PassesOwn.never rfl (pi_keys (pv 4)) (pg_name (i := 3) sc__law_applied.nd rfl (Or.inl rfl))
      (pss_one (ps_dput (hu_of hr) (pv 2) (pv 3) (pe_dget (hu_of hr) (pv 4) (pv 3) (fun _ _ => rfl)) rfl))))
    (pss_cons (ps_if (pt_cmpR op_eq (pe_ix ix_tup (pv 1) pe_int (fun _ _ => rfl)) pe_str (nomark _))
      (pss_one (ps_dput (hu_of hr) (pv 2) (pe_ix ix_tup (pv 1) pe_int (fun _ _ => rfl)) (pe_ix ix_tup (pv 1) pe_int (fun _ _ => rfl)) rfl))
      pss_nil)
    (pss_one (ps_ret (pe_tup (pa_cons (pv 2) (pa_cons (pv 5) pa_nil))))))))))), ?_⟩
  refine ⟨_, rfl, s, _, rfl, SqT.of hs, rfl, _, _, rfl, _, _, rfl, rfl, ?_⟩
  have hv : H vd = some (.dK (dv t)) := hv
  have hn : (keysT t).Nodup := hn
  have hb1 : t.length ≤ 400 := hb1
  have hb2 : l.length ≤ 400 := hb2
  have hlt : TupsAt rcV H as l := hlt
  cases ev with
  | log y v =>
    refine ⟨_, rfl, e, _, _, _, rfl, rfl, SqT.of he, atI_nat (j := 0) rfl, rfl, _, rfl, ite2 (fun _ => ?_) (yes_b (decide_eq_true rfl))⟩
    refine ⟨_, rfl, _, rfl, _, rfl, 1, rfl, e, _, rfl, SqT.of he, (fun z => by have z1 : (1 : Nat) = 0 := z.1; cases z1), fun c nc => ⟨(by show 1 ≤ sizeLine; decide), fun L1 nL1 => ⟨lg, L1, _, _, rfl, rfl, same_upd nL1 _ _ (same_upd nc _ _ hl), upd_same, ?_, fun L2 nL2 => ?_⟩⟩⟩
    · rw [List.length_map, hlt.len]
      exact bigLe (by show _ + 1 ≤ _; omega)
    refine ⟨(by show 2 ≤ sizeLine; decide), fun R nR => ?_⟩
    have s5 := ((same_upd (o := .tup (cutV (evV (.log y v)) (some 1) none)) nc).trans (same_upd (o := .lst [.ref c]) nL1)).trans (same_upd (o := .lst (as.map V.ref ++ [.ref c])) nL2)
    have s6 := s5.trans (same_upd (o := .tup [.ref vd, .ref L2]) nR)
    refine q _ R L2 s6 (.inr (((same_upd nc).trans (same_upd nL1)).free nL2)) ⟨vd, upd_same, s6 _ _ hv, as ++ [c], ?_, ?_⟩
    · rw [List.map_append]
      exact same_upd nR _ _ upd_same
    · exact (hlt.same s6).app (r := (y, v)) (same_upd nR _ _ (same_upd nL2 _ _ (same_upd nL1 _ _ upd_same)))
  | clear =>
    refine ⟨_, rfl, e, _, _, _, rfl, rfl, SqT.of he, atI_nat (j := 0) rfl, rfl, _, rfl, ite2 (no_b ev_cl) (fun _ => ?_)⟩
    refine ⟨_, rfl, e, _, _, _, rfl, rfl, SqT.of he, atI_nat (j := 0) rfl, rfl, _, rfl, ite2 (fun _ => ?_) (yes_b (decide_eq_true rfl))⟩
    refine ⟨_, rfl, (by show 0 ≤ sizeLine; decide), fun L nL => ⟨(by show 2 ≤ sizeLine; decide), fun R nR => ?_⟩⟩
    have s6 := (same_upd (o := .lst []) nL).trans (same_upd (o := .tup [.ref vd, .ref L]) nR)
    exact q _ R L s6 (.inr nL) ⟨vd, upd_same, s6 _ _ hv, [], same_upd nR _ _ upd_same, trivial⟩
  | write y v =>
    refine ⟨_, rfl, e, _, _, _, rfl, rfl, SqT.of he, atI_nat (j := 0) rfl, rfl, _, rfl, ite2 (no_b ev_wl) (fun _ => ?_)⟩
    refine ⟨_, rfl, e, _, _, _, rfl, rfl, SqT.of he, atI_nat (j := 0) rfl, rfl, _, rfl, ite2 (no_b ev_wc) (fun _ => ?_)⟩
    intro D nD
    have s1 : Same H (upd H D (.dK [])) := same_upd nD
    have hv1 := s1 _ _ hv
    have hD1 : (upd H D (.dK [])) D = some (.dK (dv (t.take 0))) := upd_same
    show tSeq _ _ _ _ (upd H D (.dK []))
    generalize (upd H D (.dK [])) = H1 at s1 hv1 hD1 ⊢
    have hvD : D ≠ vd := fun z => by rw [← z, nD] at hv; cases hv
    refine ⟨vd, _, hv1, trivial, fun od => ?_⟩
    refine ⟨_, rfl, vd, od, rfl, .inl ⟨_, upd_same, for_it walk_keys (fun i σ H' => ∃ v3, σ = [some (.ref s), some (.ref e), some (.ref D), v3, some (.ref vd), some (.ref lg)] ∧ (∀ b o, H b = some o → b ≠ vd → H' b = some o) ∧ H' vd = some (.frz od (.dK (dv t))) ∧ H' D = some (.dK (dv (t.take i))))
      ⟨none, rfl, fun b o e n => by rw [upd_ne n]; exact s1 _ _ e, upd_same, by rw [upd_ne hvD]; exact hD1⟩ (fun i σ H' _ ⟨_, _, _, h, _⟩ => h) ?_ ?_⟩⟩
    · rintro i x H2 H2a H3 hi ⟨v3, rfl, k2, hv2, hD2⟩ ⟨rfl, k, v, hkv, rfl⟩
      obtain ⟨x, n, hx, rfl, rfl⟩ := dv_get hkv
      rw [dv_len] at hi
      have hget : valV (dv t) (Sum.inr x) = some (.int n) := (dv_val hn (Sum.inr x, .int n) (List.mem_of_getElem? hkv)).1
      refine ⟨_, rfl, _, rfl, vd, _, rfl, .inl ⟨_, Sum.inr x, .inr ⟨od, hv2⟩, rfl, hget.symm⟩, _, rfl, _, rfl, D, _, rfl, DPut.k (k := Sum.inr x) hD2 ?_, ?_⟩
      · rw [dv_len, List.length_take]
        exact bigLine (by omega)
      · refine ⟨_, rfl, fun b o e n' => ?_, ?_, ?_⟩
        · rw [upd_ne (ne_of_none e nD)]
          exact k2 b o e n'
        · rw [upd_ne hvD.symm]
          exact hv2
        · rw [upd_same, dv_put, take_put hn hx]
    rintro σ H2 ⟨v3, rfl, k2, hv2, hD2⟩
    rw [dv_len, List.take_length] at hD2
    refine ⟨hv2, ?_⟩
    have s3 : Same H (upd H2 vd (.dK (dv t))) := fun b o e => by
      by_cases z : b = vd
      · subst z
        rw [upd_same, ← e, hv]
      · rw [upd_ne z]
        exact k2 b o e z
    have hD3 : (upd H2 vd (.dK (dv t))) D = some (.dK (dv t)) := by rw [upd_ne hvD]; exact hD2
    generalize (upd H2 vd (.dK (dv t))) = H3 at s3 hD3 ⊢
    refine ⟨_, rfl, e, _, _, _, rfl, rfl, SqT.of (s3 _ _ he), atI_nat (j := 0) rfl, rfl, _, rfl, ite2 (fun _ => ?_) (yes_b (decide_eq_true rfl))⟩
    refine ⟨_, rfl, e, _, _, _, rfl, rfl, SqT.of (s3 _ _ he), atI_nat (j := 2) rfl, _, rfl, _, rfl, e, _, _, _, rfl, rfl, SqT.of (s3 _ _ he), atI_nat (j := 1) rfl, D, _, rfl, DPut.k (k := Sum.inr y) hD3 ?_, ?_⟩
    · rw [dv_len]
      exact bigLine (by omega)
    refine ⟨_, rfl, _, rfl, (by show 2 ≤ sizeLine; decide), fun R nR => ?_⟩
    have s6 := (same_mut (o := .dK (putK (dv t) (Sum.inr y) (.int v))) s3 nD).trans (same_upd (o := .tup [.ref D, .ref lg]) nR)
    refine q _ R lg s6 (.inl rfl) ⟨D, upd_same, ?_, as, s6 _ _ hl, hlt.same s6⟩
    show _ = some (HO.dK (dv (putT t y v)))
    rw [← dv_put]
    exact same_upd nR _ _ upd_same
  | flush =>
    refine ⟨_, rfl, e, _, _, _, rfl, rfl, SqT.of he, atI_nat (j := 0) rfl, rfl, _, rfl, ite2 (no_b ev_fl) (fun _ => ?_)⟩
    refine ⟨_, rfl, e, _, _, _, rfl, rfl, SqT.of he, atI_nat (j := 0) rfl, rfl, _, rfl, ite2 (no_b ev_fc) (fun _ => ?_)⟩
    intro D nD
    have s1 : Same H (upd H D (.dK [])) := same_upd nD
    have hv1 := s1 _ _ hv
    have hD1 : (upd H D (.dK [])) D = some (.dK (dv (t.take 0))) := upd_same
    show tSeq _ _ _ _ (upd H D (.dK []))
    generalize (upd H D (.dK [])) = H1 at s1 hv1 hD1 ⊢
    have hvD : D ≠ vd := fun z => by rw [← z, nD] at hv; cases hv
    refine ⟨vd, _, hv1, trivial, fun od => ?_⟩
    refine ⟨_, rfl, vd, od, rfl, .inl ⟨_, upd_same, for_it walk_keys (fun i σ H' => ∃ v3, σ = [some (.ref s), some (.ref e), some (.ref D), v3, some (.ref vd), some (.ref lg)] ∧ (∀ b o, H b = some o → b ≠ vd → H' b = some o) ∧ H' vd = some (.frz od (.dK (dv t))) ∧ H' D = some (.dK (dv (t.take i))))
      ⟨none, rfl, fun b o e n => by rw [upd_ne n]; exact s1 _ _ e, upd_same, by rw [upd_ne hvD]; exact hD1⟩ (fun i σ H' _ ⟨_, _, _, h, _⟩ => h) ?_ ?_⟩⟩
    · rintro i x H2 H2a H3 hi ⟨v3, rfl, k2, hv2, hD2⟩ ⟨rfl, k, v, hkv, rfl⟩
      obtain ⟨x, n, hx, rfl, rfl⟩ := dv_get hkv
      rw [dv_len] at hi
      have hget : valV (dv t) (Sum.inr x) = some (.int n) := (dv_val hn (Sum.inr x, .int n) (List.mem_of_getElem? hkv)).1
      refine ⟨_, rfl, _, rfl, vd, _, rfl, .inl ⟨_, Sum.inr x, .inr ⟨od, hv2⟩, rfl, hget.symm⟩, _, rfl, _, rfl, D, _, rfl, DPut.k (k := Sum.inr x) hD2 ?_, ?_⟩
      · rw [dv_len, List.length_take]
        exact bigLine (by omega)
      · refine ⟨_, rfl, fun b o e n' => ?_, ?_, ?_⟩
        · rw [upd_ne (ne_of_none e nD)]
          exact k2 b o e n'
        · rw [upd_ne hvD.symm]
          exact hv2
        · rw [upd_same, dv_put, take_put hn hx]
    rintro σ H2 ⟨v3, rfl, k2, hv2, hD2⟩
    rw [dv_len, List.take_length] at hD2
    refine ⟨hv2, ?_⟩
    have s3 : Same H (upd H2 vd (.dK (dv t))) := fun b o e => by
      by_cases z : b = vd
      · subst z
        rw [upd_same, ← e, hv]
      · rw [upd_ne z]
        exact k2 b o e z
    have hD3 : (upd H2 vd (.dK (dv t))) D = some (.dK (dv t)) := by rw [upd_ne hvD]; exact hD2
    generalize (upd H2 vd (.dK (dv t))) = H3 at s3 hD3 ⊢
    refine ⟨_, rfl, e, _, _, _, rfl, rfl, SqT.of (s3 _ _ he), atI_nat (j := 0) rfl, rfl, _, rfl, ite2 (no_b ev_fw) (fun _ => ?_)⟩
    refine ⟨_, rfl, _, rfl, (by show 2 ≤ sizeLine; decide), fun R nR => ?_⟩
    have s6 := s3.trans (same_upd (o := .tup [.ref D, .ref lg]) nR)
    exact q _ R lg s6 (.inl rfl) ⟨D, upd_same, same_upd nR _ _ hD3, as, s6 _ _ hl, hlt.same s6⟩
theorem sc__law_recovered : FnScope ["_law_state", "_law_found", "_law_name", "_law_k", "_law_values", "_law_log", "_law_record"] ["_law_state"] (defScope s__law_recovered) := ⟨rfl, rfl, rfl, by decide +kernel, rfl, by decide +kernel, by decide +kernel⟩
theorem ok__law_recovered (T : Txt K mg a) : FnOk P w K mg base CX0 1 a.f__law_recovered a.f__law_recovered_d ["_law_state"] spRecT := by
  refine T.F__law_recovered.ok sc__law_recovered (fun vs H Q E h => ?_) (fun cdv A outer s H vs Q E hr h => ?_)
  · obtain ⟨s, x, rfl, _⟩ := h
    rfl
  obtain ⟨s, ⟨t, l⟩, rfl, ⟨lg, vd, hs, hv, as, hl, hlt⟩, hn, hb1, hb2, q⟩ := h
  refine ⟨_, (pss_cons (ps_asg (pv 0) (pg_tup (by rfl) (pgs_cons (pg_name (i := 4) sc__law_recovered.nd rfl (Or.inl rfl)) (pgs_cons (pg_name (i := 5) sc__law_recovered.nd rfl (Or.inl rfl)) pgs_nil))))
    (pss_cons (ps_set (i := 1) sc__law_recovered.nd rfl (Or.inl rfl) pe_dnewK)
    (pss_cons (ps_lock (ps_for PassesOwn.never rfl (pi_keys (pv 4)) (pg_name (i := 2) sc__law_recovered.nd rfl (Or.inl rfl))
      (pss_one (ps_dput (hu_of hr) (pv 1) (pv 2) (pe_dget (hu_of hr) (pv 4) (pv 2) (fun _ _ => rfl)) rfl))))
    (pss_cons (ps_for PassesOwn.never rfl (pi_range1 (by rfl) T.range (pa_cons (pe_callB call_len_seq (by rfl) T.len PySem.boot_len (pa_cons (pv 5) pa_nil)) pa_nil)) (pg_name (i := 3) sc__law_recovered.nd rfl (Or.inl rfl))
      (pss_cons (ps_set (i := 6) sc__law_recovered.nd rfl (Or.inl rfl) (pe_ix ix_list (pv 5) (pe_op op_sub (pe_op op_sub (pe_callB call_len_seq (by rfl) T.len PySem.boot_len (pa_cons (pv 5) pa_nil)) pe_int) (pv 3)) (fun _ _ => rfl)))
      (pss_one (ps_dput (hu_of hr) (pv 1) (pe_ix ix_tup (pv 6) pe_int (fun _ _ => rfl)) (pe_ix ix_tup (pv 6) pe_int (fun _ _ => rfl)) rfl))))
    (pss_one (ps_ret (pv 1))))))), ?_⟩
  refine ⟨_, rfl, s, _, rfl, SqT.of hs, rfl, _, _, rfl, _, _, rfl, rfl, ?_⟩
  have hv : H vd = some (.dK (dv t)) := hv
  have hn : (keysT t).Nodup := hn
  have hb1 : t.length ≤ 400 := hb1
  have hb2 : l.length ≤ 400 := hb2
  have hlt : TupsAt rcV H as l := hlt
  intro D nD
  have s1 : Same H (upd H D (.dK [])) := same_upd nD
  have hv1 := s1 _ _ hv
  have hD1 : (upd H D (.dK [])) D = some (.dK (dv (t.take 0))) := upd_same
  show tSeq _ _ _ _ (upd H D (.dK []))
  generalize (upd H D (.dK [])) = H1 at s1 hv1 hD1 ⊢
  have hvD : D ≠ vd := fun z => by rw [← z, nD] at hv; cases hv
  refine ⟨vd, _, hv1, trivial, fun od => ?_⟩
  refine ⟨_, rfl, vd, od, rfl, .inl ⟨_, upd_same, for_it walk_keys (fun i σ H' => ∃ v3, σ = [some (.ref s), some (.ref D), v3, none, some (.ref vd), some (.ref lg), none] ∧ (∀ b o, H b = some o → b ≠ vd → H' b = some o) ∧ H' vd = some (.frz od (.dK (dv t))) ∧ H' D = some (.dK (dv (t.take i))))
    ⟨none, rfl, fun b o e n => by rw [upd_ne n]; exact s1 _ _ e, upd_same, by rw [upd_ne hvD]; exact hD1⟩ (fun i σ H' _ ⟨_, _, _, h, _⟩ => h) ?_ ?_⟩⟩
  · rintro i x H2 H2a H3 hi ⟨v3, rfl, k2, hv2, hD2⟩ ⟨rfl, k, v, hkv, rfl⟩
    obtain ⟨x, n, hx, rfl, rfl⟩ := dv_get hkv
    rw [dv_len] at hi
    have hget : valV (dv t) (Sum.inr x) = some (.int n) := (dv_val hn (Sum.inr x, .int n) (List.mem_of_getElem? hkv)).1
    refine ⟨_, rfl, _, rfl, vd, _, rfl, .inl ⟨_, Sum.inr x, .inr ⟨od, hv2⟩, rfl, hget.symm⟩, _, rfl, _, rfl, D, _, rfl, DPut.k (k := Sum.inr x) hD2 ?_, ?_⟩
    · rw [dv_len, List.length_take]
      exact bigLine (by omega)
    · refine ⟨_, rfl, fun b o e n' => ?_, ?_, ?_⟩
      · rw [upd_ne (ne_of_none e nD)]
        exact k2 b o e n'
      · rw [upd_ne hvD.symm]
        exact hv2
      · rw [upd_same, dv_put, take_put hn hx]
  rintro σ H2 ⟨v3, rfl, k2, hv2, hD2⟩
  rw [dv_len, List.take_length] at hD2
  refine ⟨hv2, ?_⟩
  have s3 : Same H (upd H2 vd (.dK (dv t))) := fun b o e => by
    by_cases z : b = vd
    · subst z
      rw [upd_same, ← e, hv]
    · rw [upd_ne z]
      exact k2 b o e z
  have hD3 : (upd H2 vd (.dK (dv t))) D = some (.dK (dv t)) := by rw [upd_ne hvD]; exact hD2
  generalize (upd H2 vd (.dK (dv t))) = H3 at s3 hD3 ⊢
  have hl3 := s3 _ _ hl
  have hlen : as.length = l.length := hlt.len
  refine ⟨_, rfl, lg, _, rfl, .inl (SqL.of hl3), _, rfl, ⟨by omega, by rw [List.length_map]; omega, ?_⟩⟩
  refine for_range (lo := 0) (n := _) (fun i σ H' => ∃ v3 v4 v5, σ = [some (.ref s), some (.ref D), v3, v4, some (.ref vd), some (.ref lg), v5] ∧ Same H H' ∧ ∃ t', H' D = some (.dK (dv t')) ∧ t' = (l.reverse.take i).foldl (fun t r => putT t r.1 r.2) t ∧ t'.length ≤ t.length + i)
    ⟨_, _, _, rfl, s3, t, hD3, rfl, Nat.le_refl _⟩ ?_ ?_
  · rintro i σ H4 hi ⟨v3, v4, v5, rfl, s4, t', hD4, et, lt⟩
    have hi2 : i < as.length := by
      have : ((as.map V.ref).length : Int).toNat = as.length := by rw [List.length_map]; exact Int.toNat_natCast _
      omega
    have hl4 := s4 _ _ hl
    have hrl : l.reverse[i]? = l[l.length - 1 - i]? := get_rev (by omega)
    have hrc : l[l.length - 1 - i]? = some (l[l.length - 1 - i]'(by omega)) := List.getElem?_eq_getElem _
    generalize l[l.length - 1 - i]'(by omega) = rc at hrc
    obtain ⟨b, hb, hbt⟩ := (hlt.same s4).get2 hrc
    obtain ⟨x, v⟩ := rc
    have hidx : atI (as.map V.ref) (((as.map V.ref).length : Int) - 1 - (0 + (i : Int))) = some (.ref b) := by
      rw [show ((as.map V.ref).length : Int) - 1 - (0 + (i : Int)) = ((l.length - 1 - i : Nat) : Int) by rw [List.length_map]; omega]
      refine atI_nat ?_
      rw [List.getElem?_map, hb]
      rfl
    refine ⟨_, rfl, _, rfl, lg, _, rfl, .inl (SqL.of hl4), _, _, rfl, rfl, _, rfl, _, _, rfl, rfl, lg, _, _, _, rfl, rfl, SqL.of hl4, hidx, ?_⟩
    refine ⟨_, rfl, b, _, _, _, rfl, rfl, SqT.of hbt, atI_nat (j := 1) rfl, _, rfl, _, rfl, b, _, _, _, rfl, rfl, SqT.of hbt, atI_nat (j := 0) rfl, D, _, rfl, DPut.k (k := Sum.inr x) hD4 ?_, ?_⟩
    · rw [dv_len]
      exact bigLine (by omega)
    · refine ⟨_, _, _, rfl, same_mut s4 nD, putT t' x v, ?_, ?_, ?_⟩
      · rw [upd_same, dv_put]
      · rw [List.take_add_one, hrl, hrc, List.foldl_append, ← et]
        rfl
      · have := putT_len t' x v
        omega
  · rintro σ H4 ⟨v3, v4, v5, rfl, s4, t', hD4, et, lt⟩
    refine ⟨_, rfl, ?_⟩
    have e2 : t' = undo t l := by
      rw [et]
      unfold undo
      rw [List.take_of_length_le]
      have : ((as.map V.ref).length : Int).toNat = as.length := by rw [List.length_map]; exact Int.toNat_natCast _
      rw [List.length_reverse]
      omega
    rw [e2] at hD4
    exact q H4 D s4 nD hD4
end
end K27
namespace K27
open PySem PySem.Spec PyProof.Rows L2 TL
/-! ### the law's crashes -/
/-- a list of states -/
def Sts (H : Hp) (as : List Addr) (xs : List Sta) : Prop := as.length = xs.length ∧ ∀ (i : Nat) (a : Addr) (x : Sta), as[i]? = some a → xs[i]? = some x → StT H a x
theorem Sts.same {H H' : Hp} (k : Same H H') {as : List Addr} {xs : List Sta} (h : Sts H as xs) : Sts H' as xs := ⟨h.1, fun i a x h1 h2 => (h.2 i a x h1 h2).same k⟩
theorem Sts.one {H : Hp} {s : Addr} {x : Sta} (h : StT H s x) : Sts H [s] [x] := ⟨rfl, fun i a y h1 h2 => by
  match i, h1, h2 with
  | 0, h1, h2 => cases h1; cases h2; exact h⟩
theorem Sts.app {H : Hp} {as bs : List Addr} {xs ys : List Sta} (h : Sts H as xs) (g : Sts H bs ys) : Sts H (as ++ bs) (xs ++ ys) := by
  refine ⟨by rw [List.length_append, List.length_append, h.1, g.1], fun i a x h1 h2 => ?_⟩
  rw [List.getElem?_append] at h1 h2
  rw [← h.1] at h2
  split at h1
  · rename_i z
    rw [if_pos z] at h2
    exact h.2 i a x h1 h2
  · rename_i z
    rw [if_neg z] at h2
    exact g.2 _ a x h1 h2
/-- .. whose logs stand elsewhere than at D -/
def StsX (H : Hp) (D : Addr) (as : List Addr) (xs : List Sta) : Prop := as.length = xs.length ∧ ∀ (i : Nat) (a : Addr) (x : Sta), as[i]? = some a → xs[i]? = some x → ∃ lg, StL H a lg x ∧ lg ≠ D
theorem StsX.sts {H : Hp} {D : Addr} {as : List Addr} {xs : List Sta} (h : StsX H D as xs) : Sts H as xs := ⟨h.1, fun i a x h1 h2 => (h.2 i a x h1 h2).elim fun lg z => ⟨lg, z.1⟩⟩
theorem StsX.same {H H' : Hp} (k : Same H H') {D : Addr} {as : List Addr} {xs : List Sta} (h : StsX H D as xs) : StsX H' D as xs := ⟨h.1, fun i a x h1 h2 => (h.2 i a x h1 h2).elim fun lg z => ⟨lg, z.1.same k, z.2⟩⟩
theorem StsX.snoc {H : Hp} {D s lg : Addr} {as : List Addr} {xs : List Sta} {x : Sta} {us vs : List V} (h : StsX H D as xs) (g : StL H s lg x) (n : lg ≠ D) (hD : H D = some (.lst us)) : StsX (upd H D (.lst vs)) D (as ++ [s]) (xs ++ [x]) := by
  refine ⟨by rw [List.length_append, List.length_append, h.1]; rfl, fun i a y h1 h2 => ?_⟩
  rw [List.getElem?_append] at h1 h2
  rw [← h.1] at h2
  split at h1
  · rename_i z
    rw [if_pos z] at h2
    obtain ⟨lg', q, m⟩ := h.2 i a y h1 h2
    exact ⟨lg', q.off hD m, m⟩
  · rename_i z
    rw [if_neg z] at h2
    have e : i - as.length = 0 := by
      obtain ⟨y, _⟩ := List.getElem?_eq_some_iff.mp h1
      rw [List.length_singleton] at y
      omega
    rw [e] at h1 h2
    cases h1; cases h2
    exact ⟨lg, g.off hD n, n⟩
def spCrs : Sp := fun vs H Q _ => ∃ (d q : Addr) (t : Tb) (es : List Ev), vs = [.ref d, .ref q] ∧ H d = some (.dK (dv t)) ∧ LstAt evV H q es ∧ (keysT t).Nodup ∧ (∀ e ∈ es, evOk (keysT t) e) ∧ t.length ≤ 16 ∧ es.length ≤ 100 ∧ (∀ k, (runS t (es.take k)).2.length ≤ 8) ∧
  ∀ H' q' as, Same H H' → H' q' = some (.lst (as.map V.ref)) → Sts H' as (crs (runS t es).1 (runS t es).2) → Q (.ref q') H'
theorem crs_len (s : Sta) (ps : List Ev) : (crs s ps).length = 2 ^ ps.length := by rw [crs_eq, List.length_map, List.length_range]
theorem crs_key {ks : List Str} {s : Sta} {ps : List Ev} {n : Nat} (h : SOk ks n (s, ps)) : ∀ x ∈ crs s ps, KeyOk ks x ∧ x.2.length ≤ n := fun x hx => by
  rw [crs_eq] at hx
  obtain ⟨c, _, rfl⟩ := List.mem_map.mp hx
  have z := runE_log (chs 0 c ps) s
  have y := chs_len c ps 0
  have l := h.len
  exact ⟨h.key.run fun e m => h.ev e (chs_mem c ps 0 e m), by show (runE s (chs 0 c ps)).2.length ≤ n; have l : s.2.length + ps.length ≤ n := l; omega⟩
theorem runS_take_len (t : Tb) (es : List Ev) : runS t (es.take es.length) = runS t es := by rw [List.take_length]
def isFl : Ev → Bool
  | .flush => true
  | _ => false
theorem flush_dec (ev : Ev) : decide ((evV ev).headD .non = V.str "flush") = isFl ev := by
  cases ev with
  | log _ _ => exact ev_lf
  | write _ _ => exact ev_wf
  | clear => exact ev_cf
  | flush => exact decide_eq_true rfl
section
variable {P : Program} {w : World} {K : PySem.W.Frag} {mg : Str → Option Value} {base : Heap} {a : Ads}
theorem sc__law_crashes : FnScope ["_law_values", "_law_events", "_law_durable", "_law_pending", "_law_event_here", "_law_states", "_law_one", "_law_state"] ["_law_values", "_law_events"] (defScope s__law_crashes) := ⟨rfl, rfl, rfl, by decide +kernel, rfl, by decide +kernel, by decide +kernel⟩
theorem ok__law_crashes (T : Txt K mg a) : FnOk P w K mg base CX0 3 a.f__law_crashes a.f__law_crashes_d ["_law_values", "_law_events"] spCrs := by
  refine T.F__law_crashes.ok sc__law_crashes (fun vs H Q E h => ?_) (fun cdv A outer s H vs Q E hr h => ?_)
  · obtain ⟨d, q, t, es, rfl, _⟩ := h
    rfl
  obtain ⟨d, q0, t, es, rfl, hd, ⟨bs, hq, hT⟩, hn, he, htl, hel, hp, q⟩ := h
  refine ⟨_, (pss_cons (ps_set (i := 2) sc__law_crashes.nd rfl (Or.inl rfl) (pe_tup (pa_cons (pv 0) (pa_cons (pe_lst pa_nil) pa_nil))))
    (pss_cons (ps_set (i := 3) sc__law_crashes.nd rfl (Or.inl rfl) (pe_lst pa_nil))
    (pss_cons (ps_for PassesOwn.never rfl (pi_list (pv 1)) (pg_name (i := 4) sc__law_crashes.nd rfl (Or.inr rfl))
      (pss_cons (ps_expr (pe_bm PySem.F.plainAttrs_list PySem.F.slot_list_append PySem.F.type_list_append mt_append (pv 3) (pa_cons (pv 4) pa_nil)))
      (pss_one (ps_if (pt_cmpR op_eq (pe_ix ix_tup (pv 4) pe_int (fun _ _ => rfl)) pe_str (nomark _))
        (pss_cons (ps_for PassesOwn.never rfl (pi_list (pv 3)) (pg_name (i := 6) sc__law_crashes.nd rfl (Or.inl rfl))
          (pss_one (ps_set (i := 2) sc__law_crashes.nd rfl (Or.inl rfl) (pe_call (ok__law_applied T) (hr.mono (by decide)) (by rfl) T.g__law_applied T.F__law_applied.kp T.b__law_applied .nil pass0 (pa_cons (pv 2) (pa_cons (pv 6) pa_nil))))))
        (pss_one (ps_set (i := 3) sc__law_crashes.nd rfl (Or.inl rfl) (pe_lst pa_nil))))
        pss_nil))))
    (pss_cons (ps_set (i := 5) sc__law_crashes.nd rfl (Or.inl rfl) (pe_lst (pa_cons (pv 2) pa_nil)))
    (pss_cons (ps_for PassesOwn.never rfl (pi_list (pv 3)) (pg_name (i := 4) sc__law_crashes.nd rfl (Or.inr rfl))
      (pss_one (ps_set (i := 5) sc__law_crashes.nd rfl (Or.inl rfl) (pe_op op_cat (pv 5) (pe_lc (own := [("_law_state", 7)]) (g := gName 7) (tt := tYes) (by rfl) sc__law_crashes.nd (pi_list (pv 5)) (blkOk_by (own := [("_law_state", 7)]) (N := ["_law_values", "_law_events", "_law_durable", "_law_pending", "_law_event_here", "_law_states", "_law_one", "_law_state"]) (sc := defScope s__law_crashes) (by decide +kernel)) (fun _ _ _ _ _ => pg_name (i := 7) sc__law_crashes.nd rfl (Or.inl rfl)) (fun _ _ _ _ _ => pts_nil) (fun _ _ _ _ _ => (pe_call (ok__law_applied T) (hr.mono (by decide)) (by rfl) T.g__law_applied T.F__law_applied.kp T.b__law_applied .nil pass0 (pa_cons (pv 7) (pa_cons (pv 4) pa_nil)))))))))
    (pss_one (ps_ret (pv 5)))))))), ?_⟩
  have hbl : (bs.map V.ref).length = es.length := by rw [List.length_map, hT.len]
  refine ⟨_, rfl, (by show 0 ≤ sizeLine; decide), fun L nL => ⟨(by show 2 ≤ sizeLine; decide), fun S0 nS => ?_⟩⟩
  have sA : Same H (upd (upd H L (.lst [])) S0 (.tup [.ref d, .ref L])) := (same_upd nL).trans (same_upd nS)
  have hS : StL (upd (upd H L (.lst [])) S0 (.tup [.ref d, .ref L])) S0 L (t, []) := ⟨d, upd_same, sA _ _ hd, [], same_upd nS _ _ upd_same, trivial⟩
  have hL0 : (upd (upd H L (.lst [])) S0 (.tup [.ref d, .ref L])) L = some (.lst []) := same_upd nS _ _ upd_same
  dsimp only [gName, List.set]
  show tSeq _ _ _ _ (upd (upd H L (.lst [])) S0 (.tup [.ref d, .ref L]))
  generalize (upd (upd H L (.lst [])) S0 (.tup [.ref d, .ref L])) = H1 at sA hS hL0 ⊢
  refine ⟨(by show 0 ≤ sizeLine; decide), fun pq npq => ?_⟩
  have s1 := sA.trans (same_upd (o := .lst []) npq)
  have hS1 := hS.same (same_upd (o := .lst []) npq)
  have npq0 : H pq = none := sA.free npq
  have hLp : L ≠ pq := ne_of_none hL0 npq
  dsimp only [gName, List.set]
  have hpq1 : (upd H1 pq (.lst [])) pq = some (.lst (([] : List Addr).map V.ref)) := upd_same
  show tSeq _ _ _ _ (upd H1 pq (.lst []))
  generalize (upd H1 pq (.lst [])) = H2 at s1 hS1 hpq1 ⊢
  refine ⟨_, rfl, q0, rfl, ⟨_, SqL.of (s1 _ _ hq)⟩, for_it (walk_list (K := K) (a := q0) (xs := bs.map V.ref)) (fun i σ H' => ∃ (s lg pq : Addr) (ps : List Addr) (v4 v6 : Option V), σ = [some (.ref d), some (.ref q0), some (.ref s), some (.ref pq), v4, none, v6, none] ∧ Same H H' ∧ H pq = none ∧ StL H' s lg (runS t (es.take i)).1 ∧ lg ≠ pq ∧ H' pq = some (.lst (ps.map V.ref)) ∧ TupsAt evV H' ps (runS t (es.take i)).2)
    ⟨S0, L, pq, [], _, _, rfl, s1, npq0, hS1, hLp, hpq1, trivial⟩ (fun i σ H' _ ⟨_, _, _, _, _, _, _, s4, _⟩ => SqL.of (s4 _ _ hq)) ?_ ?_⟩
  · rintro i v σ H4 H5 hi ⟨s4, lg, pq, ps, v4, v6, rfl, k4, npq, hS4, hlp, hpq, hps⟩ ⟨rfl, hv⟩
    obtain ⟨e, he1, rfl⟩ := get_map hv
    obtain ⟨ev, hev, hevT⟩ := hT.get he1
    have hiL : i < es.length := by omega
    have K4 := sOk he i (by omega)
    have e5 := runS_succ (t := t) hev
    have hpl := hps.len
    have hp4 := hp i
    -- append
    refine ⟨_, rfl, .inl ⟨rfl, _, SqL.of hpq⟩, _, rfl, pq, _, _, rfl, rfl, hpq, ?_, ?_⟩
    · rw [List.length_map]
      exact bigLine (by omega)
    have hS5 := hS4.off (vs := ps.map V.ref ++ [.ref e]) hpq hlp
    have k5 : Same H (upd H5 pq (.lst (ps.map V.ref ++ [.ref e]))) := same_mut k4 npq
    have hpq5 : (upd H5 pq (.lst (ps.map V.ref ++ [.ref e]))) pq = some (.lst ((ps ++ [e]).map V.ref)) := by rw [upd_same, List.map_append]; rfl
    have hps5 : TupsAt evV (upd H5 pq (.lst (ps.map V.ref ++ [.ref e]))) (ps ++ [e]) ((runS t (es.take i)).2 ++ [ev]) := (hps.app (k4 _ _ hevT)).imp (tup_off hpq (by intro xs z; cases z))
    generalize (upd H5 pq (.lst (ps.map V.ref ++ [.ref e]))) = H6 at hS5 k5 hpq5 hps5 ⊢
    have hfd := flush_dec ev
    obtain ⟨hz, tz, ehz⟩ : ∃ h r, evV ev = V.str h :: r := by cases ev <;> exact ⟨_, _, rfl⟩
    rw [ehz] at hfd
    have hfd : decide (V.str hz = V.str "flush") = isFl ev := hfd
    -- flush?
    refine ⟨_, rfl, e, _, _, _, rfl, rfl, SqT.of (k5 _ _ hevT), atI_nat (j := 0) (by rw [ehz]; rfl), rfl, _, rfl, ite2 (fun eb => ?_) (fun eb => ?_)⟩
    · have efl : ev = .flush := by
        have z := hfd.symm.trans eb
        cases ev with
        | flush => rfl
        | _ => cases z
      subst efl
      have hpl5 := hps5.len
      refine ⟨_, rfl, pq, rfl, ⟨_, SqL.of hpq5⟩, for_it (walk_list (K := K) (a := pq) (xs := (ps ++ [e]).map V.ref)) (fun j σ H' => ∃ (s5 lg5 : Addr) (v6 : Option V), σ = [some (.ref d), some (.ref q0), some (.ref s5), some (.ref pq), some (.ref e), none, v6, none] ∧ Same H6 H' ∧ StL H' s5 lg5 (runE (runS t (es.take i)).1 ((List.take j ((runS t (es.take i)).2 ++ [Ev.flush])))))
        ⟨s4, lg, _, rfl, Same.refl _, hS5⟩ (fun j σ H' _ ⟨_, _, _, _, z, _⟩ => SqL.of (z _ _ hpq5)) ?_ ?_⟩
      · rintro j v σ H7 H8 hj ⟨s5, lg5, v6', rfl, k7, hS7⟩ ⟨rfl, hv'⟩
        obtain ⟨b, hb1, rfl⟩ := get_map hv'
        obtain ⟨ev2, hev2, hb2⟩ := (hps5.same k7).get hb1
        have hev2k : evOk (keysT t) ev2 := by
          rcases List.mem_append.mp (List.mem_of_getElem? hev2) with z | z
          · exact K4.ev _ z
          · rw [List.mem_singleton.mp z]; trivial
        have hpk : ∀ x ∈ ((runS t (es.take i)).2 ++ [Ev.flush]).take j, evOk (keysT t) x := fun x hx => by
          rcases List.mem_append.mp (List.mem_of_mem_take hx) with z | z
          · exact K4.ev _ z
          · rw [List.mem_singleton.mp z]; trivial
        have hK7 := K4.key.run hpk
        have l7 := runE_log (((runS t (es.take i)).2 ++ [Ev.flush]).take j) (runS t (es.take i)).1
        have l8 : (((runS t (es.take i)).2 ++ [Ev.flush]).take j).length ≤ (runS t (es.take i)).2.length + 1 := by
          rw [List.length_take, List.length_append, List.length_singleton]; omega
        have l4 := K4.len
        have tk := len_keys hK7.1
        have hkl2 : (keysT t).length = t.length := List.length_map _
        refine ⟨_, rfl, _, rfl, s5, b, lg5, _, ev2, rfl, hS7, hb2, by rw [hK7.1]; exact hn, by omega, by omega, fun H9 s9 lg9 k9 _ hS9 => ?_⟩
        refine ⟨s9, lg9, _, rfl, k7.trans k9, ?_⟩
        rw [runE_succ hev2]
        exact hS9
      · rintro σ H7 ⟨s5, lg5, v6', rfl, k7, hS7⟩
        refine ⟨(by show 0 ≤ sizeLine; decide), fun p2 np2 => ?_⟩
        have kk := k7.trans (same_upd (o := .lst []) np2)
        have e6 : ((runS t (es.take i)).2 ++ [Ev.flush]).take ((ps ++ [e]).map V.ref).length = (runS t (es.take i)).2 ++ [Ev.flush] := List.take_of_length_le (by rw [List.length_map, hpl5]; exact Nat.le_refl _)
        rw [e6, runE_snoc] at hS7
        have hlg : lg5 ≠ p2 := by
          obtain ⟨_, _, _, as5, z, _⟩ := hS7
          exact ne_of_none z np2
        refine ⟨s5, lg5, p2, [], _, _, rfl, k5.trans kk, (k5.trans k7).free np2, ?_, hlg, upd_same, ?_⟩
        · rw [e5]
          exact hS7.same (same_upd np2)
        · rw [e5]; trivial
    · have enf : stepS (runS t (es.take i)) ev = ((runS t (es.take i)).1, (runS t (es.take i)).2 ++ [ev]) := by
        cases ev with
        | flush => exact absurd hfd eb
        | _ => rfl
      refine ⟨s4, lg, pq, ps ++ [e], _, _, rfl, k5, npq, ?_, hlp, hpq5, ?_⟩
      · rw [e5, enf]; exact hS5
      · rw [e5, enf]; exact hps5
  · rintro σ H4 ⟨s4, lg, pq, ps, v4, v6, rfl, k4, npq, hS4, hlp, hpq, hps⟩
    have K4 := sOk he es.length (Nat.le_refl _)
    have hp4 := hp es.length
    rw [hbl, List.take_length] at hS4 hps
    rw [List.take_length] at K4 hp4
    generalize runS t es = R at hS4 hps K4 hp4 q
    obtain ⟨x, P0⟩ := R
    have hpl := hps.len
    have K4k : KeyOk (keysT t) x := K4.key
    have K4e : ∀ e ∈ P0, evOk (keysT t) e := K4.ev
    have K4l : x.2.length + P0.length ≤ es.length := K4.len
    have hp8 : P0.length ≤ 8 := hp4
    refine ⟨_, rfl, (by show 1 ≤ sizeLine; decide), fun sq nsq => ?_⟩
    have k5 := k4.trans (same_upd (o := .lst [.ref s4]) nsq)
    have hS5 : Sts (upd H4 sq (.lst [.ref s4])) [s4] (crs x (P0.take 0)) := .one ⟨lg, hS4.same (same_upd nsq)⟩
    have hsq5 : (upd H4 sq (.lst [.ref s4])) sq = some (.lst ([s4].map V.ref)) := upd_same
    have s45 := same_upd (o := .lst [.ref s4]) nsq
    have hpq5 := s45 _ _ hpq
    have hps5 := hps.same s45
    dsimp only [gName, List.set]
    show tSeq _ _ _ _ (upd H4 sq (.lst [.ref s4]))
    generalize (upd H4 sq (.lst [.ref s4])) = H5 at k5 hS5 hsq5 hpq5 hps5 ⊢
    refine ⟨_, rfl, pq, rfl, ⟨_, SqL.of hpq5⟩, for_it (walk_list (K := K) (a := pq) (xs := ps.map V.ref)) (fun j σ H' => ∃ (sq : Addr) (as : List Addr) (v4 : Option V), σ = [some (.ref d), some (.ref q0), some (.ref s4), some (.ref pq), v4, some (.ref sq), v6, none] ∧ Same H5 H' ∧ H' sq = some (.lst (as.map V.ref)) ∧ Sts H' as (crs x (P0.take j)))
      ⟨sq, [s4], _, rfl, Same.refl _, hsq5, hS5⟩ (fun j σ H' _ ⟨_, _, _, _, z, _⟩ => SqL.of (z _ _ hpq5)) ?_ ?_⟩
    · rintro j v σ H6 H7 hj ⟨sq, as, v4, rfl, k6, hsq, hSts⟩ ⟨rfl, hv⟩
      obtain ⟨b, hb1, rfl⟩ := get_map hv
      obtain ⟨ev, hev, hbT⟩ := (hps5.same k6).get hb1
      rw [List.length_map] at hj
      have hPj : ∀ e ∈ P0.take j, evOk (keysT t) e := fun e m => K4e e (List.mem_of_mem_take m)
      have lPj : (P0.take j).length ≤ 8 := by rw [List.length_take]; omega
      have hkeys := crs_key (ks := keysT t) (s := x) (ps := P0.take j) (n := 200) ⟨K4k, hPj, by show x.2.length + (P0.take j).length ≤ 200; omega⟩
      have hlen : as.length ≤ 256 := by
        rw [hSts.1, crs_len]
        exact Nat.pow_le_pow_right (by decide) lPj
      have hx7 : crs x (P0.take (j + 1)) = crs x (P0.take j) ++ (crs x (P0.take j)).map fun s => stepE s ev := by
        rw [List.take_add_one, hev]
        exact crs_snoc _ _ _
      have hkl2 : (keysT t).length = t.length := List.length_map _
      refine ⟨_, rfl, _, rfl, sq, rfl, ⟨_, SqL.of hsq⟩, fun D nD => ?_⟩
      refine lc_it (walk_list (K := K) (a := sq) (xs := as.map V.ref)) (fun k H' => Same H7 H' ∧ ∃ cs, H' D = some (.lst (cs.map V.ref)) ∧ StsX H' D cs (((crs x (P0.take j)).take k).map fun s => stepE s ev)) ⟨same_upd nD, [], upd_same, rfl, fun i a x h => by cases h⟩ (fun k H' _ z => SqL.of (z.1 _ _ hsq)) ?_ ?_
      · rintro k v H8 H9 hk ⟨k8, cs, hD8, hc8⟩ ⟨rfl, hv⟩
        obtain ⟨s8, hs8, rfl⟩ := get_map hv
        rw [List.length_map] at hk
        have hkx : (crs x (P0.take j))[k]? = some ((crs x (P0.take j))[k]'(by rw [← hSts.1]; exact hk)) := List.getElem?_eq_getElem _
        generalize (crs x (P0.take j))[k]'(by rw [← hSts.1]; exact hk) = y at hkx
        obtain ⟨lg8, hS7⟩ := hSts.2 k s8 y hs8 hkx
        have hS8 := hS7.same k8
        have hlg8 : lg8 ≠ D := by
          obtain ⟨_, _, _, as8, z, _⟩ := hS7
          exact ne_of_none z nD
        obtain ⟨hyk, hyl⟩ := hkeys y (List.mem_of_getElem? hkx)
        have tl := len_keys hyk.1
        refine ⟨rfl, _, rfl, _, rfl, s8, b, lg8, y, ev, rfl, hS8, k8 _ _ hbT, by rw [hyk.1]; exact hn, by omega, by omega, fun HA sA lgA kA olA hSA => ?_⟩
        have hlgA : lgA ≠ D := by
          rcases olA with z | z
          · rw [z]; exact hlg8
          · exact fun y => by rw [y, hD8] at z; cases z
        refine ⟨_, kA _ _ hD8, ?_, same_mut (k8.trans kA) nD, cs ++ [sA], by rw [upd_same, List.map_append]; rfl, ?_⟩
        · have z := hc8.1
          rw [List.length_map, List.length_take] at z
          rw [List.length_map]
          exact bigLine (by have := hSts.1; omega)
        · rw [List.take_add_one, hkx, List.map_append]
          exact (hc8.same kA).snoc hSA hlgA (kA _ _ hD8)
      · rintro H8 ⟨k8, cs, hD8, hc8⟩
        rw [List.length_map, hSts.1, List.take_length] at hc8
        have hsq8 := k8 _ _ hsq
        have hcl := hc8.1
        rw [List.length_map] at hcl
        refine ⟨sq, D, _, _, rfl, rfl, hsq8, hD8, ?_, fun L2 nL2 => ?_⟩
        · rw [List.length_map, List.length_map]
          exact bigLe (by have := hSts.1; omega)
        refine ⟨L2, as ++ cs, _, rfl, (k6.trans k8).trans (same_upd nL2), by rw [upd_same, List.map_append], ?_⟩
        rw [hx7]
        exact ((hSts.same k8).app hc8.sts).same (same_upd nL2)
    · rintro σ H6 ⟨sq, as, v4, rfl, k6, hsq, hSts⟩
      rw [List.length_map, hpl, List.take_length] at hSts
      exact ⟨_, rfl, q H6 sq as (k5.trans k6) hsq hSts⟩
end
end K27
namespace K27
open PySem PySem.Spec PyProof.Rows L2 TL
theorem cut_take (xs : List V) (m : Nat) : cutV xs none (some (m : Int)) = xs.take m := by
  unfold cutV
  rw [show HT.sIx xs.length xs.length (some (m : Int)) = min m xs.length from HT.sIx_nat _ _ m, HT.sIx_none]
  show (xs.drop 0).take (min m xs.length - 0) = xs.take m
  rw [List.drop_zero, Nat.sub_zero, ← List.take_take, List.take_length]
theorem cut_drop (xs : List V) (m : Nat) (h : m ≤ xs.length) : cutV xs (some (m : Int)) none = xs.drop m := by
  unfold cutV
  rw [show HT.sIx xs.length 0 (some (m : Int)) = min m xs.length from HT.sIx_nat _ _ m, HT.sIx_none, Nat.min_eq_left h]
  show (xs.drop m).take (xs.length - m) = xs.drop m
  exact List.take_of_length_le (by rw [List.length_drop]; exact Nat.le_refl _)
theorem valT_self {t : Tb} (hn : (keysT t).Nodup) : ∀ p ∈ t, EqI.valT t p.1 = some p.2 := by
  intro p hp
  have h1 := (dv_val hn (Sum.inr p.1, .int p.2) (List.mem_map_of_mem (f := fun p : Str × Int => ((Sum.inr p.1 : Key), V.int p.2)) hp)).1
  have h2 : valV (EqI.dvI t) (Sum.inr p.1) = some (.int p.2) := h1
  rw [EqI.val_dvI] at h2
  obtain ⟨m, hm, e⟩ := Option.map_eq_some_iff.mp h2
  rw [hm, V.int.inj e]
theorem eqT_self {t : Tb} (hn : (keysT t).Nodup) : EqI.eqT t t = true := by
  unfold EqI.eqT
  rw [Bool.and_eq_true]
  exact ⟨by simp, List.all_eq_true.mpr fun p hp => decide_eq_true (valT_self hn p hp)⟩
theorem TupsAt.take {α : Type} {f : α → List V} {H : Hp} : ∀ {as : List Addr} {rs : List α} (n : Nat), TupsAt f H as rs → TupsAt f H (as.take n) (rs.take n)
  | [], [], 0, _ => trivial
  | [], [], _ + 1, _ => trivial
  | _ :: _, _ :: _, 0, _ => trivial
  | _ :: _, _ :: _, n + 1, h => ⟨h.1, TupsAt.take n h.2⟩
  | [], _ :: _, _, h => h.elim
  | _ :: _, [], _, h => h.elim
theorem stepS_len (s : Sta × List Ev) (e : Ev) : (stepS s e).2.length = if isFl e then 0 else s.2.length + 1 := by
  cases e with
  | flush => rfl
  | _ => show (s.2 ++ [_]).length = _; rw [List.length_append]; rfl
theorem take_snoc_or {α : Type} (f : List α) (e : α) (k : Nat) : (f ++ [e]).take k = f.take k ∨ (f ++ [e]).take k = f ++ [e] := by
  rcases Nat.lt_or_ge f.length k with h | h
  · exact .inr (List.take_of_length_le (by rw [List.length_append, List.length_singleton]; omega))
  · exact .inl (by rw [List.take_append_of_le_length h])
theorem paired_of {F : V → V → Prop} : ∀ (xs ys : List V), xs.length = ys.length → (∀ (i : Nat) (x y : V), xs[i]? = some x → ys[i]? = some y → F x y) → Paired F xs ys
  | [], [], _, _ => .nil
  | x :: xs, y :: ys, h, k => .cons (k 0 x y rfl rfl) (paired_of xs ys (Nat.succ.inj h) fun i x y h1 h2 => k (i + 1) x y h1 h2)
  | [], _ :: _, h, _ => nomatch h
  | _ :: _, [], h, _ => nomatch h
theorem eqv_dv {K : PySem.W.Frag} {H : Hp} {d e : Addr} {t : Tb} (hn : (keysT t).Nodup) (hd : H d = some (.dK (dv t))) (he : H e = some (.dK (dv t))) : EqV K H 2 (.ref d) (.ref e) :=
  .inr (.inr (.inr ⟨d, e, dv t, dv t, rfl, rfl, hd, he, rfl, fun p hp => ⟨p.2, (dv_val hn p hp).1, .inl ⟨rfl, (dv_val hn p hp).2⟩⟩⟩))
end K27
namespace K27
open PySem PySem.Spec PyProof.Rows L2 TL
theorem pool_lst {H : Hp} {p l : Addr} {n : Int} (P : PoolAt H p l n) : (∃ xs, H p = some (.lst xs)) ∧ ∃ ys, H l = some (.lst ys) := by
  obtain ⟨_, cs, ix, cnt, seed, ph, h1, h2, _⟩ := P
  exact ⟨⟨_, h1⟩, ⟨_, h2⟩⟩
theorem Keep.no {p l : Addr} {H H' : Hp} (k : Keep p l H H') {n : Int} (P : PoolAt H p l n) {b : Addr} {u : HO} (e : H b = some u) (hu : ∀ xs, u ≠ .lst xs) : H' b = some u := by
  obtain ⟨⟨xs, hp⟩, ⟨ys, hl⟩⟩ := pool_lst P
  exact k b u e (ne_of e hp (hu _)) (ne_of e hl (hu _))
/-- what an event is drawn from -/
structure Src (H : Hp) (p l vd nl : Addr) (n : Int) (t : Tb) (N : List Str) : Prop where
  P : PoolAt H p l n
  hv : H vd = some (.dK (dv t))
  hN : H nl = some (.lst (N.map V.str))
  np : nl ≠ p
  nq : nl ≠ l
  sub : ∀ x ∈ N, x ∈ keysT t
  nd : (keysT t).Nodup
  n0 : 0 < N.length
  n1 : N.length ≤ 16
theorem Src.keep {H H' : Hp} {p l vd nl : Addr} {n m : Int} {t : Tb} {N : List Str} (S : Src H p l vd nl n t N) (k : Keep p l H H') (P' : PoolAt H' p l m) : Src H' p l vd nl m t N :=
  ⟨P', k.no S.P S.hv (by intro xs z; cases z), k _ _ S.hN S.np S.nq, S.np, S.nq, S.sub, S.nd, S.n0, S.n1⟩
theorem Src.same {H H' : Hp} {p l vd nl : Addr} {n : Int} {t : Tb} {N : List Str} (S : Src H p l vd nl n t N) (k : Same H H') : Src H' p l vd nl n t N :=
  ⟨S.P.same k, k _ _ S.hv, k _ _ S.hN, S.np, S.nq, S.sub, S.nd, S.n0, S.n1⟩
theorem Src.mono {H : Hp} {p l vd nl : Addr} {n m : Int} {t : Tb} {N : List Str} (S : Src H p l vd nl n t N) (h : n ≤ m) : Src H p l vd nl m t N :=
  ⟨S.P.mono h, S.hv, S.hN, S.np, S.nq, S.sub, S.nd, S.n0, S.n1⟩
def spEvL : Sp := fun vs H Q _ => ∃ (p l vd nl : Addr) (n : Int) (t : Tb) (N : List Str), vs = [.ref p, .ref vd, .ref nl] ∧ Src H p l vd nl n t N ∧ 0 ≤ n ∧ n < 1099511627000 ∧
  ∀ H' e ev, PoolAt H' p l (n + 4) → Keep p l H H' → H e = none → H' e = some (.tup (evV ev)) → evOk (keysT t) ev → Q (.ref e) H'
section
variable {P : Program} {w : World} {K : PySem.W.Frag} {mg : Str → Option Value} {base : Heap} {a : Ads}
theorem sc__law_event : FnScope ["_law_pool_here", "_law_values", "_law_names_here", "_law_choice", "_law_name", "_law_worth"] ["_law_pool_here", "_law_values", "_law_names_here"] (defScope s__law_event) := ⟨rfl, rfl, rfl, by decide +kernel, rfl, by decide +kernel, by decide +kernel⟩
theorem ok__law_event (T : Txt K mg a) : FnOk P w K mg base CX0 3 a.f__law_event a.f__law_event_d ["_law_pool_here", "_law_values", "_law_names_here"] spEvL := by
  refine T.F__law_event.ok sc__law_event (fun vs H Q E h => ?_) (fun cdv A outer s H vs Q E hr h => ?_)
  · obtain ⟨p, l, vd, nl, n, t, N, rfl, _⟩ := h
    rfl
  obtain ⟨p, l, vd, nl, n, t, N, rfl, S0, hn0, hn, q⟩ := h
  refine ⟨_, (pss_cons (ps_set (i := 3) sc__law_event.nd rfl (Or.inl rfl) (pe_call (ok__law_draw T) (hr.mono (by decide)) (by rfl) T.g__law_draw T.F__law_draw.kp T.b__law_draw .nil pass0 (pa_cons (pv 0) (pa_cons pe_int pa_nil))))
    (pss_cons (ps_set (i := 4) sc__law_event.nd rfl (Or.inl rfl) (pe_ix ix_list (pv 2) (pe_call (ok__law_draw T) (hr.mono (by decide)) (by rfl) T.g__law_draw T.F__law_draw.kp T.b__law_draw .nil pass0 (pa_cons (pv 0) (pa_cons (pe_callB call_len_seq (by rfl) T.len PySem.boot_len (pa_cons (pv 2) pa_nil)) pa_nil))) (fun _ _ => rfl)))
    (pss_cons (ps_set (i := 5) sc__law_event.nd rfl (Or.inl rfl) (pe_ifExp (pt_cmpR op_eq (pe_call (ok__law_draw T) (hr.mono (by decide)) (by rfl) T.g__law_draw T.F__law_draw.kp T.b__law_draw .nil pass0 (pa_cons (pv 0) (pa_cons pe_int pa_nil))) pe_int (nomark _)) (pe_dget (hu_of hr) (pv 1) (pv 4) (fun _ _ => rfl)) (pe_call (ok__law_draw T) (hr.mono (by decide)) (by rfl) T.g__law_draw T.F__law_draw.kp T.b__law_draw .nil pass0 (pa_cons (pv 0) (pa_cons pe_int pa_nil)))))
    (pss_cons (ps_if (pt_cmpR op_lt (pv 3) pe_int (nomark _))
      (pss_one (ps_ret (pe_tup (pa_cons pe_str (pa_cons (pv 4) (pa_cons (pv 5) pa_nil))))))
      pss_nil)
    (pss_cons (ps_if (pt_cmpR op_lt (pv 3) pe_int (nomark _))
      (pss_one (ps_ret (pe_tup (pa_cons pe_str (pa_cons (pv 4) (pa_cons (pv 5) pa_nil))))))
      pss_nil)
    (pss_one (ps_ret (pe_ix ix_list (pe_lst (pa_cons (pe_tup (pa_cons pe_str pa_nil)) (pa_cons (pe_tup (pa_cons pe_str pa_nil)) pa_nil))) (pe_op op_sub (pv 3) pe_int) (fun _ _ => rfl))))))))), ?_⟩
  refine ⟨_, rfl, p, l, n, 8, rfl, S0.P, by omega, by decide, log_small (by decide) (by decide), fun r1 H1 r10 r11 P1 f1 => ?_⟩
  have S1 := S0.keep (Keep.draw f1) P1
  have hN1 := S1.n1
  have hN0 := S1.n0
  refine ⟨_, rfl, _, rfl, _, rfl, nl, _, rfl, .inl (SqL.of S1.hN), p, l, n + 1, _, rfl, P1, by omega, by rw [List.length_map]; omega, log_small (by rw [List.length_map]; omega) (by rw [List.length_map]; omega), fun r2 H2 r20 r21 P2 f2 => ?_⟩
  have S2 := S1.keep (Keep.draw f2) P2
  have k2 : Keep p l H H2 := (Keep.draw f1).trans (Keep.draw f2)
  obtain ⟨x0, hx0, hm0⟩ := atI_ex (xs := N.map V.str) (r := r2) r20 r21
  obtain ⟨x, hx, rfl⟩ := List.mem_map.mp hm0
  refine ⟨nl, _, _, _, rfl, rfl, SqL.of S2.hN, hx0, ?_⟩
  dsimp only [gName, List.set]
  have hxk := S0.sub x hx
  refine ⟨_, rfl, p, l, n + 2, 2, rfl, P2.mono (by omega), by omega, by decide, log_small (by decide) (by decide), fun r3 H3 r30 r31 P3 f3 => ⟨rfl, _, rfl, ite2 (fun e => ?_) (fun e => ?_)⟩⟩
  · obtain ⟨⟨x', v⟩, hv, hxe⟩ := List.mem_map.mp (show x ∈ t.map (·.1) from hxk)
    have hxe : x' = x := hxe
    subst hxe
    have hv3 : valV (dv t) (Sum.inr x') = some (.int v) := (dv_val S0.nd (Sum.inr x', .int v) (List.mem_map_of_mem (f := fun p : Str × Int => ((Sum.inr p.1 : Key), V.int p.2)) hv)).1
    have k3 : Keep p l H2 H3 := Keep.draw f3
    have S3 := S2.keep k3 (P3.mono (show n + 2 + 1 ≤ n + 3 by omega))
    refine ⟨_, rfl, _, rfl, vd, _, rfl, .inl ⟨_, Sum.inr x', .inl S3.hv, rfl, hv3.symm⟩, ?_⟩
    have P4 := S3.P.mono (show n + 3 ≤ n + 4 by omega)
    have k4 := k2.trans k3
    dsimp only [gName, List.set]
    refine ⟨_, rfl, _, _, rfl, rfl, _, rfl, ite2 (fun e => ?_) (fun e => ?_)⟩
    · refine ⟨_, rfl, _, rfl, (by show 3 ≤ sizeLine; decide), fun e ne => ?_⟩
      exact q _ e (.log _ _) (P4.same (same_upd ne)) (k4.trans (Keep.of (same_upd ne))) (k4.free ne (P4.off ne).1 (P4.off ne).2) upd_same hxk
    · refine ⟨_, rfl, _, _, rfl, rfl, _, rfl, ite2 (fun e2 => ?_) (fun e2 => ?_)⟩
      · refine ⟨_, rfl, _, rfl, (by show 3 ≤ sizeLine; decide), fun e ne => ?_⟩
        exact q _ e (.write _ _) (P4.same (same_upd ne)) (k4.trans (Keep.of (same_upd ne))) (k4.free ne (P4.off ne).1 (P4.off ne).2) upd_same hxk
      · have e3 := of_decide_eq_false (Bool.eq_false_iff.mpr e2)
        have e3 : ¬ r1 < 6 := e3
        refine ⟨(by show 1 ≤ sizeLine; decide), fun c1 n1 => ⟨(by show 1 ≤ sizeLine; decide), fun c2 n2 => ⟨(by show 2 ≤ sizeLine; decide), fun L nL => ⟨_, rfl, _, _, rfl, rfl, ?_⟩⟩⟩⟩
        have s3 := ((same_upd (o := .tup [.str "clear"]) n1).trans (same_upd (o := .tup [.str "flush"]) n2)).trans (same_upd (o := .lst [.ref c1, .ref c2]) nL)
        have P3 := P4.same s3
        have k3 := k4.trans (Keep.of s3)
        have n10 : H c1 = none := k4.free n1 (P4.off n1).1 (P4.off n1).2
        have n20 : H c2 = none := (k4.trans (Keep.of (same_upd n1))).free n2 ((P4.same (same_upd n1)).off n2).1 ((P4.same (same_upd n1)).off n2).2
        rcases (show r1 = 6 ∨ r1 = 7 by omega) with rfl | rfl
        · exact ⟨L, _, _, _, rfl, rfl, SqL.of upd_same, atI_nat (j := 0) rfl, q _ c1 .clear P3 k3 n10 (same_upd nL _ _ (same_upd n2 _ _ upd_same)) trivial⟩
        · exact ⟨L, _, _, _, rfl, rfl, SqL.of upd_same, atI_nat (j := 1) rfl, q _ c2 .flush P3 k3 n20 (same_upd nL _ _ upd_same) trivial⟩
  · refine ⟨_, rfl, p, l, n + 3, 4, rfl, P3.mono (by omega), by omega, by decide, log_small (by decide) (by decide), fun v H3' r40 r41 P4 f4 => ?_⟩
    have k4 := (k2.trans (Keep.draw f3)).trans (Keep.draw f4)
    have P4 := P4.mono (show n + 3 + 1 ≤ n + 4 by omega)
    dsimp only [gName, List.set]
    refine ⟨_, rfl, _, _, rfl, rfl, _, rfl, ite2 (fun e => ?_) (fun e => ?_)⟩
    · refine ⟨_, rfl, _, rfl, (by show 3 ≤ sizeLine; decide), fun e ne => ?_⟩
      exact q _ e (.log _ _) (P4.same (same_upd ne)) (k4.trans (Keep.of (same_upd ne))) (k4.free ne (P4.off ne).1 (P4.off ne).2) upd_same hxk
    · refine ⟨_, rfl, _, _, rfl, rfl, _, rfl, ite2 (fun e2 => ?_) (fun e2 => ?_)⟩
      · refine ⟨_, rfl, _, rfl, (by show 3 ≤ sizeLine; decide), fun e ne => ?_⟩
        exact q _ e (.write _ _) (P4.same (same_upd ne)) (k4.trans (Keep.of (same_upd ne))) (k4.free ne (P4.off ne).1 (P4.off ne).2) upd_same hxk
      · have e3 := of_decide_eq_false (Bool.eq_false_iff.mpr e2)
        have e3 : ¬ r1 < 6 := e3
        refine ⟨(by show 1 ≤ sizeLine; decide), fun c1 n1 => ⟨(by show 1 ≤ sizeLine; decide), fun c2 n2 => ⟨(by show 2 ≤ sizeLine; decide), fun L nL => ⟨_, rfl, _, _, rfl, rfl, ?_⟩⟩⟩⟩
        have s3 := ((same_upd (o := .tup [.str "clear"]) n1).trans (same_upd (o := .tup [.str "flush"]) n2)).trans (same_upd (o := .lst [.ref c1, .ref c2]) nL)
        have P3 := P4.same s3
        have k3 := k4.trans (Keep.of s3)
        have n10 : H c1 = none := k4.free n1 (P4.off n1).1 (P4.off n1).2
        have n20 : H c2 = none := (k4.trans (Keep.of (same_upd n1))).free n2 ((P4.same (same_upd n1)).off n2).1 ((P4.same (same_upd n1)).off n2).2
        rcases (show r1 = 6 ∨ r1 = 7 by omega) with rfl | rfl
        · exact ⟨L, _, _, _, rfl, rfl, SqL.of upd_same, atI_nat (j := 0) rfl, q _ c1 .clear P3 k3 n10 (same_upd nL _ _ (same_upd n2 _ _ upd_same)) trivial⟩
        · exact ⟨L, _, _, _, rfl, rfl, SqL.of upd_same, atI_nat (j := 1) rfl, q _ c2 .flush P3 k3 n20 (same_upd nL _ _ upd_same) trivial⟩
end
end K27
namespace K27
open PySem PySem.Spec PyProof.Rows L2 TL
theorem iteN {A B : Prop} {b : Bool} (e : b = false) (h : B) : if b = true then A else B := by
  rw [e]
  exact h
theorem iteY {A B : Prop} {b : Bool} (e : b = true) (h : A) : if b = true then A else B := by
  rw [e]
  exact h
/-- all stands but a store's own object and its list of events -/
def Fr (H H' : Hp) (x q : Addr) : Prop := ∀ b o, H b = some o → b ≠ x → b ≠ q → H' b = some o
theorem Fr.trans {H H1 H2 : Hp} {x q q1 : Addr} (f : Fr H H1 x q) (o : Old H q q1) (g : Fr H1 H2 x q1) : Fr H H2 x q := fun b u e n m => by
  refine g b u (f b u e n m) n fun z => ?_
  rcases o with y | y
  · exact m (z.trans y)
  · rw [z, y] at e; cases e
theorem Fr.old {H H1 : Hp} {x q q1 q2 : Addr} {u : HO} (f : Fr H H1 x q) (o : Old H q q1) (hx : H1 x = some u) (g : Old H1 q1 q2) : Old H q q2 := by
  rcases g with y | y
  · rw [y]; exact o
  · by_cases z : q2 = q
    · exact .inl z
    · refine .inr ?_
      cases e : H q2 with
      | none => rfl
      | some v =>
        by_cases w : q2 = x
        · rw [w, hx] at y; cases y
        · rw [f _ _ e w z] at y; cases y
theorem Fr.same {H H1 H2 : Hp} {x q : Addr} (s : Same H H1) (f : Fr H1 H2 x q) : Fr H H2 x q := fun b u e n m => f b u (s _ _ e) n m
theorem Fr.new {H H1 H2 : Hp} {x q : Addr} (s : Same H H1) (nx : H x = none) (nq : H q = none) (f : Fr H1 H2 x q) : Same H H2 := fun b u e => f b u (s _ _ e) (ne_of_none e nx) (ne_of_none e nq)
theorem dlog0 : SeqAt.shaped (.list []) = true := by decide +kernel
def spRR (a : Ads) : Sp := fun vs H Q _ => ∃ (x s d r q : Addr) (T : Tb) (L : List Rc) (ks : List Str) (z : Str), vs = [.ref x, .ref s, .str z] ∧ StAt a H x d r q T L [] ∧ StT H s (T, L) ∧ KeyOk ks (T, L) ∧ (∀ z ∈ ks, isN z = true ∧ Big z) ∧ ks.Nodup ∧ z ∈ ks ∧ ks.length ≤ 16 ∧ L.length ≤ 100 ∧
  ∀ H', Same H H' → Q (.bl true) H'
section
variable {P : Program} {w : World} {K : PySem.W.Frag} {mg : Str → Option Value} {base : Heap} {a : Ads}
theorem sc__law_recovered_right : FnScope ["_law_crash", "_law_state", "_law_name", "_law_left"] ["_law_crash", "_law_state", "_law_name"] (defScope s__law_recovered_right) := ⟨rfl, rfl, rfl, by decide +kernel, rfl, by decide +kernel, by decide +kernel⟩
theorem ok__law_recovered_right (T : Txt K mg a) : FnOk P w K mg base CX0 8 a.f__law_recovered_right a.f__law_recovered_right_d ["_law_crash", "_law_state", "_law_name"] (spRR a) := by
  refine T.F__law_recovered_right.ok sc__law_recovered_right (fun vs H Q E h => ?_) (fun cdv A outer s H vs Q E hr h => ?_)
  · obtain ⟨x, s, d, r, q, t, l, ks, z, rfl, _⟩ := h
    rfl
  obtain ⟨x, st, d, r, qa, t, l, ks, z, rfl, hS, hT, hK, hg, hn, hz, hk, hl, q⟩ := h
  refine ⟨_, (pss_cons (ps_set (i := 3) sc__law_recovered_right.nd rfl (Or.inl rfl) (pe_meth0 (pv 0) T.cl_Store T.m_Store_recovered (ok_Store_recovered T) (hr.mono (by decide)) T.b_Store_recovered .nil pass0))
    (pss_cons (ps_if (PW.pt (pw_or (pt_cmpR (EqI.op_neI (hu66 hr)) (pe_meth0 (pv 3) T.cl_Store T.m_Store_current (ok_Store_current T) (hr.mono (by decide)) T.b_Store_current .nil pass0) (pe_call (ok__law_recovered T) (hr.mono (by decide)) (by rfl) T.g__law_recovered T.F__law_recovered.kp T.b__law_recovered .nil pass0 (pa_cons (pv 1) pa_nil)) (nomark _)) (pw_or (pt_cmpR (op_neD hr.units) (pe_meth0 (pv 3) T.cl_Store T.m_Store_log (ok_Store_log T) (hr.mono (by decide)) T.b_Store_log .nil pass0) (pe_lst pa_nil) (nomark _)) (pw_or1 (pt_cmpR op_ne (pe_prop (pv 3) T.cl_Store T.pp_Store_pending (ok_Store_pending T) (hr.mono (by decide)) T.b_Store_pending .nil pass0 rfl) pe_int (nomark _))))))
      (pss_one (ps_ret pe_bl))
      pss_nil)
    (pss_cons (ps_expr (pe_meth (pv 3) T.cl_Store T.m_Store_perform (ok_Store_perform T) (hr.mono (by decide)) T.b_Store_perform .nil pass0 (pa_cons (pe_tup (pa_cons pe_str (pa_cons (pv 2) (pa_cons (pe_op op_pow pe_int pe_int) pa_nil)))) pa_nil)))
    (pss_one (ps_ret (pe_and (pe_cmpR op_eq (pe_dget (hu_of hr) (pe_meth0 (pv 3) T.cl_Store T.m_Store_current (ok_Store_current T) (hr.mono (by decide)) T.b_Store_current .nil pass0) (pv 2) (fun _ _ => rfl)) (pe_op op_pow pe_int pe_int) (nomark _)) (pe_and (pe_cmpR (EqI.op_eqI (hu66 hr)) (pe_meth0 (pv 0) T.cl_Store T.m_Store_current (ok_Store_current T) (hr.mono (by decide)) T.b_Store_current .nil pass0) (pe_ix ix_tup (pv 1) pe_int (fun _ _ => rfl)) (nomark _)) (pe_one (pe_cmpR op_eq (pe_prop (pv 3) T.cl_Store T.pp_Store_pending (ok_Store_pending T) (hr.mono (by decide)) T.b_Store_pending .nil pass0 rfl) pe_int (nomark _)))))))))), ?_⟩
  have htl : t.length = ks.length := len_keys hK.1
  have hu : keysT (undo t l) = ks := KeyOk.undo (l := l.reverse) hK.1 fun r hr => hK.2 r (List.mem_reverse.mp hr)
  have hgu : GoodT (undo t l) := goodT_of hg hu
  have hul := len_keys hu
  have hnu : (keysT (undo t l)).Nodup := by rw [hu]; exact hn
  have hnt : (keysT t).Nodup := by have e : keysT t = ks := hK.1; rw [e]; exact hn
  obtain ⟨dx, hx, _⟩ := id hS
  refine ⟨_, rfl, x, dx, _, rfl, hx, rfl, x, d, r, qa, t, l, [], rfl, hS, by show _ + 0 ≤ _; omega, by show _ + 0 ≤ _; omega, hgu, fun H1 x1 d1 r1 q1 s1 nx1 nd1 nr1 nq1 S1 => ?_⟩
  have S1 : StAt a H1 x1 d1 r1 q1 (undo t l) [] [] := S1
  obtain ⟨dx1, hx1, _⟩ := id S1
  dsimp only [gName, List.set]
  refine ⟨_, rfl, x1, dx1, _, rfl, hx1, rfl, x1, d1, r1, q1, _, [], [], rfl, S1, by show _ + 0 ≤ _; omega, by decide, fun H2 d2 s2 nd2 hd2 => ?_⟩
  refine ⟨_, rfl, st, (t, l), rfl, (hT.same s1).same s2, hnt, by show t.length ≤ _; omega, by show l.length ≤ _; omega, fun H3 D s3 nD hD => ?_⟩
  have hd2 : H2 d2 = some (.dK (dv (undo t l))) := hd2
  refine ⟨d2, D, _, _, rfl, rfl, s3 _ _ hd2, hD, _, rfl, iteN (by rw [eqT_self hnu]; rfl) ?_⟩
  have s13 := s2.trans s3
  have S3 := S1.same s13
  refine ⟨_, rfl, x1, dx1, _, rfl, s13 _ _ hx1, rfl, x1, d1, r1, q1, _, [], [], rfl, S3, by show _ + 0 ≤ _; omega, by decide, fun H4 r4 s4 nr4 hr4 => ⟨(by show 0 ≤ sizeLine; decide), fun e4 ne4 => ?_⟩⟩
  obtain ⟨as4, hr4, ht4⟩ := hr4
  have has4 : as4 = [] := by
    cases as4 with
    | nil => rfl
    | cons => exact (ht4 : False).elim
  subst has4
  refine ⟨.list [], .list [], .lst (SqL.of (same_upd ne4 _ _ hr4)) .nil, .lst (SqL.of upd_same) .nil, dlog0, dlog0, ?_⟩
  refine ⟨_, rfl, iteN (by decide +kernel) ?_⟩
  have S4 := (S3.same s4).same (same_upd (o := .lst []) ne4)
  have s04 := ((s1.trans s13).trans s4).trans (same_upd (o := .lst []) ne4)
  have hx4 := (s4.trans (same_upd (o := .lst []) ne4)) _ _ (s13 _ _ hx1)
  refine ⟨_, rfl, x1, dx1, _, rfl, hx4, x1, d1, r1, q1, _, _, [], rfl, S4, rfl, _, rfl, iteN (by decide +kernel) ?_⟩
  generalize (upd H4 e4 (.lst [])) = H5 at S4 s04 hx4 ⊢
  have hzu : z ∈ keysT (undo t l) := by rw [hu]; exact hz
  refine ⟨_, rfl, x1, dx1, _, rfl, hx4, rfl, _, rfl, _, _, rfl, rfl, ⟨by decide, by decide, by decide⟩, (by show 3 ≤ sizeLine; decide), fun c nc => ?_⟩
  have sc := same_upd (o := .tup [.str "write", .str z, .int (10 ^ (8 : Int).toNat)]) nc
  refine ⟨x1, d1, r1, q1, c, _, [], [], .write z (10 ^ (8 : Int).toNat), rfl, S4.same sc, upd_same, hzu, by show _ + 0 ≤ _; omega, by decide, fun H6 d6 r6 q6 t6 l6 es6 f6 od6 or6 oq6 S6 e6 => ?_⟩
  cases e6
  have s06 : Same H H6 := Fr.new (s04.trans sc) nx1 nq1 f6
  obtain ⟨dx6, hx6, _⟩ := id S6
  refine ⟨_, rfl, x1, dx6, _, rfl, hx6, rfl, x1, d6, r6, q6, _, _, _, rfl, S6, by show _ + 1 ≤ _; omega, by show 0 + 1 ≤ _; omega, fun H7 d7 s7 nd7 hd7 => ?_⟩
  have hd7 : H7 d7 = some (.dK (dv (putT (undo t l) z (10 ^ (8 : Int).toNat)))) := hd7
  refine ⟨_, rfl, d7, _, rfl, .inl ⟨_, Sum.inr z, .inl hd7, rfl, (show some (V.int (10 ^ (8 : Int).toNat)) = _ by rw [← dv_put, valV_put, if_pos rfl])⟩, _, _, rfl, rfl, ⟨by decide, by decide, by decide⟩, rfl, _, rfl, iteY (decide_eq_true rfl) ?_⟩
  have s07 := s06.trans s7
  obtain ⟨lg, vd, hst, hv, _⟩ := hT
  refine ⟨_, rfl, x, dx, _, rfl, s07 _ _ hx, rfl, x, d, r, qa, t, l, [], rfl, hS.same s07, by show _ + 0 ≤ _; omega, by show _ + 0 ≤ _; omega, fun H8 d8 s8 nd8 hd8 => ?_⟩
  have hd8 : H8 d8 = some (.dK (dv t)) := hd8
  have s08 := s07.trans s8
  refine ⟨_, rfl, st, _, _, _, rfl, rfl, SqT.of (s08 _ _ hst), atI_nat (j := 0) rfl, d8, vd, _, _, rfl, rfl, hd8, s08 _ _ hv, _, rfl, iteY (eqT_self hnt) ?_⟩
  refine ⟨_, rfl, x1, dx6, _, rfl, (s7.trans s8) _ _ hx6, x1, d6, r6, q6, _, _, _, rfl, (S6.same s7).same s8, rfl, ?_⟩
  exact q _ s08
end
end K27
namespace K27
open PySem PySem.Spec PyProof.Rows L2 TL
/-- the dicts of stores' current values -/
def DcAt (H : Hp) (cs : List Addr) (xs : List Sta) (n : Nat) : Prop := cs.length = n ∧ ∀ (k : Nat) (c : Addr) (x : Sta), cs[k]? = some c → xs[k]? = some x → H c = some (.dK (dv x.1))
theorem crs_at {s : Sta} {ps : List Ev} {j : Nat} (h : j < 2 ^ ps.length) : (crs s ps)[j]? = some (runE s (chs 0 j ps)) := by
  rw [crs_eq, List.getElem?_map, List.getElem?_range h]; rfl
theorem DcAt.same {H H' : Hp} (k : Same H H') {cs : List Addr} {xs : List Sta} {n : Nat} (h : DcAt H cs xs n) : DcAt H' cs xs n := ⟨h.1, fun i c x h1 h2 => k _ _ (h.2 i c x h1 h2)⟩
theorem DcAt.snoc {H : Hp} {D c : Addr} {cs : List Addr} {xs : List Sta} {j : Nat} {y : Sta} {us vs : List V} (h : DcAt H cs xs j) (hy : xs[j]? = some y) (hc : H c = some (.dK (dv y.1))) (hD : H D = some (.lst us)) : DcAt (upd H D (.lst vs)) (cs ++ [c]) xs (j + 1) := by
  refine ⟨by rw [List.length_append, h.1]; rfl, fun k b x h1 h2 => ?_⟩
  rw [List.getElem?_append] at h1
  split at h1
  · have z := h.2 k b x h1 h2
    rw [upd_ne (ne_of z hD (by intro y; cases y))]; exact z
  · rename_i hk
    have e : k = j := by
      obtain ⟨y, _⟩ := List.getElem?_eq_some_iff.mp h1
      rw [List.length_singleton] at y
      have := h.1
      omega
    subst e
    rw [h.1, Nat.sub_self] at h1
    cases h1
    rw [hy] at h2
    cases h2
    rw [upd_ne (ne_of hc hD (by intro y; cases y))]; exact hc
theorem DcAt.pair {K : PySem.W.Frag} {H : Hp} {cs ds : List Addr} {xs : List Sta} {n : Nat} (h : DcAt H cs xs n) (g : DcAt H ds xs n) (hl : xs.length = n) (hn : ∀ x ∈ xs, (keysT x.1).Nodup) : Paired (EqV K H 2) (cs.map V.ref) (ds.map V.ref) := by
  refine paired_of _ _ (by rw [List.length_map, List.length_map, h.1, g.1]) fun i x y h1 h2 => ?_
  obtain ⟨c, hc, rfl⟩ := get_map h1
  obtain ⟨d, hd, rfl⟩ := get_map h2
  have hi : i < xs.length := by
    obtain ⟨z, _⟩ := List.getElem?_eq_some_iff.mp hc
    have := h.1
    omega
  have hx : xs[i]? = some xs[i] := List.getElem?_eq_getElem hi
  exact eqv_dv (hn _ (List.getElem_mem hi)) (h.2 i c _ hc hx) (g.2 i d _ hd hx)
def spPR (a : Ads) : Sp := fun vs H Q _ => ∃ (x vd q0 d r qa : Addr) (m : Int) (t : Tb) (es : List Ev), vs = [.ref x, .ref vd, .ref q0, .int m] ∧ StAt a H x d r qa t [] [] ∧ H vd = some (.dK (dv t)) ∧ LstAt evV H q0 es ∧ q0 ≠ qa ∧ (∀ z ∈ keysT t, isN z = true ∧ Big z) ∧ (keysT t).Nodup ∧ (∀ e ∈ es, evOk (keysT t) e) ∧ t.length ≤ 16 ∧ es.length ≤ 30 ∧ (∀ k, (runS t (es.take k)).2.length ≤ 8) ∧
  ∀ H' d' r' q', Fr H H' x qa → Old H qa q' → StAt a H' x d' r' q' (runS t es).1.1 (runS t es).1.2 (runS t es).2 → Q (.bl true) H'
section
variable {P : Program} {w : World} {K : PySem.W.Frag} {mg : Str → Option Value} {base : Heap} {a : Ads}
theorem sc__law_performed_right : FnScope ["_law_store", "_law_values", "_law_events", "_law_middle", "_law_k", "_law_states", "_law_one", "_law_state"] ["_law_store", "_law_values", "_law_events", "_law_middle"] (defScope s__law_performed_right) := ⟨rfl, rfl, rfl, by decide +kernel, rfl, by decide +kernel, by decide +kernel⟩
theorem ok__law_performed_right (T : Txt K mg a) : FnOk P w K mg base CX0 10 a.f__law_performed_right a.f__law_performed_right_d ["_law_store", "_law_values", "_law_events", "_law_middle"] (spPR a) := by
  refine T.F__law_performed_right.ok sc__law_performed_right (fun vs H Q E h => ?_) (fun cdv A outer s H vs Q E hr h => ?_)
  · obtain ⟨x, vd, q0, d, r, qa, m, t, es, rfl, _⟩ := h
    rfl
  obtain ⟨x, vd, q0, d, r, qa, m, t, es, rfl, hS, hv, ⟨bs, hq, hT⟩, nqa, hg, hn, he, htl, hel, hp, q⟩ := h
  refine ⟨_, (pss_cons (ps_for PassesOwn.never rfl (pi_range1 (by rfl) T.range (pa_cons (pe_callB call_len_seq (by rfl) T.len PySem.boot_len (pa_cons (pv 2) pa_nil)) pa_nil)) (pg_name (i := 4) sc__law_performed_right.nd rfl (Or.inl rfl))
      (pss_cons (ps_if (pt_cmpR op_notN (pe_meth (pv 0) T.cl_Store T.m_Store_perform (ok_Store_perform T) (hr.mono (by decide)) T.b_Store_perform .nil pass0 (pa_cons (pe_ix ix_list (pv 2) (pv 4) (fun _ _ => rfl)) pa_nil)) pe_non (nomark _))
        (pss_one (ps_ret pe_bl))
        pss_nil)
      (pss_one (ps_if (pt_cmpR op_eq (pv 4) (pv 3) (nomark _))
        (pss_cons (ps_set (i := 5) sc__law_performed_right.nd rfl (Or.inl rfl) (pe_call (ok__law_crashes T) (hr.mono (by decide)) (by rfl) T.g__law_crashes T.F__law_crashes.kp T.b__law_crashes .nil pass0 (pa_cons (pv 1) (pa_cons (pe_slice sl_list (pv 2) po_none (po_some (pe_op op_add (pv 4) pe_int))) pa_nil))))
        (pss_one (ps_if (pt_cmpR (NeL.op_neV hr.units) (GnW.pe_lcG (own := [("_law_one", 6)]) (g := gName 6) (tt := tYes) (by rfl) sc__law_performed_right.nd (hr.mono (by decide)) (GnW.pgn_meth0 (pv 0) T.cl_Store T.m_Store_crashes (ok_Store_crashes T) (hr.mono (by decide)) T.b_Store_crashes .nil) (blkOk_by (own := [("_law_one", 6)]) (N := ["_law_store", "_law_values", "_law_events", "_law_middle", "_law_k", "_law_states", "_law_one", "_law_state"]) (sc := defScope s__law_performed_right) (by decide +kernel)) (fun _ _ _ _ _ => pg_name (i := 6) sc__law_performed_right.nd rfl (Or.inl rfl)) (fun _ _ _ _ _ => pts_nil) (fun _ _ _ _ _ => (pe_meth0 (pv 6) T.cl_Store T.m_Store_current (ok_Store_current T) (hr.mono (by decide)) T.b_Store_current .nil pass0))) (pe_lc (own := [("_law_state", 7)]) (g := gName 7) (tt := tYes) (by rfl) sc__law_performed_right.nd (pi_list (pv 5)) (blkOk_by (own := [("_law_state", 7)]) (N := ["_law_store", "_law_values", "_law_events", "_law_middle", "_law_k", "_law_states", "_law_one", "_law_state"]) (sc := defScope s__law_performed_right) (by decide +kernel)) (fun _ _ _ _ _ => pg_name (i := 7) sc__law_performed_right.nd rfl (Or.inl rfl)) (fun _ _ _ _ _ => pts_nil) (fun _ _ _ _ _ => (pe_ix (show IxR _ (rIxT K) from ix_tup) (pv 7) pe_int (fun _ _ => rfl)))) (nomark _))
          (pss_one (ps_ret pe_bl))
          pss_nil)))
        pss_nil))))
    (pss_one (ps_ret pe_bl))), ?_⟩
  have hbl : (bs.map V.ref).length = es.length := by rw [List.length_map, hT.len]
  have hkl2 : (keysT t).length = t.length := List.length_map _
  obtain ⟨dx, hx, hrq0, hd0, hR0, as0, hqa0, _⟩ := id hS
  have kq : ∀ {H' : Hp}, Fr H H' x qa → H' q0 = some (.lst (bs.map V.ref)) := fun {H'} f => f _ _ hq (ne_of hq hx (by intro z; cases z)) nqa
  have kt : ∀ {H' : Hp}, Fr H H' x qa → ∀ b xs, H b = some (.tup xs) → H' b = some (.tup xs) := fun {H'} f b xs e => f _ _ e (ne_of e hx (by intro z; cases z)) (ne_of e hqa0 (by intro z; cases z))
  have kv : ∀ {H' : Hp}, Fr H H' x qa → H' vd = some (.dK (dv t)) := fun {H'} f => f _ _ hv (ne_of hv hx (by intro z; cases z)) (ne_of hv hqa0 (by intro z; cases z))
  refine ⟨_, rfl, q0, _, rfl, .inl (SqL.of hq), _, rfl, by omega, by rw [hbl]; omega, ?_⟩
  rw [hbl, show ((es.length : Nat) : Int).toNat = es.length from Int.toNat_natCast _]
  refine for_range (lo := 0) (n := es.length) (fun i σ H' => ∃ (d' r' q' : Addr) (v4 v5 v6 v7 : Option V), σ = [some (.ref x), some (.ref vd), some (.ref q0), some (.int m), v4, v5, v6, v7] ∧ Fr H H' x qa ∧ Old H qa q' ∧ StAt a H' x d' r' q' (runS t (es.take i)).1.1 (runS t (es.take i)).1.2 (runS t (es.take i)).2)
    ⟨d, r, qa, _, _, _, _, rfl, fun b o e _ _ => e, .inl rfl, hS⟩ ?_ ?_
  · rintro i σ H4 hi ⟨d', r', q', v4, v5, v6, v7, rfl, f4, o4, S4⟩
    have hev : es[i]? = some es[i] := List.getElem?_eq_getElem hi
    generalize es[i] = ev at hev
    obtain ⟨e, he1, hE⟩ := hT.get2 hev
    have K4 := sOk he i (by omega)
    have K5 := sOk he (i + 1) (by omega)
    have hp5 := hp (i + 1)
    have e5 := runS_succ (t := t) hev
    have hevk : evOk (keysT t) ev := he _ (List.mem_of_getElem? hev)
    have hkl := len_keys K4.key.1
    have l4 := K4.len
    obtain ⟨dx4, hx4, _⟩ := id S4
    rw [Int.zero_add]
    dsimp only [gName, List.set]
    refine ⟨_, rfl, x, dx4, _, rfl, hx4, rfl, _, rfl, _, rfl, q0, _, _, _, rfl, rfl, SqL.of (kq f4), atI_nat (j := i) (by rw [List.getElem?_map, he1]; rfl), x, d', r', q', e, _, _, _, ev, rfl, S4, kt f4 _ _ hE, by rw [K4.key.1]; exact hevk, by omega, by omega, fun H6 d6 r6 q6 t6 l6 es6 k6 od6 or6 oq6 S6 e6 => ?_⟩
    have f6 : Fr H H6 x qa := f4.trans o4 k6
    have o6 : Old H qa q6 := Fr.old f4 o4 hx4 oq6
    have E6 : ((t6, l6), es6) = runS t (es.take (i + 1)) := by
      rw [e5]
      cases ev with
      | flush => cases e6; rfl
      | _ => cases e6; rfl
    have S6' : StAt a H6 x d6 r6 q6 (runS t (es.take (i + 1))).1.1 (runS t (es.take (i + 1))).1.2 (runS t (es.take (i + 1))).2 := by rw [← E6]; exact S6
    refine ⟨rfl, _, rfl, iteN (by decide +kernel) ?_⟩
    refine ⟨_, rfl, _, rfl, rfl, _, rfl, ite2 (fun e7 => ?_) (fun e7 => ⟨d6, r6, q6, _, _, _, _, rfl, f6, o6, S6'⟩)⟩
    refine ⟨_, rfl, _, rfl, _, rfl, _, _, rfl, rfl, _, rfl, q0, _, rfl, SqL.of (kq f6), fun q1 nq1 => ?_⟩
    rw [show ((i : Int) + 1) = ((i + 1 : Nat) : Int) from rfl, cut_take, ← List.map_take]
    have s7 := same_upd (o := .lst ((bs.take (i + 1)).map V.ref)) nq1
    refine ⟨vd, q1, t, es.take (i + 1), rfl, s7 _ _ (kv f6), ⟨bs.take (i + 1), upd_same, (TupsAt.imp (fun b xs e => s7 _ _ (kt f6 b xs e)) hT).take (i + 1)⟩, hn, fun e m => he e (List.mem_of_mem_take m), htl, by rw [List.length_take]; omega, fun k => by rw [List.take_take]; exact hp _, fun H7 q7 as s67 hq7 hSts => ?_⟩
    have s68 := s7.trans s67
    rw [← E6] at K5 hp5 hSts
    have hSts : Sts H7 as (crs (t6, l6) es6) := hSts
    have hp8 : es6.length ≤ 8 := hp5
    have l5 : l6.length + es6.length ≤ i + 1 := K5.len
    have hk6 := len_keys K5.key.1
    have hk6 : t6.length = (keysT t).length := hk6
    have h2 : 2 ^ es6.length ≤ 2 ^ 8 := Nat.pow_le_pow_right (by decide) hp8
    have hcl : (crs (t6, l6) es6).length = 2 ^ es6.length := crs_len _ _
    have S7 := S6.same s68
    obtain ⟨dx7, hx7, _⟩ := id S7
    dsimp only [gName, List.set]
    refine ⟨_, rfl, x, dx7, _, rfl, hx7, rfl, x, d6, r6, q6, t6, l6, es6, keysT t, rfl, by omega, by omega, by omega, K5.key, K5.ev, hg, fun D nD => ?_⟩
    refine GnW.lcg_it (n := 2 ^ es6.length) (fun j H8 => Same H7 H8 ∧ ∃ cs : List Addr, H8 D = some (.lst (cs.map V.ref)) ∧ DcAt H8 cs (crs (t6, l6) es6) j)
      ⟨same_upd nD, [], upd_same, rfl, fun k c x z => by cases z⟩ (fun j H8 hj z => ?_) (fun j H8 H9 hj z hf => ?_) ?_
    · have S8 := S7.same z.1
      rcases Nat.lt_or_ge j (2 ^ es6.length) with y | y
      · exact .inl ⟨y, S8⟩
      · exact .inr ⟨Nat.le_antisymm hj y, S8⟩
    · obtain ⟨rfl, rfl⟩ := hf
      obtain ⟨s8, cs, hD8, hdc⟩ := z
      have hq8 := s8 _ _ hq7
      have hSts8 := hSts.same s8
      refine ⟨_, rfl, q7, rfl, ⟨_, SqL.of hq8⟩, fun D2 nD2 => ?_⟩
      refine lc_it (walk_list (K := K) (a := q7) (xs := as.map V.ref)) (fun k HA => Same H9 HA ∧ ∃ ds : List Addr, HA D2 = some (.lst (ds.map V.ref)) ∧ DcAt HA ds (crs (t6, l6) es6) k) ⟨same_upd nD2, [], upd_same, rfl, fun k c x z => by cases z⟩ (fun k HA _ z => SqL.of (z.1 _ _ hq8)) ?_ ?_
      · rintro k v HA HB hk ⟨sA, ds, hDA, hdA⟩ ⟨rfl, hv'⟩
        obtain ⟨b, hb1, rfl⟩ := get_map hv'
        rw [List.length_map] at hk
        have hkx : (crs (t6, l6) es6)[k]? = some ((crs (t6, l6) es6)[k]'(by rw [← hSts.1]; exact hk)) := List.getElem?_eq_getElem _
        generalize (crs (t6, l6) es6)[k]'(by rw [← hSts.1]; exact hk) = y at hkx
        obtain ⟨lg, vd', hb, hvd', _⟩ := (hSts8.same sA).2 k b y hb1 hkx
        have e8 := hSts.1
        refine ⟨rfl, _, rfl, b, _, _, _, rfl, rfl, SqT.of hb, atI_nat (j := 0) rfl, _, hDA, ?_, same_mut sA nD2, ds ++ [vd'], by rw [upd_same, List.map_append]; rfl, hdA.snoc hkx hvd' hDA⟩
        rw [List.length_map, hdA.1]
        exact bigLine (by omega)
      · rintro HA ⟨sA, ds, hDA, hdA⟩
        rw [List.length_map, hSts.1, hcl] at hdA
        have hnd : ∀ y ∈ crs (t6, l6) es6, (keysT y.1).Nodup := fun y hy => by
          have z := (crs_key K5 y hy).1.1
          rw [z]; exact hn
        refine ⟨2, D, D2, _, _, by decide, rfl, rfl, SqL.of (sA _ _ hD8), SqL.of hDA, (hdc.same sA).pair hdA hcl hnd, _, rfl, iteF ?_⟩
        have sF := (s68.trans s8).trans sA
        exact ⟨d6, r6, q6, _, _, _, _, rfl, fun b o e n m => sF _ _ (f6 b o e n m), o6, S6'.same sF⟩
    · rintro j v H8 H9 hj ⟨s8, cs, hD8, hdc⟩ ⟨hlt, s9, x', d', r', qn, rfl, nx', nd', nr', nqn, S9⟩
      refine ⟨hlt, ?_⟩
      have hrun := K5.key.run (es := chs 0 j es6) fun e m => K5.ev e (chs_mem j es6 0 e m)
      have tl := len_keys hrun.1
      have ll := runE_log (chs 0 j es6) (t6, l6)
      have cl := chs_len j es6 0
      have e0 : (t6, l6).2.length = l6.length := rfl
      obtain ⟨dx9, hx9, _⟩ := id S9
      refine ⟨rfl, _, rfl, x', dx9, _, rfl, hx9, rfl, x', d', r', qn, _, _, [], rfl, S9, ?_, ?_, fun HA dA sA ndA hdA => ?_⟩
      · exact Nat.le_trans (Nat.le_of_eq tl) (by omega)
      · exact Nat.le_trans ll (by show l6.length + (chs 0 j es6).length ≤ 1000; omega)
      have s9A := s9.trans sA
      refine ⟨_, s9A _ _ hD8, ?_, trivial, same_mut (s8.trans s9A) nD, cs ++ [dA], by rw [upd_same, List.map_append]; rfl, (hdc.same s9A).snoc (crs_at hlt) hdA (s9A _ _ hD8)⟩
      rw [List.length_map, hdc.1]
      exact bigLine (by omega)
  · rintro σ H4 ⟨d', r', q', v4, v5, v6, v7, rfl, f4, o4, S4⟩
    rw [List.take_length] at S4
    refine (?_ : Q (.bl true) H4)
    exact q _ d' r' q' f4 o4 S4
end
end K27
namespace K27
open PySem PySem.Spec PyProof.Rows L2 TL
def Good (z : Str) : Prop := isN z = true ∧ Big z ∧ PyData.strOk z = true
theorem names_all : ((tl LET).all fun c => (List.range 16).all fun m => isN ((⟨#[c]⟩ : Str) ++ numT ((m : Nat) : Int)) && (decide (((⟨#[c]⟩ : Str) ++ numT ((m : Nat) : Int)).length ≤ 10) && PyData.strOk ((⟨#[c]⟩ : Str) ++ numT ((m : Nat) : Int)))) = true := by decide +kernel
theorem name_good {c : Nat} {s : Int} {k : Nat} (hc : c ∈ tl LET) : Good (nameL c s k) := by
  have h := List.all_eq_true.mp names_all c hc
  have h0 : 0 ≤ (7 * ((0 : Int) + (k : Int)) + s) % 16 := Int.emod_nonneg _ (by decide)
  have h1 : (7 * ((0 : Int) + (k : Int)) + s) % 16 < 16 := Int.emod_lt_of_pos _ (by decide)
  obtain ⟨m, hm⟩ : ∃ m : Nat, (7 * ((0 : Int) + (k : Int)) + s) % 16 = (m : Int) := ⟨((7 * ((0 : Int) + (k : Int)) + s) % 16).toNat, by omega⟩
  have h2 := List.all_eq_true.mp h m (List.mem_range.mpr (by omega))
  unfold nameL
  rw [hm]
  rw [Bool.and_eq_true, Bool.and_eq_true] at h2
  exact ⟨h2.1, Nat.le_trans (of_decide_eq_true h2.2.1) (by decide), h2.2.2⟩
def dLog (l : List Rc) : PyData := .list (l.map fun r => .tuple [.str r.1, .int r.2])
theorem dp_logs {K : PySem.W.Frag} {H : Hp} : ∀ {as : List Addr} {l : List Rc}, TupsAt rcV H as l → DpAll K H (as.map V.ref) (l.map fun r => PyData.tuple [.str r.1, .int r.2])
  | [], [], _ => .nil
  | _ :: _, _ :: _, h => .cons (.tup (SqT.of h.1) (.cons (.str _) (.cons (.int _) .nil))) (dp_logs h.2)
  | [], _ :: _, h => h.elim
  | _ :: _, [], h => h.elim
theorem dp_log {K : PySem.W.Frag} {H : Hp} {q : Addr} {l : List Rc} (h : LstAt rcV H q l) : Dp K H (.ref q) (dLog l) := by
  obtain ⟨as, e, t⟩ := h
  exact .lst (SqL.of e) (dp_logs t)
def OkL (l : List Rc) : Prop := ∀ r ∈ l, PyData.strOk r.1 = true
theorem lay_logs : ∀ l : List Rc, OkL l → PyData.canLayAll0 (l.map fun r => PyData.tuple [.str r.1, .int r.2]) = true
  | [], _ => by simp only [List.map_nil, PyData.canLayAll0]
  | x :: xs, h => by simp only [List.map_cons, PyData.canLayAll0, PyData.canLay0, lay_logs xs (fun r m => h r (List.mem_cons_of_mem _ m)), h x (List.mem_cons_self ..), Bool.and_self]
theorem depth_logs : ∀ l : List Rc, PyData.depthAll (l.map fun r => PyData.tuple [.str r.1, .int r.2]) ≤ 1
  | [] => by simp only [List.map_nil, PyData.depthAll]; omega
  | x :: xs => by
    have := depth_logs xs
    simp only [List.map_cons, PyData.depthAll, PyData.depth]
    omega
theorem shaped_log (l : List Rc) (ok : OkL l) : SeqAt.shaped (dLog l) = true := by
  unfold SeqAt.shaped dLog
  have h := depth_logs l
  have h2 : PyData.depth (.list (l.map fun r => PyData.tuple [.str r.1, .int r.2])) ≤ 64 := by simp only [PyData.depth]; omega
  rw [decide_eq_true h2, Bool.and_true]
  simp only [PyData.canLay0]
  exact lay_logs l ok
theorem eqv_log (l : List Rc) (ok : OkL l) : PyData.eqv (dLog l) (dLog l) = true := SeqAt.eqv_refl _ (SeqAt.canLay_of_shaped (shaped_log l ok))
theorem mid {A R : TS} {D : Ends} {σ : L2.St} {H : Hp} (M : L2.St → Hp → Prop) (h2 : ∀ σ H, M σ H → R D σ H) (h1 : (∀ σ H, M σ H → R D σ H) → tSeq A R D σ H) : tSeq A R D σ H := h1 h2
/-- events at hand: at most six behind the last flush -/
structure Wf (t : Tb) (i pd : Nat) (f : List Ev) : Prop where
  ok : ∀ e ∈ f, evOk (keysT t) e
  len : f.length ≤ i
  pd6 : pd ≤ 6
  pe : (runS t f).2.length = pd
  all : ∀ k, (runS t (f.take k)).2.length ≤ 6
theorem Wf.more {t : Tb} {i pd : Nat} {f : List Ev} (h : Wf t i pd f) (e : Ev) (he : evOk (keysT t) e) (h5 : pd < 6 ∨ isFl e = true) {m : Nat} (hm : m = if isFl e then 0 else pd + 1) : Wf t (i + 1) m (f ++ [e]) := by
  have hp : (runS t (f ++ [e])).2.length = m := by
    rw [runS_snoc, stepS_len, h.pe, hm]
  have hm5 : m ≤ 6 := by
    rw [hm]
    split
    · omega
    · rcases h5 with z | z
      · omega
      · rename_i y
        exact absurd z y
  refine ⟨fun x hx => ?_, by rw [List.length_append, List.length_singleton]; have := h.len; omega, hm5, hp, fun k => ?_⟩
  · rcases List.mem_append.mp hx with z | z
    · exact h.ok x z
    · rw [List.mem_singleton.mp z]; exact he
  · rcases take_snoc_or f e k with z | z
    · rw [z]; exact h.all k
    · rw [z, hp]; exact hm5
theorem wf0 (t : Tb) : Wf t 0 0 [] := ⟨fun e z => (nomatch z), Nat.le_refl _, by decide, rfl, fun k => by rw [List.take_nil]; exact Nat.zero_le _⟩
theorem StAt.put {a : Ads} {H H' : Hp} {x d r q : Addr} {t : Tb} {l : List Rc} {es : List Ev} (h : StAt a H x d r q t l es) (kx : ∀ o, H x = some o → H' x = some o) (kd : ∀ o, H d = some o → H' d = some o) (kr : ∀ o, H r = some o → H' r = some o) (kq : ∀ o, H q = some o → H' q = some o) (kt : ∀ b xs, H b = some (.tup xs) → H' b = some (.tup xs)) : StAt a H' x d r q t l es := by
  obtain ⟨dx, h1, h0, h2, ⟨as, h3, h4⟩, bs, h5, h6⟩ := h
  exact ⟨dx, kx _ h1, h0, kd _ h2, ⟨as, kr _ h3, h4.imp kt⟩, bs, kq _ h5, h6.imp kt⟩
theorem StAt.kinds {a : Ads} {H : Hp} {x d r q : Addr} {t : Tb} {l : List Rc} {es : List Ev} (h : StAt a H x d r q t l es) : (∃ dx fs, H x = some (.ins a.c_Store dx fs)) ∧ (∃ k, H d = some (.dK k)) ∧ (∃ xs, H r = some (.lst xs)) ∧ (∃ xs, H q = some (.lst xs)) := by
  obtain ⟨dx, h1, h0, h2, ⟨as, h3, h4⟩, bs, h5, h6⟩ := h
  exact ⟨⟨_, _, h1⟩, ⟨_, h2⟩, ⟨_, h3⟩, ⟨_, h5⟩⟩
theorem StAt.keep {a : Ads} {H H' : Hp} {p l x d r q : Addr} {n : Int} {t : Tb} {lo : List Rc} {es : List Ev} (h : StAt a H x d r q t lo es) (P : PoolAt H p l n) (k : Keep p l H H') (rp : r ≠ p) (rl : r ≠ l) (qp : q ≠ p) (ql : q ≠ l) : StAt a H' x d r q t lo es := by
  obtain ⟨⟨dx, fs, hx⟩, ⟨kd, hd⟩, _⟩ := h.kinds
  exact h.put (fun o e => by rw [hx] at e; cases e; exact k.no P hx (by intro _ z; cases z)) (fun o e => by rw [hd] at e; cases e; exact k.no P hd (by intro _ z; cases z)) (fun o e => k _ _ e rp rl) (fun o e => k _ _ e qp ql) (fun b xs e => k.no P e (by intro _ z; cases z))
theorem StAt.off {a : Ads} {H : Hp} {x d r q D : Addr} {us vs : List V} {t : Tb} {lo : List Rc} {es : List Ev} (h : StAt a H x d r q t lo es) (hD : H D = some (.lst us)) (nr : r ≠ D) (nq : q ≠ D) : StAt a (upd H D (.lst vs)) x d r q t lo es := by
  obtain ⟨⟨dx, fs, hx⟩, ⟨kd, hd⟩, _⟩ := h.kinds
  exact h.put (fun o e => by rw [upd_ne (ne_of hx hD (by intro z; cases z))]; exact e) (fun o e => by rw [upd_ne (ne_of hd hD (by intro z; cases z))]; exact e) (fun o e => by rw [upd_ne nr]; exact e) (fun o e => by rw [upd_ne nq]; exact e) (tup_off hD (by intro xs z; cases z))
theorem StAt.fr {a : Ads} {H H' : Hp} {x d r q x' d' r' q' : Addr} {t t' : Tb} {lo lo' : List Rc} {es es' : List Ev} (h : StAt a H x' d' r' q' t' lo' es') (g : StAt a H x d r q t lo es) (f : Fr H H' x q) (nx : x' ≠ x) (nr : r' ≠ q) (nq : q' ≠ q) : StAt a H' x' d' r' q' t' lo' es' := by
  obtain ⟨⟨dx, fs, hx⟩, _, _, ⟨ys, hq⟩⟩ := g.kinds
  obtain ⟨⟨dx', fs', hx'⟩, ⟨kd, hd⟩, ⟨us, hr⟩, ⟨ws, hq'⟩⟩ := h.kinds
  exact h.put (fun o e => f _ _ e nx (ne_of hx' hq (by intro z; cases z))) (fun o e => f _ _ e (ne_of hd hx (by intro z; cases z)) (ne_of hd hq (by intro z; cases z))) (fun o e => f _ _ e (ne_of hr hx (by intro z; cases z)) nr) (fun o e => f _ _ e (ne_of hq' hx (by intro z; cases z)) nq)
    (fun b xs e => f _ _ e (ne_of e hx (by intro z; cases z)) (ne_of e hq (by intro z; cases z)))
theorem Fr.go {H H1 H2 : Hp} {x q : Addr} (f : Fr H H1 x q) (s : Same H1 H2) : Fr H H2 x q := fun b o e n m => s _ _ (f b o e n m)
abbrev Qd := Addr × Addr × Addr × Addr
/-- stores told, each on its own -/
structure Told (a : Ads) (H6 H : Hp) (D : Addr) (xs : List Sta) (j : Nat) (qs : List Qd) : Prop where
  len : qs.length = j
  st : ∀ (k : Nat) (s : Qd) (y : Sta), qs[k]? = some s → xs[k]? = some y → StAt a H s.1 s.2.1 s.2.2.1 s.2.2.2 y.1 y.2 []
  new : ∀ (k : Nat) (s : Qd), qs[k]? = some s → H6 s.1 = none ∧ H6 s.2.2.2 = none ∧ s.2.2.2 ≠ D ∧ s.2.2.1 ≠ D
  sep : ∀ (i j : Nat) (s u : Qd), i < j → qs[i]? = some s → qs[j]? = some u → s.1 ≠ u.1 ∧ s.2.2.2 ≠ u.2.2.2 ∧ s.2.2.2 ≠ u.2.2.1
theorem Told.snoc {a : Ads} {H6 H7 H8 : Hp} {D : Addr} {xs : List Sta} {j : Nat} {qs : List Qd} (h : Told a H6 H7 D xs j qs) (s6 : Same H6 H7) (s8 : Same H7 H8) {x d r q : Addr} {y : Sta} (hy : xs[j]? = some y) (nx : H7 x = none) (nr : H7 r = none) (nq : H7 q = none)
    (S : StAt a H8 x d r q y.1 y.2 []) {us vs : List V} (hD : H7 D = some (.lst us)) (hj : j < xs.length) : Told a H6 (upd H8 D (.lst vs)) D xs (j + 1) (qs ++ [(x, d, r, q)]) := by
  have hqD : q ≠ D := fun z => by rw [z, hD] at nq; cases nq
  have hrD : r ≠ D := fun z => by rw [z, hD] at nr; cases nr
  have cut : ∀ (k : Nat) (s : Qd), (qs ++ [(x, d, r, q)])[k]? = some s → (qs[k]? = some s ∧ k < j) ∨ (k = j ∧ s = (x, d, r, q)) := fun k s e => by
    rw [List.getElem?_append] at e
    split at e
    · rename_i z
      exact .inl ⟨e, by have := h.len; omega⟩
    · rename_i z
      have e2 : k = j := by
        obtain ⟨y, _⟩ := List.getElem?_eq_some_iff.mp e
        rw [List.length_singleton] at y
        have := h.len
        omega
      subst e2
      rw [h.len, Nat.sub_self] at e
      cases e
      exact .inr ⟨rfl, rfl⟩
  refine ⟨by rw [List.length_append, h.len]; rfl, fun k s z h1 h2 => ?_, fun k s h1 => ?_, fun i k s u hik h1 h2 => ?_⟩
  · rcases cut k s h1 with ⟨e, _⟩ | ⟨rfl, rfl⟩
    · have n := h.new k s e
      exact ((h.st k s z e h2).same s8).off (s8 _ _ hD) n.2.2.2 n.2.2.1
    · rw [hy] at h2
      cases h2
      exact S.off (s8 _ _ hD) hrD hqD
  · rcases cut k s h1 with ⟨e, _⟩ | ⟨rfl, rfl⟩
    · exact h.new k s e
    · exact ⟨s6.free nx, s6.free nq, hqD, hrD⟩
  · rcases cut k u h2 with ⟨e2, _⟩ | ⟨rfl, rfl⟩
    · rcases cut i s h1 with ⟨e1, _⟩ | ⟨rfl, _⟩
      · exact h.sep i k s u hik e1 e2
      · omega
    · rcases cut i s h1 with ⟨e1, hi⟩ | ⟨rfl, _⟩
      · have hxi : xs[i]? = some (xs[i]'(by omega)) := List.getElem?_eq_getElem _
        obtain ⟨⟨dx, fs, hx⟩, _, _, ⟨ws, hq⟩⟩ := (h.st i s _ e1 hxi).kinds
        exact ⟨ne_of_none hx nx, ne_of_none hq nq, ne_of_none hq nr⟩
      · omega
def spLaw (K : PySem.W.Frag) : Sp := fun vs H Q _ => ∃ (a : Addr) (ns : List Int), vs = [.ref a] ∧ SqL K H a (ns.map V.int) ∧ ns.length ≤ 63 ∧ ∀ H', Q (.bl true) H'
end K27
namespace K27
open PySem PySem.Spec PyProof.Rows L2 TL
theorem told0 {a : Ads} {H6 H : Hp} {D : Addr} {xs : List Sta} : Told a H6 H D xs 0 [] := ⟨rfl, fun k s y z => (by cases z), fun k s z => (by cases z), fun i j s u h z => (by cases z)⟩
section
variable {P : Program} {w : World} {K : PySem.W.Frag} {mg : Str → Option Value} {base : Heap} {a : Ads}
theorem sc_law : FnScope ["_law_script", "_law_pool_here", "_law_names_here", "_law_values", "_law_name", "_law_events", "_law_pending", "_law_k", "_law_store", "_law_due", "_law_told", "_law_event_here", "_law_one", "_law_state"] ["_law_script"] (defScope s_law) := ⟨rfl, rfl, rfl, by decide +kernel, rfl, by decide +kernel, by decide +kernel⟩
theorem ok_law (T : Txt K mg a) : FnOk P w K mg base CX0 12 a.f_law a.f_law_d ["_law_script"] (spLaw K) := by
  refine T.F_law.ok sc_law (fun vs H Q E h => ?_) (fun cdv A outer s H vs Q E hr h => ?_)
  · obtain ⟨p, ns, rfl, _⟩ := h
    rfl
  obtain ⟨scr, zs, rfl, hS, hlen, q⟩ := h
  refine ⟨_, (pss_cons (ps_set (i := 1) sc_law.nd rfl (Or.inl rfl) (pe_call (ok__law_pool T) (hr.mono (by decide)) (by rfl) T.g__law_pool T.F__law_pool.kp T.b__law_pool .nil pass0 (pa_cons (pv 0) pa_nil)))
    (pss_cons (ps_set (i := 2) sc_law.nd rfl (Or.inl rfl) (pe_slice sl_list (pe_call (ok__law_names T) (hr.mono (by decide)) (by rfl) T.g__law_names T.F__law_names.kp T.b__law_names .nil pass0 (pa_cons (pv 1) pa_nil)) po_none (po_some (pe_op op_add pe_int (pe_call (ok__law_draw T) (hr.mono (by decide)) (by rfl) T.g__law_draw T.F__law_draw.kp T.b__law_draw .nil pass0 (pa_cons (pv 1) (pa_cons pe_int pa_nil)))))))
    (pss_cons (ps_set (i := 3) sc_law.nd rfl (Or.inl rfl) pe_dnewK)
    (pss_cons (ps_for PassesOwn.never rfl (pi_list (pv 2)) (pg_name (i := 4) sc_law.nd rfl (Or.inl rfl))
      (pss_one (ps_dput (hu_of hr) (pv 3) (pv 4) (pe_call (ok__law_draw T) (hr.mono (by decide)) (by rfl) T.g__law_draw T.F__law_draw.kp T.b__law_draw .nil pass0 (pa_cons (pv 1) (pa_cons pe_int pa_nil))) rfl)))
    (pss_cons (ps_set (i := 5) sc_law.nd rfl (Or.inl rfl) (pe_lst pa_nil))
    (pss_cons (ps_set (i := 6) sc_law.nd rfl (Or.inl rfl) pe_int)
    (pss_cons (ps_for PassesOwn.never rfl (pi_range1 (by rfl) T.range (pa_cons (pe_call (ok__law_draw T) (hr.mono (by decide)) (by rfl) T.g__law_draw T.F__law_draw.kp T.b__law_draw .nil pass0 (pa_cons (pv 1) (pa_cons pe_int pa_nil))) pa_nil)) (pg_name (i := 7) sc_law.nd rfl (Or.inl rfl))
      (pss_cons (ps_set (i := 11) sc_law.nd rfl (Or.inl rfl) (pe_ifExp (pt_cmpR op_eq (pv 6) pe_int (nomark _)) (pe_tup (pa_cons pe_str pa_nil)) (pe_call (ok__law_event T) (hr.mono (by decide)) (by rfl) T.g__law_event T.F__law_event.kp T.b__law_event .nil pass0 (pa_cons (pv 1) (pa_cons (pv 3) (pa_cons (pv 2) pa_nil))))))
      (pss_cons (ps_set (i := 6) sc_law.nd rfl (Or.inl rfl) (pe_ifExp (pt_cmpR op_eq (pe_ix ix_tup (pv 11) pe_int (fun _ _ => rfl)) pe_str (nomark _)) pe_int (pe_op op_add (pv 6) pe_int)))
      (pss_one (ps_expr (pe_bm PySem.F.plainAttrs_list PySem.F.slot_list_append PySem.F.type_list_append mt_append (pv 5) (pa_cons (pv 11) pa_nil)))))))
    (pss_cons (ps_set (i := 8) sc_law.nd rfl (Or.inl rfl) (pe_make T.mk_Store (ok_Store___init__ T) (hr.mono (by decide)) (by rfl) T.mg_Store T.b_Store___init__ .nil pass0 (pa_cons (pv 3) pa_nil)))
    (pss_cons (ps_if (pt_not (pt_val (pe_call (ok__law_performed_right T) (hr.mono (by decide)) (by rfl) T.g__law_performed_right T.F__law_performed_right.kp T.b__law_performed_right .nil pass0 (pa_cons (pv 8) (pa_cons (pv 3) (pa_cons (pv 5) (pa_cons (pe_call (ok__law_draw T) (hr.mono (by decide)) (by rfl) T.g__law_draw T.F__law_draw.kp T.b__law_draw .nil pass0 (pa_cons (pv 1) (pa_cons pe_int pa_nil))) pa_nil)))))))
      (pss_one (ps_ret pe_bl))
      pss_nil)
    (pss_cons (ps_set (i := 9) sc_law.nd rfl (Or.inl rfl) (pe_call (ok__law_crashes T) (hr.mono (by decide)) (by rfl) T.g__law_crashes T.F__law_crashes.kp T.b__law_crashes .nil pass0 (pa_cons (pv 3) (pa_cons (pv 5) pa_nil))))
    (pss_cons (GnW.ps_setLcG (i := 10) (own := [("_law_one", 12)]) (g := gName 12) (tt := tYes) (by rfl) sc_law.nd (hr.mono (by decide)) rfl rfl (sw_true rfl rfl rfl (by decide +kernel)) (GnW.pgn_meth0 (pv 8) T.cl_Store T.m_Store_crashes (ok_Store_crashes T) (hr.mono (by decide)) T.b_Store_crashes .nil) (blkOk_by (own := [("_law_one", 12)]) (N := ["_law_script", "_law_pool_here", "_law_names_here", "_law_values", "_law_name", "_law_events", "_law_pending", "_law_k", "_law_store", "_law_due", "_law_told", "_law_event_here", "_law_one", "_law_state"]) (sc := defScope s_law) (by decide +kernel)) (fun _ _ _ _ _ => pg_name (i := 12) sc_law.nd rfl (Or.inl rfl)) (fun _ _ _ _ _ => pts_nil) (fun _ _ _ _ _ => (pv 12)))
    (pss_cons (ps_if (pt_cmpR op_ne (pe_callB call_len_seq (by rfl) T.len PySem.boot_len (pa_cons (pv 10) pa_nil)) (pe_callB call_len_seq (by rfl) T.len PySem.boot_len (pa_cons (pv 9) pa_nil)) (nomark _))
      (pss_one (ps_ret pe_bl))
      pss_nil)
    (pss_cons (ps_for PassesOwn.never rfl (pi_range1 (by rfl) T.range (pa_cons (pe_callB call_len_seq (by rfl) T.len PySem.boot_len (pa_cons (pv 9) pa_nil)) pa_nil)) (pg_name (i := 7) sc_law.nd rfl (Or.inl rfl))
      (pss_cons (ps_if (PW.pt (pw_or (pt_cmpR (EqI.op_neI (hu66 hr)) (pe_meth0 (pe_ix ix_list (pv 10) (pv 7) (fun _ _ => rfl)) T.cl_Store T.m_Store_current (ok_Store_current T) (hr.mono (by decide)) T.b_Store_current .nil pass0) (pe_ix ix_tup (pe_ix ix_list (pv 9) (pv 7) (fun _ _ => rfl)) pe_int (fun _ _ => rfl)) (nomark _)) (pw_or (pt_cmpR (op_neD hr.units) (pe_meth0 (pe_ix ix_list (pv 10) (pv 7) (fun _ _ => rfl)) T.cl_Store T.m_Store_log (ok_Store_log T) (hr.mono (by decide)) T.b_Store_log .nil pass0) (pe_ix ix_tup (pe_ix ix_list (pv 9) (pv 7) (fun _ _ => rfl)) pe_int (fun _ _ => rfl)) (nomark _)) (pw_or1 (pt_cmpR op_ne (pe_prop (pe_ix ix_list (pv 10) (pv 7) (fun _ _ => rfl)) T.cl_Store T.pp_Store_pending (ok_Store_pending T) (hr.mono (by decide)) T.b_Store_pending .nil pass0 rfl) pe_int (nomark _))))))
        (pss_one (ps_ret pe_bl))
        pss_nil)
      (pss_cons (ps_if (pt_not (pt_val (pe_call (ok__law_recovered_right T) (hr.mono (by decide)) (by rfl) T.g__law_recovered_right T.F__law_recovered_right.kp T.b__law_recovered_right .nil pass0 (pa_cons (pe_ix ix_list (pv 10) (pv 7) (fun _ _ => rfl)) (pa_cons (pe_ix ix_list (pv 9) (pv 7) (fun _ _ => rfl)) (pa_cons (pe_ix ix_list (pv 2) pe_int (fun _ _ => rfl)) pa_nil))))))
        (pss_one (ps_ret pe_bl))
        pss_nil)
      (pss_cons (ps_expr (pe_meth (pe_ix ix_list (pv 10) (pv 7) (fun _ _ => rfl)) T.cl_Store T.m_Store_perform (ok_Store_perform T) (hr.mono (by decide)) T.b_Store_perform .nil pass0 (pa_cons (pe_tup (pa_cons pe_str (pa_cons (pe_ix ix_list (pv 2) pe_int (fun _ _ => rfl)) (pa_cons (pe_op op_pow pe_int pe_int) pa_nil)))) pa_nil)))
      (pss_cons (ps_expr (pe_meth (pe_ix ix_list (pv 10) (pv 7) (fun _ _ => rfl)) T.cl_Store T.m_Store_perform (ok_Store_perform T) (hr.mono (by decide)) T.b_Store_perform .nil pass0 (pa_cons (pe_tup (pa_cons pe_str pa_nil)) pa_nil)))
      (pss_one (ps_expr (pe_meth (pe_ix ix_list (pv 10) (pv 7) (fun _ _ => rfl)) T.cl_Store T.m_Store_perform (ok_Store_perform T) (hr.mono (by decide)) T.b_Store_perform .nil pass0 (pa_cons (pe_tup (pa_cons pe_str pa_nil)) pa_nil)))))))))
    (pss_one (ps_ret (pe_and (pe_cmpR (op_eqV hr.units) (GnW.pe_lcG (own := [("_law_one", 12)]) (g := gName 12) (tt := tYes) (by rfl) sc_law.nd (hr.mono (by decide)) (GnW.pgn_meth0 (pv 8) T.cl_Store T.m_Store_crashes (ok_Store_crashes T) (hr.mono (by decide)) T.b_Store_crashes .nil) (blkOk_by (own := [("_law_one", 12)]) (N := ["_law_script", "_law_pool_here", "_law_names_here", "_law_values", "_law_name", "_law_events", "_law_pending", "_law_k", "_law_store", "_law_due", "_law_told", "_law_event_here", "_law_one", "_law_state"]) (sc := defScope s_law) (by decide +kernel)) (fun _ _ _ _ _ => pg_name (i := 12) sc_law.nd rfl (Or.inl rfl)) (fun _ _ _ _ _ => pts_nil) (fun _ _ _ _ _ => (pe_meth0 (pv 12) T.cl_Store T.m_Store_current (ok_Store_current T) (hr.mono (by decide)) T.b_Store_current .nil pass0))) (pe_lc (own := [("_law_state", 13)]) (g := gName 13) (tt := tYes) (by rfl) sc_law.nd (pi_list (pv 9)) (blkOk_by (own := [("_law_state", 13)]) (N := ["_law_script", "_law_pool_here", "_law_names_here", "_law_values", "_law_name", "_law_events", "_law_pending", "_law_k", "_law_store", "_law_due", "_law_told", "_law_event_here", "_law_one", "_law_state"]) (sc := defScope s_law) (by decide +kernel)) (fun _ _ _ _ _ => pg_name (i := 13) sc_law.nd rfl (Or.inl rfl)) (fun _ _ _ _ _ => pts_nil) (fun _ _ _ _ _ => (pe_ix (show IxR _ (rIxT K) from ix_tup) (pv 13) pe_int (fun _ _ => rfl)))) (nomark _)) (pe_one (pe_cmpR op_eq (pe_prop (pv 8) T.cl_Store T.pp_Store_pending (ok_Store_pending T) (hr.mono (by decide)) T.b_Store_pending .nil pass0 rfl) (pv 6) (nomark _))))))))))))))))))), ?_⟩
  refine ⟨_, rfl, scr, zs, rfl, hS, hlen, fun H1 p l s1 np0 nl0 P1 => ?_⟩
  refine ⟨_, rfl, p, l, 0, rfl, P1, by decide, fun H2 na c sh P2 k2 nap nal nna hc sh0 sh1 hna => ?_⟩
  refine ⟨_, rfl, p, l, 2, 3, rfl, P2, by decide, by decide, log_small (by decide) (by decide), fun rr H3 rr0 rr1 P3 f3 => ?_⟩
  have hna3 : H3 na = some (.lst ((namesL c sh).map V.str)) := by rw [f3 _ nap nal]; exact hna
  obtain ⟨m, hm⟩ : ∃ m : Nat, 1 + rr = (m : Int) := ⟨(1 + rr).toNat, by omega⟩
  refine ⟨_, _, rfl, rfl, _, rfl, na, _, rfl, SqL.of hna3, fun nl nnl => ?_⟩
  rw [hm, cut_take, ← List.map_take]
  have hNlen : ((namesL c sh).take m).length = m := by
    rw [List.length_take]
    unfold namesL
    rw [List.length_map, List.length_range]
    omega
  have hgN : ∀ z ∈ (namesL c sh).take m, Good z := fun z hz => by
    obtain ⟨k, _, rfl⟩ := List.mem_map.mp (List.mem_of_mem_take hz)
    exact name_good hc
  generalize (namesL c sh).take m = N at hNlen hgN ⊢
  have hnlo := P3.off nnl
  have P4 := P3.same (same_upd (o := .lst (N.map V.str)) nnl)
  have hN4 : (upd H3 nl (.lst (N.map V.str))) nl = some (.lst (N.map V.str)) := upd_same
  show tSeq _ _ _ _ (upd H3 nl (.lst (N.map V.str)))
  generalize (upd H3 nl (.lst (N.map V.str))) = H4 at P4 hN4 ⊢
  clear P3 f3 hna3 hna nnl k2 P2 P1 nna nap nal s1 np0 nl0
  have hm3 : m ≤ 3 := by omega
  have hm0 : 0 < m := by omega
  -- values
  intro vd nvd
  have hv6 : (upd H4 vd (.dK [])) vd = some (.dK (dv [])) := upd_same
  have P6 := P4.same (same_upd (o := .dK []) nvd)
  have hN6 := same_upd (o := .dK []) nvd _ _ hN4
  show tSeq _ _ _ _ (upd H4 vd (.dK []))
  generalize (upd H4 vd (.dK [])) = H6 at P6 hv6 hN6 ⊢
  refine ⟨_, rfl, nl, rfl, ⟨_, SqL.of hN6⟩, for_it (walk_list (K := K) (a := nl) (xs := N.map V.str)) (fun i σ H' => ∃ (v5 : Option V), σ = [some (.ref scr), some (.ref p), some (.ref nl), some (.ref vd), v5, none, none, none, none, none, none, none, none, none] ∧ PoolAt H' p l (3 + (i : Int)) ∧ H' nl = some (.lst (N.map V.str)) ∧
    ∃ t, H' vd = some (.dK (dv t)) ∧ (keysT t).Nodup ∧ t.length ≤ i ∧ (∀ y ∈ keysT t, y ∈ N) ∧ ∀ y ∈ N.take i, y ∈ keysT t)
    ⟨none, rfl, P6.mono (by decide), hN6, [], hv6, List.nodup_nil, Nat.le_refl _, fun y h => (by cases h), fun y h => (by cases h)⟩ (fun i σ H' _ ⟨_, _, _, h, _⟩ => SqL.of h) ?_ ?_⟩
  · rintro i y σ H7 H8 hi ⟨v5, rfl, P7, hN7, t, hv7, hnd, htl, hk1, hk2⟩ ⟨rfl, hy⟩
    obtain ⟨z, hz, rfl⟩ := get_map hy
    rw [List.length_map] at hi
    refine ⟨_, rfl, p, l, _, _, rfl, P7, by omega, by decide, log_small (by decide) (by decide), fun r7 H9 r70 r71 P9 f9 => ?_⟩
    have k9 : Keep p l H8 H9 := Keep.draw f9
    have hv9 := k9.no P7 hv7 (by intro xs z; cases z)
    have hN9 := k9 _ _ hN7 hnlo.1 hnlo.2
    refine ⟨_, rfl, _, rfl, vd, _, rfl, DPut.k (k := Sum.inr z) hv9 ?_, ?_⟩
    · rw [dv_len]
      exact bigLine (by omega)
    obtain ⟨⟨xsA, hpA⟩, ⟨ysA, hlA⟩⟩ := pool_lst P9
    refine ⟨_, rfl, (P9.mono (by omega)).keep (upd_ne (ne_of hpA hv9 (by intro z; cases z))) (upd_ne (ne_of hlA hv9 (by intro z; cases z))), ?_, putT t z r7, by rw [upd_same, dv_put], putT_nodup _ hnd, Nat.le_trans (putT_len ..) (by omega), fun y hy => ?_, fun y hy => ?_⟩
    · rw [upd_ne (ne_of hN9 hv9 (by intro z; cases z))]
      exact hN9
    · rcases putT_mem hy with h | h
      · exact hk1 y h
      · exact h ▸ List.mem_of_getElem? hz
    · rw [List.take_add_one, hz] at hy
      rcases List.mem_append.mp hy with h | h
      · exact putT_keep (hk2 y h)
      · obtain rfl : y = z := by simpa using h
        exact putT_has
  rintro σ H7 ⟨v5, rfl, P7, hN7, t, hv7, hnd, htl, hk1, hk2⟩
  rw [List.length_map] at P7 htl hk2
  rw [List.take_length] at hk2
  rw [hNlen] at P7 htl
  have S7 : Src H7 p l vd nl 10 t N := ⟨P7.mono (by omega), hv7, hN7, hnlo.1, hnlo.2, hk2, hnd, by omega, by omega⟩
  have hg0 : ∀ z ∈ keysT t, Good z := fun z hz => hgN z (hk1 z hz)
  clear P7 hv7 hN7 hv6 hN6 P6 hN4 P4
  -- events
  refine ⟨(by show 0 ≤ sizeLine; decide), fun L nL => ?_⟩
  have hLo := S7.P.off nL
  have s8 := same_upd (o := .lst []) nL
  have S8 := S7.same s8
  have hL8 : (upd H7 L (.lst [])) L = some (.lst (([] : List Addr).map V.ref)) := upd_same
  have k8 : Keep p l H7 (upd H7 L (.lst [])) := Keep.of s8
  dsimp only [gName, List.set]
  show tSeq _ _ _ _ (upd H7 L (.lst []))
  generalize (upd H7 L (.lst [])) = H8 at S8 hL8 k8 ⊢
  refine ⟨_, rfl, p, l, 10, 21, rfl, S8.P, by decide, by decide, log_small (by decide) (by decide), fun r9 H9 r90 r91 P9 f9 => ?_⟩
  have k9 := k8.trans (Keep.draw f9)
  have hL9 := Keep.draw f9 _ _ hL8 hLo.1 hLo.2
  obtain ⟨k, rfl⟩ := Int.eq_ofNat_of_zero_le r90
  refine ⟨_, rfl, by omega, by omega, ?_⟩
  rw [show ((k : Nat) : Int).toNat = k from Int.toNat_natCast k]
  refine for_range (lo := 0) (n := k) (fun i σ H' => ∃ (pd : Nat) (fs : List Addr) (f : List Ev) (v7 v11 : Option V), σ = [some (.ref scr), some (.ref p), some (.ref nl), some (.ref vd), v5, some (.ref L), some (.int (pd : Int)), v7, none, none, none, v11, none, none] ∧ PoolAt H' p l (11 + 4 * (i : Int)) ∧ Keep p l H7 H' ∧ H' L = some (.lst (fs.map V.ref)) ∧ TupsAt evV H' fs f ∧ Wf t i pd f)
    ⟨0, [], [], none, none, rfl, P9.mono (by omega), k9, hL9, trivial, wf0 t⟩ ?_ ?_
  · rintro i σ HA hi ⟨pd, fs, f, v7, v11, rfl, PA, kA, hLA, hTA, wf⟩
    rw [Int.zero_add]
    dsimp only [gName, List.set]
    refine mid (fun σ H' => ∃ (e : Addr) (ev : Ev), σ = [some (.ref scr), some (.ref p), some (.ref nl), some (.ref vd), v5, some (.ref L), some (.int (pd : Int)), some (.int (i : Int)), none, none, none, some (.ref e), none, none] ∧ PoolAt H' p l (11 + 4 * ((i + 1 : Nat) : Int)) ∧ Keep p l H7 H' ∧ H' L = some (.lst (fs.map V.ref)) ∧ TupsAt evV H' fs f ∧ H' e = some (.tup (evV ev)) ∧ evOk (keysT t) ev ∧ (pd < 6 ∨ isFl ev = true)) ?_ (fun go => ?_)
    · rintro σ HB ⟨e, ev, rfl, PB, kB, hLB, hTB, hE, hok, h6⟩
      have hfd := flush_dec ev
      obtain ⟨hz, tz, ehz⟩ : ∃ h r, evV ev = V.str h :: r := by cases ev <;> exact ⟨_, _, rfl⟩
      rw [ehz] at hfd
      have hfd : decide (V.str hz = V.str "flush") = isFl ev := hfd
      have hfl := hTB.len
      have wl := wf.len
      have hL7 : (upd HB L (.lst (fs.map V.ref ++ [.ref e]))) L = some (.lst ((fs ++ [e]).map V.ref)) := by rw [upd_same, List.map_append]; rfl
      have hT7 : TupsAt evV (upd HB L (.lst (fs.map V.ref ++ [.ref e]))) (fs ++ [e]) (f ++ [ev]) := (hTB.app hE).imp (tup_off hLB (by intro xs z; cases z))
      have k7 : Keep p l H7 (upd HB L (.lst (fs.map V.ref ++ [.ref e]))) := kB.mut nL
      have P7 : PoolAt (upd HB L (.lst (fs.map V.ref ++ [.ref e]))) p l (11 + 4 * ((i + 1 : Nat) : Int)) := PB.keep (upd_ne hLo.1.symm) (upd_ne hLo.2.symm)
      refine ⟨_, rfl, e, _, _, _, rfl, rfl, SqT.of hE, atI_nat (j := 0) (by rw [ehz]; rfl), rfl, _, rfl, ite2 (fun eb => ?_) (fun eb => ?_)⟩
      · refine ⟨_, rfl, .inl ⟨rfl, _, SqL.of hLB⟩, _, rfl, L, _, _, rfl, rfl, hLB, by rw [List.length_map]; exact bigLine (by omega), ?_⟩
        have e0 : isFl ev = true := hfd.symm.trans eb
        exact ⟨0, fs ++ [e], f ++ [ev], _, _, rfl, P7, k7, hL7, hT7, wf.more ev hok h6 (by rw [e0]; rfl)⟩
      · refine ⟨_, rfl, _, _, rfl, rfl, _, rfl, .inl ⟨rfl, _, SqL.of hLB⟩, _, rfl, L, _, _, rfl, rfl, hLB, by rw [List.length_map]; exact bigLine (by omega), ?_⟩
        have e0 : isFl ev = false := Bool.eq_false_iff.mpr fun z => eb (hfd.trans z)
        exact ⟨pd + 1, fs ++ [e], f ++ [ev], _, _, rfl, P7, k7, hL7, hT7, wf.more ev hok h6 (by rw [e0]; rfl)⟩
    · have hd6 : decide (V.int (pd : Int) = V.int 6) = (pd == 6) := by rw [dec_int, Bool.eq_iff_iff, beq_iff_eq, beq_iff_eq]; omega
      refine ⟨_, rfl, rfl, _, rfl, ite2 (fun e => ?_) (fun e => ?_)⟩
      · refine ⟨(by show 1 ≤ sizeLine; decide), fun c nc => ?_⟩
        have sc := same_upd (o := .tup [.str "flush"]) nc
        exact go _ _ ⟨c, .flush, rfl, (PA.same sc).mono (by omega), kA.trans (Keep.of sc), sc _ _ hLA, hTA.same sc, upd_same, trivial, .inr rfl⟩
      · have p6 : pd < 6 := by
          have z := wf.pd6
          have y2 : pd ≠ 6 := fun q => e (hd6.trans (beq_iff_eq.mpr q))
          omega
        refine ⟨_, rfl, _, rfl, _, rfl, p, l, vd, nl, _, t, N, rfl, S7.keep kA PA, by omega, by omega, fun HB e ev PB kB nE hE okE => ?_⟩
        exact go _ _ ⟨e, ev, rfl, PB.mono (by omega), kA.trans kB, kB _ _ hLA hLo.1 hLo.2, hTA.imp fun b xs z => kB.no PA z (by intro ys y; cases y), hE, okE, .inl p6⟩
  · rintro σ HA ⟨pd, fs, f, v7, v11, rfl, PA, kA, hLA, hTA, wf⟩
    have SA := S7.keep kA PA
    have wl := wf.len
    have hafl := hTA.len
    have goodT : GoodT t := goodT_of (ks := keysT t) (fun z hz => ⟨(hg0 z hz).1, (hg0 z hz).2.1⟩) rfl
    -- the store
    refine ⟨_, rfl, ?_⟩
    intro x dx nx nd hne
    have sB : Same HA (upd (upd HA dx (.own x)) x (.ins a.c_Store dx [])) := (same_upd nd).trans (same_upd (by rw [upd_ne (Ne.symm hne)]; exact nx))
    refine ⟨x, dx, vd, t, rfl, upd_same, sB _ _ SA.hv, by omega, goodT, fun HB d r qa kB nd1 nr1 nq1 SS => ⟨rfl, ?_⟩⟩
    have sAB : Same HA HB := fun b o e => kB b o (sB _ _ e) (ne_of_none e nx)
    have nrA : H7 = H7 := rfl
    have fr : ∀ {b b' : Addr} {o : HO}, HA b = some o → (upd (upd HA dx (.own x)) x (.ins a.c_Store dx [])) b' = none → b' ≠ b := fun {b b' o} e n z => by rw [z, sB _ _ e] at n; cases n
    obtain ⟨⟨xs7, hp7⟩, ⟨ys7, hl7⟩⟩ := pool_lst PA
    have hrp := fr hp7 nr1
    have hrl := fr hl7 nr1
    have hqp := fr hp7 nq1
    have hql := fr hl7 nq1
    have hqL := fr hLA nq1
    have hqn := fr SA.hN nq1
    have SB := SA.same sAB
    have hLB := sAB _ _ hLA
    have hTB := hTA.same sAB
    clear fr hp7 hl7 nrA kB sB sAB nr1 nq1 nd1
    dsimp only [gName, List.set]
    refine ⟨_, rfl, _, rfl, _, rfl, _, rfl, p, l, _, 21, rfl, SB.P, by omega, by decide, log_small (by decide) (by decide), fun rC HC rC0 rC1 PC fC => ?_⟩
    have kC : Keep p l HB HC := Keep.draw fC
    have SC := SB.keep kC PC
    have SSC := SS.keep SB.P kC hrp hrl hqp hql
    have hLC := kC _ _ hLB hLo.1 hLo.2
    have hTC := hTB.imp fun b xs z => kC.no SB.P z (by intro ys y; cases y)
    refine ⟨x, vd, L, d, r, qa, rC, t, f, rfl, SSC, SC.hv, ⟨fs, hLC, hTC⟩, hqL.symm, fun z hz => ⟨(hg0 z hz).1, (hg0 z hz).2.1⟩, hnd, wf.ok, by omega, by omega, fun k => Nat.le_trans (wf.all k) (by decide), fun HD d2 r2 q2 fD oD SD => ⟨_, rfl, iteF ?_⟩⟩
    obtain ⟨⟨dxC, fsC, hxC⟩, _, _, ⟨usC, hqC⟩⟩ := SSC.kinds
    have hvD : HD vd = some (.dK (dv t)) := fD _ _ SC.hv (ne_of SC.hv hxC (by intro z; cases z)) (ne_of SC.hv hqC (by intro z; cases z))
    have hND : HD nl = some (.lst (N.map V.str)) := fD _ _ SC.hN (ne_of SC.hN hxC (by intro z; cases z)) hqn.symm
    have hLD : HD L = some (.lst (fs.map V.ref)) := fD _ _ hLC (ne_of hLC hxC (by intro z; cases z)) hqL.symm
    have hTD : TupsAt evV HD fs f := hTC.imp fun b xs z => fD _ _ z (ne_of z hxC (by intro z; cases z)) (ne_of z hqC (by intro z; cases z))
    clear SC SSC hLC hTC hxC hqC fD oD PC fC kC SB hLB hTB SS SA hLA hTA PA kA
    -- due
    refine ⟨_, rfl, _, rfl, vd, L, t, f, rfl, hvD, ⟨fs, hLD, hTD⟩, hnd, wf.ok, by omega, by omega, fun k => Nat.le_trans (wf.all k) (by decide), fun HE q7 as sE hq7 hSts => ?_⟩
    have SE := SD.same sE
    have hNE := sE _ _ hND
    have hpe := wf.pe
    have hpd := wf.pd6
    have KE := sOk wf.ok f.length (Nat.le_refl _)
    rw [List.take_length] at KE
    clear hTD hLD hvD hND sE SD
    generalize runS t f = R at KE hpe SE hSts
    obtain ⟨⟨t6, l6⟩, es6⟩ := R
    have SE : StAt a HE x d2 r2 q2 t6 l6 es6 := SE
    have hpe : es6.length = pd := hpe
    have hSts : Sts HE as (crs (t6, l6) es6) := hSts
    have l5 : l6.length + es6.length ≤ f.length := KE.len
    have hkl2 : (keysT t).length = t.length := List.length_map _
    have hk6 : t6.length = (keysT t).length := len_keys KE.key.1
    have h2 : 2 ^ es6.length ≤ 2 ^ 8 := Nat.pow_le_pow_right (by decide) (by omega)
    have hcl : (crs (t6, l6) es6).length = 2 ^ es6.length := crs_len _ _
    have hg : ∀ z ∈ keysT t, isN z = true ∧ Big z := fun z hz => ⟨(hg0 z hz).1, (hg0 z hz).2.1⟩
    have hkeys := crs_key KE
    obtain ⟨dxE, hxE, _⟩ := id SE
    dsimp only [gName, List.set]
    refine ⟨_, rfl, x, dxE, _, rfl, hxE, rfl, x, d2, r2, q2, t6, l6, es6, keysT t, rfl, by omega, by omega, by omega, KE.key, KE.ev, hg, fun D nD => ?_⟩
    refine GnW.lcg_it (n := 2 ^ es6.length) (fun j HF => Same HE HF ∧ ∃ qs : List Qd, HF D = some (.lst (qs.map fun s => V.ref s.1)) ∧ Told a HE HF D (crs (t6, l6) es6) j qs)
      ⟨same_upd nD, [], upd_same, told0⟩ (fun j HF hj z => ?_) (fun j HF HG hj z hf => ?_) ?_
    · have S8 := SE.same z.1
      rcases Nat.lt_or_ge j (2 ^ es6.length) with y | y
      · exact .inl ⟨y, S8⟩
      · exact .inr ⟨Nat.le_antisymm hj y, S8⟩
    · obtain ⟨rfl, rfl⟩ := hf
      obtain ⟨sF, qs, hDF, hTold⟩ := z
      dsimp only [gName, List.set]
      have hql := hSts.1
      have hqn : qs.length = 2 ^ es6.length := hTold.len
      have hq7F := sF _ _ hq7
      have hDl : (qs.map fun s => V.ref s.1).length = (as.map V.ref).length := by rw [List.length_map, List.length_map, hqn, hql, hcl]
      refine ⟨_, rfl, D, _, rfl, .inl (SqL.of hDF), _, rfl, q7, _, rfl, .inl (SqL.of hq7F), rfl, _, rfl, iteN (by rw [hDl]; simp) ?_⟩
      -- each of them
      refine ⟨_, rfl, q7, _, rfl, .inl (SqL.of hq7F), _, rfl, by omega, by rw [List.length_map]; omega, ?_⟩
      rw [List.length_map, hql, hcl, show ((2 ^ es6.length : Nat) : Int).toNat = 2 ^ es6.length from Int.toNat_natCast _]
      have SF := SE.same sF
      refine for_range (lo := 0) (n := 2 ^ es6.length) (fun j σ H' => ∃ (v7 v11 v12 v13 : Option V), σ = [some (.ref scr), some (.ref p), some (.ref nl), some (.ref vd), v5, some (.ref L), some (.int (pd : Int)), v7, some (.ref x), some (.ref q7), some (.ref D), v11, v12, v13] ∧ Same HE H' ∧ H' D = some (.lst (qs.map fun s => V.ref s.1)) ∧ ∀ (k : Nat) (s : Qd) (y : Sta), j ≤ k → qs[k]? = some s → (crs (t6, l6) es6)[k]? = some y → StAt a H' s.1 s.2.1 s.2.2.1 s.2.2.2 y.1 y.2 [])
        ⟨_, _, _, _, rfl, sF, hDF, fun k s y _ h1 h2 => hTold.st k s y h1 h2⟩ ?_ ?_
      · rintro j σ H8 hj ⟨v7, v11, v12, v13, rfl, k8, hD8, hst⟩
        have hsj : qs[j]? = some (qs[j]'(by omega)) := List.getElem?_eq_getElem _
        generalize qs[j]'(by omega) = sj at hsj
        obtain ⟨xk, dk, rk, qk⟩ := sj
        have hyj : (crs (t6, l6) es6)[j]? = some ((crs (t6, l6) es6)[j]'(by omega)) := List.getElem?_eq_getElem _
        generalize (crs (t6, l6) es6)[j]'(by omega) = y at hyj
        obtain ⟨b, hbj⟩ : ∃ b, as[j]? = some b := ⟨_, List.getElem?_eq_getElem (by omega)⟩
        obtain ⟨lg, vdk, hb, hvdk, hlg⟩ := id (hSts.2 j b y hbj hyj)
        obtain ⟨hyk, hyl⟩ := hkeys y (List.mem_of_getElem? hyj)
        have hyTK : keysT y.1 = keysT t := hyk.1
        have hyT : (keysT y.1).Nodup := by rw [hyTK]; exact hnd
        have hyt := len_keys hyk.1
        have okL : OkL y.2 := fun r hr => (hg0 _ (hyk.2 r hr)).2.2
        have Sk := hst j _ y (Nat.le_refl _) hsj hyj
        have Sk : StAt a H8 xk dk rk qk y.1 y.2 [] := Sk
        have hnew := hTold.new j _ hsj
        have nxk : HE xk = none := hnew.1
        have nqk : HE qk = none := hnew.2.1
        have hqkD : qk ≠ D := hnew.2.2.1
        have hDj : (qs.map fun s => V.ref s.1)[j]? = some (V.ref xk) := by rw [List.getElem?_map, hsj]; rfl
        have hbj' : (as.map V.ref)[j]? = some (V.ref b) := by rw [List.getElem?_map, hbj]; rfl
        have hN0 : 0 < N.length := by omega
        have hz0 : N[0]? = some N[0] := List.getElem?_eq_getElem hN0
        generalize N[0] = z0 at hz0
        have hz0k : z0 ∈ keysT t := hk2 z0 (List.mem_of_getElem? hz0)
        have hz0y : z0 ∈ keysT y.1 := by rw [hyTK]; exact hz0k
        have hat : atI (N.map V.str) 0 = some (.str z0) := atI_nat (j := 0) (by rw [List.getElem?_map, hz0]; rfl)
        obtain ⟨dxk, hxk, _⟩ := id Sk
        rw [Int.zero_add]
        dsimp only [gName, List.set]
        have hyt1 : y.1.length ≤ 16 := by omega
        have hyl1 : y.2.length ≤ 100 := by omega
        refine ⟨_, rfl, _, rfl, D, _, _, _, rfl, rfl, SqL.of hD8, atI_nat (j := j) hDj, xk, dxk, _, rfl, hxk, rfl, xk, dk, rk, qk, y.1, y.2, [], rfl, Sk, by show _ + 0 ≤ _; omega, by show _ + 0 ≤ _; omega, fun H9 d9 s9 nd9 hd9 => ?_⟩
        have hd9 : H9 d9 = some (.dK (dv y.1)) := hd9
        have k9 := k8.trans s9
        refine ⟨_, rfl, _, rfl, q7, _, _, _, rfl, rfl, SqL.of (k9 _ _ hq7), atI_nat (j := j) hbj', b, _, _, _, rfl, rfl, SqT.of (k9 _ _ hb), atI_nat (j := 0) rfl, d9, vdk, _, _, rfl, rfl, hd9, k9 _ _ hvdk, _, rfl, iteN (by rw [eqT_self hyT]; rfl) ?_⟩
        refine ⟨_, rfl, _, rfl, D, _, _, _, rfl, rfl, SqL.of (s9 _ _ hD8), atI_nat (j := j) hDj, xk, dxk, _, rfl, s9 _ _ hxk, rfl, xk, dk, rk, qk, y.1, y.2, [], rfl, Sk.same s9, by show _ + 0 ≤ _; omega, by show _ + 0 ≤ _; omega, fun HA rA sA nrA hrA => ?_⟩
        have hrA : LstAt rcV HA rA y.2 := hrA
        have kA := k9.trans sA
        have s8A := s9.trans sA
        refine ⟨_, rfl, _, rfl, q7, _, _, _, rfl, rfl, SqL.of (kA _ _ hq7), atI_nat (j := j) hbj', b, _, _, _, rfl, rfl, SqT.of (kA _ _ hb), atI_nat (j := 1) rfl, dLog y.2, dLog y.2, dp_log hrA, dp_log (hlg.same kA), shaped_log _ okL, shaped_log _ okL, ?_⟩
        rw [eqv_log _ okL]
        refine ⟨_, rfl, iteF ?_⟩
        refine ⟨_, rfl, _, rfl, D, _, _, _, rfl, rfl, SqL.of (s8A _ _ hD8), atI_nat (j := j) hDj, xk, dxk, _, rfl, s8A _ _ hxk, xk, dk, rk, qk, _, _, [], rfl, Sk.same s8A, rfl, _, rfl, iteN (by decide +kernel) ?_⟩
        refine ⟨_, rfl, _, rfl, D, _, _, _, rfl, rfl, SqL.of (s8A _ _ hD8), atI_nat (j := j) hDj, _, rfl, _, rfl, q7, _, _, _, rfl, rfl, SqL.of (kA _ _ hq7), atI_nat (j := j) hbj', _, rfl, nl, _, _, _, rfl, rfl, SqL.of (kA _ _ hNE), hat, xk, b, dk, rk, qk, y.1, y.2, keysT t, z0, rfl, Sk.same s8A, ⟨lg, vdk, kA _ _ hb, kA _ _ hvdk, hlg.same kA⟩, hyk, hg, hnd, hz0k, by omega, by omega, fun HB sB => ⟨_, rfl, iteF ?_⟩⟩
        have s8B := s8A.trans sB
        have kB := kA.trans sB
        have SB := Sk.same s8B
        refine ⟨_, rfl, _, rfl, D, _, _, _, rfl, rfl, SqL.of (s8B _ _ hD8), atI_nat (j := j) hDj, xk, dxk, _, rfl, s8B _ _ hxk, rfl, _, rfl, nl, _, _, _, rfl, rfl, SqL.of (kB _ _ hNE), hat, _, _, rfl, rfl, ⟨by decide, by decide, by decide⟩, (by show 3 ≤ sizeLine; decide), fun c1 nc1 => ?_⟩
        have w1 := same_upd (o := .tup [.str "write", .str z0, .int (10 ^ (9 : Int).toNat)]) nc1
        refine ⟨xk, dk, rk, qk, c1, _, _, [], .write z0 (10 ^ (9 : Int).toNat), rfl, SB.same w1, upd_same, hz0y, by show _ + 0 ≤ _; omega, by show _ + 0 ≤ _; omega, fun HC dC rC qC t1 l1 e1 f1 od1 or1 oq1 SC eq1 => ?_⟩
        cases eq1
        have hDB := (s8B.trans w1) _ _ hD8
        have hxB := (s8B.trans w1) _ _ hxk
        have hDC := f1 _ _ hDB (ne_of hDB hxB (by intro z; cases z)) hqkD.symm
        obtain ⟨dxC, hxC, _⟩ := id SC
        refine ⟨_, rfl, _, rfl, D, _, _, _, rfl, rfl, SqL.of hDC, atI_nat (j := j) hDj, xk, dxC, _, rfl, hxC, rfl, (by show 1 ≤ sizeLine; decide), fun c2 nc2 => ?_⟩
        have w2 := same_upd (o := .tup [.str "clear"]) nc2
        have f1' : Fr _ _ xk qk := Fr.go f1 w2
        refine ⟨xk, dC, rC, qC, c2, _, _, _, .clear, rfl, SC.same w2, upd_same, trivial, by show _ + 1 ≤ _; omega, by show _ + 1 ≤ _; omega, fun HD dD rD qD t2 l2 e2 f2 od2 or2 oq2 SD eq2 => ?_⟩
        cases eq2
        have F12 := Fr.trans f1' oq1 f2
        have O12 := Fr.old f1' oq1 (w2 _ _ hxC) oq2
        have hDD := F12 _ _ hDB (ne_of hDB hxB (by intro z; cases z)) hqkD.symm
        obtain ⟨dxD, hxD, _⟩ := id SD
        refine ⟨_, rfl, _, rfl, D, _, _, _, rfl, rfl, SqL.of hDD, atI_nat (j := j) hDj, xk, dxD, _, rfl, hxD, rfl, (by show 1 ≤ sizeLine; decide), fun c3 nc3 => ?_⟩
        have w3 := same_upd (o := .tup [.str "flush"]) nc3
        have F12' := F12.go w3
        refine ⟨xk, dD, rD, qD, c3, _, _, _, .flush, rfl, SD.same w3, upd_same, trivial, by show _ + 2 ≤ _; omega, by show _ + 2 ≤ _; omega, fun HF' dF rF qF t3 l3 e3 f3 od3 or3 oq3 SF3 eq3 => ?_⟩
        have F := F12'.trans O12 f3
        have F8 : Fr H8 HF' xk qk := Fr.same (s8B.trans w1) F
        refine ⟨_, _, _, _, rfl, Fr.new k8 nxk nqk F8, F8 _ _ hD8 (ne_of hD8 hxk (by intro z; cases z)) hqkD.symm, fun k s y' hk h1 h2 => ?_⟩
        have sp := hTold.sep j k _ s (by omega) hsj h1
        exact (hst k s y' (by omega) h1 h2).fr Sk F8 (Ne.symm sp.1) (Ne.symm sp.2.2) (Ne.symm sp.2.1)
      · rintro σ H8 ⟨v7, v11, v12, v13, rfl, k8, hD8, hst⟩
        clear hst
        have S8 := SE.same k8
        refine ⟨_, rfl, x, dxE, _, rfl, k8 _ _ hxE, rfl, x, d2, r2, q2, t6, l6, es6, keysT t, rfl, by omega, by omega, by omega, KE.key, KE.ev, hg, fun D3 nD3 => ?_⟩
        refine GnW.lcg_it (n := 2 ^ es6.length) (fun j H9 => Same H8 H9 ∧ ∃ cs : List Addr, H9 D3 = some (.lst (cs.map V.ref)) ∧ DcAt H9 cs (crs (t6, l6) es6) j)
          ⟨same_upd nD3, [], upd_same, rfl, fun k c x z => by cases z⟩ (fun j H9 hj z => ?_) (fun j H9 HA hj z hf => ?_) ?_
        · have S9 := S8.same z.1
          rcases Nat.lt_or_ge j (2 ^ es6.length) with y | y
          · exact .inl ⟨y, S9⟩
          · exact .inr ⟨Nat.le_antisymm hj y, S9⟩
        · obtain ⟨rfl, rfl⟩ := hf
          obtain ⟨s9, cs, hD9, hdc⟩ := z
          have k9 := k8.trans s9
          have hSts9 := hSts.same k9
          refine ⟨_, rfl, q7, rfl, ⟨_, SqL.of (k9 _ _ hq7)⟩, fun D4 nD4 => ?_⟩
          refine lc_it (walk_list (K := K) (a := q7) (xs := as.map V.ref)) (fun k HB => Same HA HB ∧ ∃ ds : List Addr, HB D4 = some (.lst (ds.map V.ref)) ∧ DcAt HB ds (crs (t6, l6) es6) k) ⟨same_upd nD4, [], upd_same, rfl, fun k c x z => by cases z⟩ (fun k HB _ z => SqL.of (z.1 _ _ (k9 _ _ hq7))) ?_ ?_
          · rintro k v HB HC hk ⟨sB, ds, hDB, hdB⟩ ⟨rfl, hv'⟩
            obtain ⟨b, hb1, rfl⟩ := get_map hv'
            rw [List.length_map] at hk
            have hkx : (crs (t6, l6) es6)[k]? = some ((crs (t6, l6) es6)[k]'(by rw [← hSts.1]; exact hk)) := List.getElem?_eq_getElem _
            generalize (crs (t6, l6) es6)[k]'(by rw [← hSts.1]; exact hk) = y at hkx
            obtain ⟨lg, vd', hb, hvd', _⟩ := (hSts9.same sB).2 k b y hb1 hkx
            have e8 := hSts.1
            refine ⟨rfl, _, rfl, b, _, _, _, rfl, rfl, SqT.of hb, atI_nat (j := 0) rfl, _, hDB, ?_, same_mut sB nD4, ds ++ [vd'], by rw [upd_same, List.map_append]; rfl, hdB.snoc hkx hvd' hDB⟩
            rw [List.length_map, hdB.1]
            exact bigLine (by omega)
          · rintro HB ⟨sB, ds, hDB, hdB⟩
            rw [List.length_map, hSts.1, hcl] at hdB
            have hnd2 : ∀ y ∈ crs (t6, l6) es6, (keysT y.1).Nodup := fun y hy => by
              have z : keysT y.1 = keysT t := (hkeys y hy).1.1
              rw [z]; exact hnd
            refine ⟨2, by decide, .inl ⟨D3, D4, _, _, rfl, rfl, SqL.of (sB _ _ hD9), SqL.of hDB, (hdc.same sB).pair hdB hcl hnd2⟩, _, rfl, iteT ?_⟩
            have kB := k9.trans sB
            refine ⟨_, rfl, x, dxE, _, rfl, kB _ _ hxE, x, d2, r2, q2, t6, l6, es6, rfl, SE.same kB, _, rfl, rfl, ?_⟩
            rw [hpe, show decide (V.int ((pd : Nat) : Int) = V.int ((pd : Nat) : Int)) = true from decide_eq_true rfl]
            exact q HB
        · rintro j v H9 HA hj ⟨s9, cs, hD9, hdc⟩ ⟨hlt, sA, x', d', r', qn, rfl, nx', nd', nr', nqn, SA⟩
          refine ⟨hlt, ?_⟩
          have hrun := KE.key.run (es := chs 0 j es6) fun e m => KE.ev e (chs_mem j es6 0 e m)
          have tl := len_keys hrun.1
          have ll := runE_log (chs 0 j es6) (t6, l6)
          have cl := chs_len j es6 0
          have e0 : (t6, l6).2.length = l6.length := rfl
          obtain ⟨dxA, hxA, _⟩ := id SA
          refine ⟨rfl, _, rfl, x', dxA, _, rfl, hxA, rfl, x', d', r', qn, _, _, [], rfl, SA, ?_, ?_, fun HB dB sB ndB hdB => ?_⟩
          · exact Nat.le_trans (Nat.le_of_eq tl) (by omega)
          · exact Nat.le_trans ll (by show l6.length + (chs 0 j es6).length ≤ 1000; omega)
          have s9B := sA.trans sB
          refine ⟨_, s9B _ _ hD9, ?_, trivial, same_mut (s9.trans s9B) nD3, cs ++ [dB], by rw [upd_same, List.map_append]; rfl, (hdc.same s9B).snoc (crs_at hlt) hdB (s9B _ _ hD9)⟩
          rw [List.length_map, hdc.1]
          exact bigLine (by omega)
    · rintro j v HF HG hj ⟨sF, qs, hDF, hTold⟩ ⟨hlt, sG, x', d', r', qn, rfl, nx', nd', nr', nqn, SG⟩
      refine ⟨hlt, ?_⟩
      have hDG := sG _ _ hDF
      refine ⟨rfl, _, rfl, _, hDG, ?_, trivial, same_mut (sF.trans sG) nD, qs ++ [(x', d', r', qn)], by rw [upd_same, List.map_append]; rfl, hTold.snoc sF sG (crs_at hlt) nx' nr' nqn SG hDF (by omega)⟩
      rw [List.length_map, hTold.len]
      exact bigLine (by omega)
end
end K27
namespace K27
open PySem PySem.Spec PyProof.Rows L2 TL
theorem all_mk {l : PySem.W.OpenLaw} {w : World} {K : PySem.W.Frag} {h : Heap} {mg : Str → Option Value} {fa f_is_integer f_is_word f_is_name f_are_values f_is_event f_behind f_undone_by_log f_Store___init__ f_Store_perform f_Store_current f_Store_log f_Store_pending f_Store_crashes f_Store_recovered f_store_at f__law_pool f__law_mixed f__law_draw f__law_names f__law_applied f__law_crashes f__law_recovered f__law_event f__law_performed_right f__law_recovered_right f_law c_Store t_KEYWORDS t_FLUSH t_CLEAR pr_Store_pending : Addr} (X : K.In h) (G : h.Ns mainGlobals mg) (hfa : mg "law" = some (.ref fa))
    {od_is_integer an_is_integer : Option Addr} {sl_is_integer : Array (Option Value)} {oc_is_integer kV_is_integer dc_is_integer pm_is_integer cd_is_integer ct_is_integer : Value}
    (a_is_integer : PySem.W.nsIn K mainGlobals "is_integer" = some (some (.ref f_is_integer)))
    (l_is_integer : K.lookup f_is_integer = some ⟨oc_is_integer, od_is_integer, .func (PySem.W.fnOf "is_integer" "is_integer" (defArgs s_is_integer) (defBody s_is_integer) (defScope s_is_integer) .none kV_is_integer dc_is_integer pm_is_integer an_is_integer cd_is_integer ct_is_integer), sl_is_integer⟩) (e_is_integer : PySem.W.codeIn K cd_is_integer "is_integer" = true) (k_is_integer : PySem.W.keepIn K (.ref f_is_integer) = true)
    {od_is_word an_is_word : Option Addr} {sl_is_word : Array (Option Value)} {oc_is_word kV_is_word dc_is_word pm_is_word cd_is_word ct_is_word : Value}
    (a_is_word : PySem.W.nsIn K mainGlobals "is_word" = some (some (.ref f_is_word)))
    (l_is_word : K.lookup f_is_word = some ⟨oc_is_word, od_is_word, .func (PySem.W.fnOf "is_word" "is_word" (defArgs s_is_word) (defBody s_is_word) (defScope s_is_word) .none kV_is_word dc_is_word pm_is_word an_is_word cd_is_word ct_is_word), sl_is_word⟩) (e_is_word : PySem.W.codeIn K cd_is_word "is_word" = true) (k_is_word : PySem.W.keepIn K (.ref f_is_word) = true)
    {od_is_name an_is_name : Option Addr} {sl_is_name : Array (Option Value)} {oc_is_name kV_is_name dc_is_name pm_is_name cd_is_name ct_is_name : Value}
    (a_is_name : PySem.W.nsIn K mainGlobals "is_name" = some (some (.ref f_is_name)))
    (l_is_name : K.lookup f_is_name = some ⟨oc_is_name, od_is_name, .func (PySem.W.fnOf "is_name" "is_name" (defArgs s_is_name) (defBody s_is_name) (defScope s_is_name) .none kV_is_name dc_is_name pm_is_name an_is_name cd_is_name ct_is_name), sl_is_name⟩) (e_is_name : PySem.W.codeIn K cd_is_name "is_name" = true) (k_is_name : PySem.W.keepIn K (.ref f_is_name) = true)
    {od_are_values an_are_values : Option Addr} {sl_are_values : Array (Option Value)} {oc_are_values kV_are_values dc_are_values pm_are_values cd_are_values ct_are_values : Value}
    (a_are_values : PySem.W.nsIn K mainGlobals "are_values" = some (some (.ref f_are_values)))
    (l_are_values : K.lookup f_are_values = some ⟨oc_are_values, od_are_values, .func (PySem.W.fnOf "are_values" "are_values" (defArgs s_are_values) (defBody s_are_values) (defScope s_are_values) .none kV_are_values dc_are_values pm_are_values an_are_values cd_are_values ct_are_values), sl_are_values⟩) (e_are_values : PySem.W.codeIn K cd_are_values "are_values" = true) (k_are_values : PySem.W.keepIn K (.ref f_are_values) = true)
    {od_is_event an_is_event : Option Addr} {sl_is_event : Array (Option Value)} {oc_is_event kV_is_event dc_is_event pm_is_event cd_is_event ct_is_event : Value}
    (a_is_event : PySem.W.nsIn K mainGlobals "is_event" = some (some (.ref f_is_event)))
    (l_is_event : K.lookup f_is_event = some ⟨oc_is_event, od_is_event, .func (PySem.W.fnOf "is_event" "is_event" (defArgs s_is_event) (defBody s_is_event) (defScope s_is_event) .none kV_is_event dc_is_event pm_is_event an_is_event cd_is_event ct_is_event), sl_is_event⟩) (e_is_event : PySem.W.codeIn K cd_is_event "is_event" = true) (k_is_event : PySem.W.keepIn K (.ref f_is_event) = true)
    {od_behind an_behind : Option Addr} {sl_behind : Array (Option Value)} {oc_behind kV_behind dc_behind pm_behind cd_behind ct_behind : Value}
    (a_behind : PySem.W.nsIn K mainGlobals "behind" = some (some (.ref f_behind)))
    (l_behind : K.lookup f_behind = some ⟨oc_behind, od_behind, .func (PySem.W.fnOf "behind" "behind" (defArgs s_behind) (defBody s_behind) (defScope s_behind) .none kV_behind dc_behind pm_behind an_behind cd_behind ct_behind), sl_behind⟩) (e_behind : PySem.W.codeIn K cd_behind "behind" = true) (k_behind : PySem.W.keepIn K (.ref f_behind) = true)
    {od_undone_by_log an_undone_by_log : Option Addr} {sl_undone_by_log : Array (Option Value)} {oc_undone_by_log kV_undone_by_log dc_undone_by_log pm_undone_by_log cd_undone_by_log ct_undone_by_log : Value}
    (a_undone_by_log : PySem.W.nsIn K mainGlobals "undone_by_log" = some (some (.ref f_undone_by_log)))
    (l_undone_by_log : K.lookup f_undone_by_log = some ⟨oc_undone_by_log, od_undone_by_log, .func (PySem.W.fnOf "undone_by_log" "undone_by_log" (defArgs s_undone_by_log) (defBody s_undone_by_log) (defScope s_undone_by_log) .none kV_undone_by_log dc_undone_by_log pm_undone_by_log an_undone_by_log cd_undone_by_log ct_undone_by_log), sl_undone_by_log⟩) (e_undone_by_log : PySem.W.codeIn K cd_undone_by_log "undone_by_log" = true) (k_undone_by_log : PySem.W.keepIn K (.ref f_undone_by_log) = true)
    {od_Store___init__ an_Store___init__ : Option Addr} {sl_Store___init__ : Array (Option Value)} {oc_Store___init__ kV_Store___init__ dc_Store___init__ pm_Store___init__ cd_Store___init__ ct_Store___init__ : Value}
    (a_Store___init__ : PySem.W.findIn K (.ref c_Store) "__init__" = some (some (.ref f_Store___init__)))
    (l_Store___init__ : K.lookup f_Store___init__ = some ⟨oc_Store___init__, od_Store___init__, .func (PySem.W.fnOf "__init__" "Store.__init__" (defArgs s_Store___init__) (defBody s_Store___init__) (defScope s_Store___init__) .none kV_Store___init__ dc_Store___init__ pm_Store___init__ an_Store___init__ cd_Store___init__ ct_Store___init__), sl_Store___init__⟩) (e_Store___init__ : PySem.W.codeIn K cd_Store___init__ "Store.__init__" = true) (k_Store___init__ : PySem.W.keepIn K (.ref f_Store___init__) = true)
    (i_Store___init__ : PySem.W.isFn K (.ref f_Store___init__) = true)
    {od_Store_perform an_Store_perform : Option Addr} {sl_Store_perform : Array (Option Value)} {oc_Store_perform kV_Store_perform dc_Store_perform pm_Store_perform cd_Store_perform ct_Store_perform : Value}
    (a_Store_perform : PySem.W.findIn K (.ref c_Store) "perform" = some (some (.ref f_Store_perform)))
    (l_Store_perform : K.lookup f_Store_perform = some ⟨oc_Store_perform, od_Store_perform, .func (PySem.W.fnOf "perform" "Store.perform" (defArgs s_Store_perform) (defBody s_Store_perform) (defScope s_Store_perform) .none kV_Store_perform dc_Store_perform pm_Store_perform an_Store_perform cd_Store_perform ct_Store_perform), sl_Store_perform⟩) (e_Store_perform : PySem.W.codeIn K cd_Store_perform "Store.perform" = true) (k_Store_perform : PySem.W.keepIn K (.ref f_Store_perform) = true)
    (i_Store_perform : PySem.W.isFn K (.ref f_Store_perform) = true)
    {od_Store_current an_Store_current : Option Addr} {sl_Store_current : Array (Option Value)} {oc_Store_current kV_Store_current dc_Store_current pm_Store_current cd_Store_current ct_Store_current : Value}
    (a_Store_current : PySem.W.findIn K (.ref c_Store) "current" = some (some (.ref f_Store_current)))
    (l_Store_current : K.lookup f_Store_current = some ⟨oc_Store_current, od_Store_current, .func (PySem.W.fnOf "current" "Store.current" (defArgs s_Store_current) (defBody s_Store_current) (defScope s_Store_current) .none kV_Store_current dc_Store_current pm_Store_current an_Store_current cd_Store_current ct_Store_current), sl_Store_current⟩) (e_Store_current : PySem.W.codeIn K cd_Store_current "Store.current" = true) (k_Store_current : PySem.W.keepIn K (.ref f_Store_current) = true)
    (i_Store_current : PySem.W.isFn K (.ref f_Store_current) = true)
    {od_Store_log an_Store_log : Option Addr} {sl_Store_log : Array (Option Value)} {oc_Store_log kV_Store_log dc_Store_log pm_Store_log cd_Store_log ct_Store_log : Value}
    (a_Store_log : PySem.W.findIn K (.ref c_Store) "log" = some (some (.ref f_Store_log)))
    (l_Store_log : K.lookup f_Store_log = some ⟨oc_Store_log, od_Store_log, .func (PySem.W.fnOf "log" "Store.log" (defArgs s_Store_log) (defBody s_Store_log) (defScope s_Store_log) .none kV_Store_log dc_Store_log pm_Store_log an_Store_log cd_Store_log ct_Store_log), sl_Store_log⟩) (e_Store_log : PySem.W.codeIn K cd_Store_log "Store.log" = true) (k_Store_log : PySem.W.keepIn K (.ref f_Store_log) = true)
    (i_Store_log : PySem.W.isFn K (.ref f_Store_log) = true)
    {od_Store_pending an_Store_pending : Option Addr} {sl_Store_pending : Array (Option Value)} {oc_Store_pending kV_Store_pending dc_Store_pending pm_Store_pending cd_Store_pending ct_Store_pending : Value}
    (a_Store_pending : PySem.W.findIn K (.ref c_Store) "pending" = some (some (.ref pr_Store_pending))) (pg_Store_pending : PySem.W.specialIn K (.ref pr_Store_pending) "__get__" = some (some (.builtin "property.__get__"))) (pt_Store_pending : PySem.W.takesIn K (.ref pr_Store_pending) = some true) {rs_Store_pending : List Value} (pq_Store_pending : PySem.W.recIn K pr_Store_pending "property" = some (.ref f_Store_pending :: rs_Store_pending))
    (l_Store_pending : K.lookup f_Store_pending = some ⟨oc_Store_pending, od_Store_pending, .func (PySem.W.fnOf "pending" "Store.pending" (defArgs s_Store_pending) (defBody s_Store_pending) (defScope s_Store_pending) .none kV_Store_pending dc_Store_pending pm_Store_pending an_Store_pending cd_Store_pending ct_Store_pending), sl_Store_pending⟩) (e_Store_pending : PySem.W.codeIn K cd_Store_pending "Store.pending" = true) (k_Store_pending : PySem.W.keepIn K (.ref f_Store_pending) = true)
    {od_Store_crashes an_Store_crashes : Option Addr} {sl_Store_crashes : Array (Option Value)} {oc_Store_crashes kV_Store_crashes dc_Store_crashes pm_Store_crashes cd_Store_crashes ct_Store_crashes : Value}
    (a_Store_crashes : PySem.W.findIn K (.ref c_Store) "crashes" = some (some (.ref f_Store_crashes)))
    (l_Store_crashes : K.lookup f_Store_crashes = some ⟨oc_Store_crashes, od_Store_crashes, .func (PySem.W.fnOf "crashes" "Store.crashes" (defArgs s_Store_crashes) (defBody s_Store_crashes) (defScope s_Store_crashes) .none kV_Store_crashes dc_Store_crashes pm_Store_crashes an_Store_crashes cd_Store_crashes ct_Store_crashes), sl_Store_crashes⟩) (e_Store_crashes : PySem.W.codeIn K cd_Store_crashes "Store.crashes" = true) (k_Store_crashes : PySem.W.keepIn K (.ref f_Store_crashes) = true)
    (i_Store_crashes : PySem.W.isFn K (.ref f_Store_crashes) = true)
    {od_Store_recovered an_Store_recovered : Option Addr} {sl_Store_recovered : Array (Option Value)} {oc_Store_recovered kV_Store_recovered dc_Store_recovered pm_Store_recovered cd_Store_recovered ct_Store_recovered : Value}
    (a_Store_recovered : PySem.W.findIn K (.ref c_Store) "recovered" = some (some (.ref f_Store_recovered)))
    (l_Store_recovered : K.lookup f_Store_recovered = some ⟨oc_Store_recovered, od_Store_recovered, .func (PySem.W.fnOf "recovered" "Store.recovered" (defArgs s_Store_recovered) (defBody s_Store_recovered) (defScope s_Store_recovered) .none kV_Store_recovered dc_Store_recovered pm_Store_recovered an_Store_recovered cd_Store_recovered ct_Store_recovered), sl_Store_recovered⟩) (e_Store_recovered : PySem.W.codeIn K cd_Store_recovered "Store.recovered" = true) (k_Store_recovered : PySem.W.keepIn K (.ref f_Store_recovered) = true)
    (i_Store_recovered : PySem.W.isFn K (.ref f_Store_recovered) = true)
    {od_store_at an_store_at : Option Addr} {sl_store_at : Array (Option Value)} {oc_store_at kV_store_at dc_store_at pm_store_at cd_store_at ct_store_at : Value}
    (a_store_at : PySem.W.nsIn K mainGlobals "store_at" = some (some (.ref f_store_at)))
    (l_store_at : K.lookup f_store_at = some ⟨oc_store_at, od_store_at, .func (PySem.W.fnOf "store_at" "store_at" (defArgs s_store_at) (defBody s_store_at) (defScope s_store_at) .none kV_store_at dc_store_at pm_store_at an_store_at cd_store_at ct_store_at), sl_store_at⟩) (e_store_at : PySem.W.codeIn K cd_store_at "store_at" = true) (k_store_at : PySem.W.keepIn K (.ref f_store_at) = true)
    {od__law_pool an__law_pool : Option Addr} {sl__law_pool : Array (Option Value)} {oc__law_pool kV__law_pool dc__law_pool pm__law_pool cd__law_pool ct__law_pool : Value}
    (a__law_pool : PySem.W.nsIn K mainGlobals "_law_pool" = some (some (.ref f__law_pool)))
    (l__law_pool : K.lookup f__law_pool = some ⟨oc__law_pool, od__law_pool, .func (PySem.W.fnOf "_law_pool" "_law_pool" (defArgs s__law_pool) (defBody s__law_pool) (defScope s__law_pool) .none kV__law_pool dc__law_pool pm__law_pool an__law_pool cd__law_pool ct__law_pool), sl__law_pool⟩) (e__law_pool : PySem.W.codeIn K cd__law_pool "_law_pool" = true) (k__law_pool : PySem.W.keepIn K (.ref f__law_pool) = true)
    {od__law_mixed an__law_mixed : Option Addr} {sl__law_mixed : Array (Option Value)} {oc__law_mixed kV__law_mixed dc__law_mixed pm__law_mixed cd__law_mixed ct__law_mixed : Value}
    (a__law_mixed : PySem.W.nsIn K mainGlobals "_law_mixed" = some (some (.ref f__law_mixed)))
    (l__law_mixed : K.lookup f__law_mixed = some ⟨oc__law_mixed, od__law_mixed, .func (PySem.W.fnOf "_law_mixed" "_law_mixed" (defArgs s__law_mixed) (defBody s__law_mixed) (defScope s__law_mixed) .none kV__law_mixed dc__law_mixed pm__law_mixed an__law_mixed cd__law_mixed ct__law_mixed), sl__law_mixed⟩) (e__law_mixed : PySem.W.codeIn K cd__law_mixed "_law_mixed" = true) (k__law_mixed : PySem.W.keepIn K (.ref f__law_mixed) = true)
    {od__law_draw an__law_draw : Option Addr} {sl__law_draw : Array (Option Value)} {oc__law_draw kV__law_draw dc__law_draw pm__law_draw cd__law_draw ct__law_draw : Value}
    (a__law_draw : PySem.W.nsIn K mainGlobals "_law_draw" = some (some (.ref f__law_draw)))
    (l__law_draw : K.lookup f__law_draw = some ⟨oc__law_draw, od__law_draw, .func (PySem.W.fnOf "_law_draw" "_law_draw" (defArgs s__law_draw) (defBody s__law_draw) (defScope s__law_draw) .none kV__law_draw dc__law_draw pm__law_draw an__law_draw cd__law_draw ct__law_draw), sl__law_draw⟩) (e__law_draw : PySem.W.codeIn K cd__law_draw "_law_draw" = true) (k__law_draw : PySem.W.keepIn K (.ref f__law_draw) = true)
    {od__law_names an__law_names : Option Addr} {sl__law_names : Array (Option Value)} {oc__law_names kV__law_names dc__law_names pm__law_names cd__law_names ct__law_names : Value}
    (a__law_names : PySem.W.nsIn K mainGlobals "_law_names" = some (some (.ref f__law_names)))
    (l__law_names : K.lookup f__law_names = some ⟨oc__law_names, od__law_names, .func (PySem.W.fnOf "_law_names" "_law_names" (defArgs s__law_names) (defBody s__law_names) (defScope s__law_names) .none kV__law_names dc__law_names pm__law_names an__law_names cd__law_names ct__law_names), sl__law_names⟩) (e__law_names : PySem.W.codeIn K cd__law_names "_law_names" = true) (k__law_names : PySem.W.keepIn K (.ref f__law_names) = true)
    {od__law_applied an__law_applied : Option Addr} {sl__law_applied : Array (Option Value)} {oc__law_applied kV__law_applied dc__law_applied pm__law_applied cd__law_applied ct__law_applied : Value}
    (a__law_applied : PySem.W.nsIn K mainGlobals "_law_applied" = some (some (.ref f__law_applied)))
    (l__law_applied : K.lookup f__law_applied = some ⟨oc__law_applied, od__law_applied, .func (PySem.W.fnOf "_law_applied" "_law_applied" (defArgs s__law_applied) (defBody s__law_applied) (defScope s__law_applied) .none kV__law_applied dc__law_applied pm__law_applied an__law_applied cd__law_applied ct__law_applied), sl__law_applied⟩) (e__law_applied : PySem.W.codeIn K cd__law_applied "_law_applied" = true) (k__law_applied : PySem.W.keepIn K (.ref f__law_applied) = true)
    {od__law_crashes an__law_crashes : Option Addr} {sl__law_crashes : Array (Option Value)} {oc__law_crashes kV__law_crashes dc__law_crashes pm__law_crashes cd__law_crashes ct__law_crashes : Value}
    (a__law_crashes : PySem.W.nsIn K mainGlobals "_law_crashes" = some (some (.ref f__law_crashes)))
    (l__law_crashes : K.lookup f__law_crashes = some ⟨oc__law_crashes, od__law_crashes, .func (PySem.W.fnOf "_law_crashes" "_law_crashes" (defArgs s__law_crashes) (defBody s__law_crashes) (defScope s__law_crashes) .none kV__law_crashes dc__law_crashes pm__law_crashes an__law_crashes cd__law_crashes ct__law_crashes), sl__law_crashes⟩) (e__law_crashes : PySem.W.codeIn K cd__law_crashes "_law_crashes" = true) (k__law_crashes : PySem.W.keepIn K (.ref f__law_crashes) = true)
    {od__law_recovered an__law_recovered : Option Addr} {sl__law_recovered : Array (Option Value)} {oc__law_recovered kV__law_recovered dc__law_recovered pm__law_recovered cd__law_recovered ct__law_recovered : Value}
    (a__law_recovered : PySem.W.nsIn K mainGlobals "_law_recovered" = some (some (.ref f__law_recovered)))
    (l__law_recovered : K.lookup f__law_recovered = some ⟨oc__law_recovered, od__law_recovered, .func (PySem.W.fnOf "_law_recovered" "_law_recovered" (defArgs s__law_recovered) (defBody s__law_recovered) (defScope s__law_recovered) .none kV__law_recovered dc__law_recovered pm__law_recovered an__law_recovered cd__law_recovered ct__law_recovered), sl__law_recovered⟩) (e__law_recovered : PySem.W.codeIn K cd__law_recovered "_law_recovered" = true) (k__law_recovered : PySem.W.keepIn K (.ref f__law_recovered) = true)
    {od__law_event an__law_event : Option Addr} {sl__law_event : Array (Option Value)} {oc__law_event kV__law_event dc__law_event pm__law_event cd__law_event ct__law_event : Value}
    (a__law_event : PySem.W.nsIn K mainGlobals "_law_event" = some (some (.ref f__law_event)))
    (l__law_event : K.lookup f__law_event = some ⟨oc__law_event, od__law_event, .func (PySem.W.fnOf "_law_event" "_law_event" (defArgs s__law_event) (defBody s__law_event) (defScope s__law_event) .none kV__law_event dc__law_event pm__law_event an__law_event cd__law_event ct__law_event), sl__law_event⟩) (e__law_event : PySem.W.codeIn K cd__law_event "_law_event" = true) (k__law_event : PySem.W.keepIn K (.ref f__law_event) = true)
    {od__law_performed_right an__law_performed_right : Option Addr} {sl__law_performed_right : Array (Option Value)} {oc__law_performed_right kV__law_performed_right dc__law_performed_right pm__law_performed_right cd__law_performed_right ct__law_performed_right : Value}
    (a__law_performed_right : PySem.W.nsIn K mainGlobals "_law_performed_right" = some (some (.ref f__law_performed_right)))
    (l__law_performed_right : K.lookup f__law_performed_right = some ⟨oc__law_performed_right, od__law_performed_right, .func (PySem.W.fnOf "_law_performed_right" "_law_performed_right" (defArgs s__law_performed_right) (defBody s__law_performed_right) (defScope s__law_performed_right) .none kV__law_performed_right dc__law_performed_right pm__law_performed_right an__law_performed_right cd__law_performed_right ct__law_performed_right), sl__law_performed_right⟩) (e__law_performed_right : PySem.W.codeIn K cd__law_performed_right "_law_performed_right" = true) (k__law_performed_right : PySem.W.keepIn K (.ref f__law_performed_right) = true)
    {od__law_recovered_right an__law_recovered_right : Option Addr} {sl__law_recovered_right : Array (Option Value)} {oc__law_recovered_right kV__law_recovered_right dc__law_recovered_right pm__law_recovered_right cd__law_recovered_right ct__law_recovered_right : Value}
    (a__law_recovered_right : PySem.W.nsIn K mainGlobals "_law_recovered_right" = some (some (.ref f__law_recovered_right)))
    (l__law_recovered_right : K.lookup f__law_recovered_right = some ⟨oc__law_recovered_right, od__law_recovered_right, .func (PySem.W.fnOf "_law_recovered_right" "_law_recovered_right" (defArgs s__law_recovered_right) (defBody s__law_recovered_right) (defScope s__law_recovered_right) .none kV__law_recovered_right dc__law_recovered_right pm__law_recovered_right an__law_recovered_right cd__law_recovered_right ct__law_recovered_right), sl__law_recovered_right⟩) (e__law_recovered_right : PySem.W.codeIn K cd__law_recovered_right "_law_recovered_right" = true) (k__law_recovered_right : PySem.W.keepIn K (.ref f__law_recovered_right) = true)
    {od_law an_law : Option Addr} {sl_law : Array (Option Value)} {oc_law kV_law dc_law pm_law cd_law ct_law : Value}
    (a_law : PySem.W.nsIn K mainGlobals "law" = some (some (.ref f_law)))
    (l_law : K.lookup f_law = some ⟨oc_law, od_law, .func (PySem.W.fnOf "law" "law" (defArgs s_law) (defBody s_law) (defScope s_law) .none kV_law dc_law pm_law an_law cd_law ct_law), sl_law⟩) (e_law : PySem.W.codeIn K cd_law "law" = true) (k_law : PySem.W.keepIn K (.ref f_law) = true)
    (ac_Store : PySem.W.nsIn K mainGlobals "Store" = some (some (.ref c_Store))) (pg_Store : PySem.W.plainGet K c_Store Str.empty = true) (hd_Store : PySem.W.hasDictIn K c_Store = true) (po_Store : PySem.W.plainOver K c_Store = true) (sa_Store : PySem.W.findIn K (.ref c_Store) "__setattr__" = some (some (.builtin "object.__setattr__"))) (mk_Store : PySem.W.makesIn K c_Store = true) (kc_Store : PySem.W.keepIn K (.ref c_Store) = true)
    (nf_Store__values : PySem.W.findIn K (.ref c_Store) "_values" = some none)
    (nf_Store__records : PySem.W.findIn K (.ref c_Store) "_records" = some none)
    (nf_Store__ahead : PySem.W.findIn K (.ref c_Store) "_ahead" = some none)
    (z_enumerate : PySem.W.nsIn K mainGlobals "enumerate" = some none)
    (z_int : PySem.W.nsIn K mainGlobals "int" = some none)
    (z_len : PySem.W.nsIn K mainGlobals "len" = some none)
    (z_all : PySem.W.nsIn K mainGlobals "all" = some none)
    (z_isinstance : PySem.W.nsIn K mainGlobals "isinstance" = some none)
    (z_str : PySem.W.nsIn K mainGlobals "str" = some none)
    (z_tuple : PySem.W.nsIn K mainGlobals "tuple" = some none)
    (z_range : PySem.W.nsIn K mainGlobals "range" = some none)
    (z_bool : PySem.W.nsIn K mainGlobals "bool" = some none)
    (z_list : PySem.W.nsIn K mainGlobals "list" = some none)
    (z_dict : PySem.W.nsIn K mainGlobals "dict" = some none)
    {tk_LETTERS : Tok} (y_LETTERS : PySem.W.nsIn K mainGlobals "LETTERS" = some (some (.str LET tk_LETTERS)))
    {tk_DIGITS : Tok} (y_DIGITS : PySem.W.nsIn K mainGlobals "DIGITS" = some (some (.str DIG tk_DIGITS)))
    {td_KEYWORDS : Option Addr} {ti_KEYWORDS : Array Value} {tn_KEYWORDS : Nat} {ts_KEYWORDS : Array (Option Value)} (u_KEYWORDS : PySem.W.nsIn K mainGlobals "KEYWORDS" = some (some (.ref t_KEYWORDS))) (w_KEYWORDS : K.lookup t_KEYWORDS = some ⟨.type "tuple", td_KEYWORDS, .seq ti_KEYWORDS tn_KEYWORDS, ts_KEYWORDS⟩) (v_KEYWORDS : ti_KEYWORDS.size ≤ sizeLine ∧ Vals kws ti_KEYWORDS.toList)
    {td_FLUSH : Option Addr} {ti_FLUSH : Array Value} {tn_FLUSH : Nat} {ts_FLUSH : Array (Option Value)} (u_FLUSH : PySem.W.nsIn K mainGlobals "FLUSH" = some (some (.ref t_FLUSH))) (w_FLUSH : K.lookup t_FLUSH = some ⟨.type "tuple", td_FLUSH, .seq ti_FLUSH tn_FLUSH, ts_FLUSH⟩) (v_FLUSH : ti_FLUSH.size ≤ sizeLine ∧ Vals [.str "flush"] ti_FLUSH.toList)
    {td_CLEAR : Option Addr} {ti_CLEAR : Array Value} {tn_CLEAR : Nat} {ts_CLEAR : Array (Option Value)} (u_CLEAR : PySem.W.nsIn K mainGlobals "CLEAR" = some (some (.ref t_CLEAR))) (w_CLEAR : K.lookup t_CLEAR = some ⟨.type "tuple", td_CLEAR, .seq ti_CLEAR tn_CLEAR, ts_CLEAR⟩) (v_CLEAR : ti_CLEAR.size ≤ sizeLine ∧ Vals [.str "clear"] ti_CLEAR.toList)
    : ∃ fd : FuncData, (∀ (s : Shared) (v : Value), BindsTo s fd ⟨[v], []⟩ [("_law_script", v)]) ∧ ∀ base : Heap, K.In base → base.Ns mainGlobals mg → FnOk l.prog w K mg base CX0 12 fa fd ["_law_script"] (spLaw K) := by
  have e := hfa.symm.trans (PySem.W.mg_of X G a_law)
  cases e
  have F_is_integer := fun_mk (st := s_is_integer) l_is_integer e_is_integer k_is_integer
  have b_is_integer := F_is_integer.binds (ps := ["value"]) fun _ _ _ _ _ _ us hl => match us, hl with | [_], _ => rfl
  have F_is_word := fun_mk (st := s_is_word) l_is_word e_is_word k_is_word
  have b_is_word := F_is_word.binds (ps := ["text"]) fun _ _ _ _ _ _ us hl => match us, hl with | [_], _ => rfl
  have F_is_name := fun_mk (st := s_is_name) l_is_name e_is_name k_is_name
  have b_is_name := F_is_name.binds (ps := ["value"]) fun _ _ _ _ _ _ us hl => match us, hl with | [_], _ => rfl
  have F_are_values := fun_mk (st := s_are_values) l_are_values e_are_values k_are_values
  have b_are_values := F_are_values.binds (ps := ["value"]) fun _ _ _ _ _ _ us hl => match us, hl with | [_], _ => rfl
  have F_is_event := fun_mk (st := s_is_event) l_is_event e_is_event k_is_event
  have b_is_event := F_is_event.binds (ps := ["value", "values"]) fun _ _ _ _ _ _ us hl => match us, hl with | [_, _], _ => rfl
  have F_behind := fun_mk (st := s_behind) l_behind e_behind k_behind
  have b_behind := F_behind.binds (ps := ["values", "records", "events"]) fun _ _ _ _ _ _ us hl => match us, hl with | [_, _, _], _ => rfl
  have F_undone_by_log := fun_mk (st := s_undone_by_log) l_undone_by_log e_undone_by_log k_undone_by_log
  have b_undone_by_log := F_undone_by_log.binds (ps := ["values", "records"]) fun _ _ _ _ _ _ us hl => match us, hl with | [_, _], _ => rfl
  have F_Store___init__ := fun_mk (st := s_Store___init__) l_Store___init__ e_Store___init__ k_Store___init__
  have b_Store___init__ := F_Store___init__.binds (ps := ["self", "values"]) fun _ _ _ _ _ _ us hl => match us, hl with | [_, _], _ => rfl
  have F_Store_perform := fun_mk (st := s_Store_perform) l_Store_perform e_Store_perform k_Store_perform
  have b_Store_perform := F_Store_perform.binds (ps := ["self", "event"]) fun _ _ _ _ _ _ us hl => match us, hl with | [_, _], _ => rfl
  have F_Store_current := fun_mk (st := s_Store_current) l_Store_current e_Store_current k_Store_current
  have b_Store_current := F_Store_current.binds (ps := ["self"]) fun _ _ _ _ _ _ us hl => match us, hl with | [_], _ => rfl
  have F_Store_log := fun_mk (st := s_Store_log) l_Store_log e_Store_log k_Store_log
  have b_Store_log := F_Store_log.binds (ps := ["self"]) fun _ _ _ _ _ _ us hl => match us, hl with | [_], _ => rfl
  have F_Store_pending := fun_mk (st := s_Store_pending) l_Store_pending e_Store_pending k_Store_pending
  have b_Store_pending := F_Store_pending.binds (ps := ["self"]) fun _ _ _ _ _ _ us hl => match us, hl with | [_], _ => rfl
  have F_Store_crashes := fun_mk (st := s_Store_crashes) l_Store_crashes e_Store_crashes k_Store_crashes
  have b_Store_crashes := F_Store_crashes.binds (ps := ["self"]) fun _ _ _ _ _ _ us hl => match us, hl with | [_], _ => rfl
  have F_Store_recovered := fun_mk (st := s_Store_recovered) l_Store_recovered e_Store_recovered k_Store_recovered
  have b_Store_recovered := F_Store_recovered.binds (ps := ["self"]) fun _ _ _ _ _ _ us hl => match us, hl with | [_], _ => rfl
  have F_store_at := fun_mk (st := s_store_at) l_store_at e_store_at k_store_at
  have b_store_at := F_store_at.binds (ps := ["values", "records"]) fun _ _ _ _ _ _ us hl => match us, hl with | [_, _], _ => rfl
  have F__law_pool := fun_mk (st := s__law_pool) l__law_pool e__law_pool k__law_pool
  have b__law_pool := F__law_pool.binds (ps := ["_law_script"]) fun _ _ _ _ _ _ us hl => match us, hl with | [_], _ => rfl
  have F__law_mixed := fun_mk (st := s__law_mixed) l__law_mixed e__law_mixed k__law_mixed
  have b__law_mixed := F__law_mixed.binds (ps := ["_law_number", "_law_count", "_law_many"]) fun _ _ _ _ _ _ us hl => match us, hl with | [_, _, _], _ => rfl
  have F__law_draw := fun_mk (st := s__law_draw) l__law_draw e__law_draw k__law_draw
  have b__law_draw := F__law_draw.binds (ps := ["_law_pool_here", "_law_many"]) fun _ _ _ _ _ _ us hl => match us, hl with | [_, _], _ => rfl
  have F__law_names := fun_mk (st := s__law_names) l__law_names e__law_names k__law_names
  have b__law_names := F__law_names.binds (ps := ["_law_pool_here"]) fun _ _ _ _ _ _ us hl => match us, hl with | [_], _ => rfl
  have F__law_applied := fun_mk (st := s__law_applied) l__law_applied e__law_applied k__law_applied
  have b__law_applied := F__law_applied.binds (ps := ["_law_state", "_law_event_here"]) fun _ _ _ _ _ _ us hl => match us, hl with | [_, _], _ => rfl
  have F__law_crashes := fun_mk (st := s__law_crashes) l__law_crashes e__law_crashes k__law_crashes
  have b__law_crashes := F__law_crashes.binds (ps := ["_law_values", "_law_events"]) fun _ _ _ _ _ _ us hl => match us, hl with | [_, _], _ => rfl
  have F__law_recovered := fun_mk (st := s__law_recovered) l__law_recovered e__law_recovered k__law_recovered
  have b__law_recovered := F__law_recovered.binds (ps := ["_law_state"]) fun _ _ _ _ _ _ us hl => match us, hl with | [_], _ => rfl
  have F__law_event := fun_mk (st := s__law_event) l__law_event e__law_event k__law_event
  have b__law_event := F__law_event.binds (ps := ["_law_pool_here", "_law_values", "_law_names_here"]) fun _ _ _ _ _ _ us hl => match us, hl with | [_, _, _], _ => rfl
  have F__law_performed_right := fun_mk (st := s__law_performed_right) l__law_performed_right e__law_performed_right k__law_performed_right
  have b__law_performed_right := F__law_performed_right.binds (ps := ["_law_store", "_law_values", "_law_events", "_law_middle"]) fun _ _ _ _ _ _ us hl => match us, hl with | [_, _, _, _], _ => rfl
  have F__law_recovered_right := fun_mk (st := s__law_recovered_right) l__law_recovered_right e__law_recovered_right k__law_recovered_right
  have b__law_recovered_right := F__law_recovered_right.binds (ps := ["_law_crash", "_law_state", "_law_name"]) fun _ _ _ _ _ _ us hl => match us, hl with | [_, _, _], _ => rfl
  have F_law := fun_mk (st := s_law) l_law e_law k_law
  have T : Txt K mg { f_is_integer := f_is_integer, f_is_integer_d := _, f_is_word := f_is_word, f_is_word_d := _, f_is_name := f_is_name, f_is_name_d := _, f_are_values := f_are_values, f_are_values_d := _, f_is_event := f_is_event, f_is_event_d := _, f_behind := f_behind, f_behind_d := _, f_undone_by_log := f_undone_by_log, f_undone_by_log_d := _, f_Store___init__ := f_Store___init__, f_Store___init___d := _, f_Store_perform := f_Store_perform, f_Store_perform_d := _, f_Store_current := f_Store_current, f_Store_current_d := _, f_Store_log := f_Store_log, f_Store_log_d := _, f_Store_pending := f_Store_pending, f_Store_pending_d := _, f_Store_crashes := f_Store_crashes, f_Store_crashes_d := _, f_Store_recovered := f_Store_recovered, f_Store_recovered_d := _, f_store_at := f_store_at, f_store_at_d := _, f__law_pool := f__law_pool, f__law_pool_d := _, f__law_mixed := f__law_mixed, f__law_mixed_d := _, f__law_draw := f__law_draw, f__law_draw_d := _, f__law_names := f__law_names, f__law_names_d := _, f__law_applied := f__law_applied, f__law_applied_d := _, f__law_crashes := f__law_crashes, f__law_crashes_d := _, f__law_recovered := f__law_recovered, f__law_recovered_d := _, f__law_event := f__law_event, f__law_event_d := _, f__law_performed_right := f__law_performed_right, f__law_performed_right_d := _, f__law_recovered_right := f__law_recovered_right, f__law_recovered_right_d := _, f_law := fa, f_law_d := _, c_Store := c_Store, t_KEYWORDS := t_KEYWORDS, t_FLUSH := t_FLUSH, t_CLEAR := t_CLEAR, pr_Store_pending := pr_Store_pending } := {
    F_is_integer := F_is_integer,
    b_is_integer := b_is_integer,
    g_is_integer := PySem.W.mg_of X G a_is_integer,
    F_is_word := F_is_word,
    b_is_word := b_is_word,
    g_is_word := PySem.W.mg_of X G a_is_word,
    F_is_name := F_is_name,
    b_is_name := b_is_name,
    g_is_name := PySem.W.mg_of X G a_is_name,
    F_are_values := F_are_values,
    b_are_values := b_are_values,
    g_are_values := PySem.W.mg_of X G a_are_values,
    F_is_event := F_is_event,
    b_is_event := b_is_event,
    g_is_event := PySem.W.mg_of X G a_is_event,
    F_behind := F_behind,
    b_behind := b_behind,
    g_behind := PySem.W.mg_of X G a_behind,
    F_undone_by_log := F_undone_by_log,
    b_undone_by_log := b_undone_by_log,
    g_undone_by_log := PySem.W.mg_of X G a_undone_by_log,
    F_Store___init__ := F_Store___init__,
    b_Store___init__ := b_Store___init__,
    mk_Store := ⟨mk_Store, a_Store___init__, i_Store___init__, kc_Store⟩,
    F_Store_perform := F_Store_perform,
    b_Store_perform := b_Store_perform,
    m_Store_perform := ⟨a_Store_perform, i_Store_perform, k_Store_perform⟩,
    F_Store_current := F_Store_current,
    b_Store_current := b_Store_current,
    m_Store_current := ⟨a_Store_current, i_Store_current, k_Store_current⟩,
    F_Store_log := F_Store_log,
    b_Store_log := b_Store_log,
    m_Store_log := ⟨a_Store_log, i_Store_log, k_Store_log⟩,
    F_Store_pending := F_Store_pending,
    b_Store_pending := b_Store_pending,
    pp_Store_pending := ⟨a_Store_pending, pg_Store_pending, pt_Store_pending, _, pq_Store_pending⟩,
    F_Store_crashes := F_Store_crashes,
    b_Store_crashes := b_Store_crashes,
    m_Store_crashes := ⟨a_Store_crashes, i_Store_crashes, k_Store_crashes⟩,
    F_Store_recovered := F_Store_recovered,
    b_Store_recovered := b_Store_recovered,
    m_Store_recovered := ⟨a_Store_recovered, i_Store_recovered, k_Store_recovered⟩,
    F_store_at := F_store_at,
    b_store_at := b_store_at,
    g_store_at := PySem.W.mg_of X G a_store_at,
    F__law_pool := F__law_pool,
    b__law_pool := b__law_pool,
    g__law_pool := PySem.W.mg_of X G a__law_pool,
    F__law_mixed := F__law_mixed,
    b__law_mixed := b__law_mixed,
    g__law_mixed := PySem.W.mg_of X G a__law_mixed,
    F__law_draw := F__law_draw,
    b__law_draw := b__law_draw,
    g__law_draw := PySem.W.mg_of X G a__law_draw,
    F__law_names := F__law_names,
    b__law_names := b__law_names,
    g__law_names := PySem.W.mg_of X G a__law_names,
    F__law_applied := F__law_applied,
    b__law_applied := b__law_applied,
    g__law_applied := PySem.W.mg_of X G a__law_applied,
    F__law_crashes := F__law_crashes,
    b__law_crashes := b__law_crashes,
    g__law_crashes := PySem.W.mg_of X G a__law_crashes,
    F__law_recovered := F__law_recovered,
    b__law_recovered := b__law_recovered,
    g__law_recovered := PySem.W.mg_of X G a__law_recovered,
    F__law_event := F__law_event,
    b__law_event := b__law_event,
    g__law_event := PySem.W.mg_of X G a__law_event,
    F__law_performed_right := F__law_performed_right,
    b__law_performed_right := b__law_performed_right,
    g__law_performed_right := PySem.W.mg_of X G a__law_performed_right,
    F__law_recovered_right := F__law_recovered_right,
    b__law_recovered_right := b__law_recovered_right,
    g__law_recovered_right := PySem.W.mg_of X G a__law_recovered_right,
    F_law := F_law,
    g_law := PySem.W.mg_of X G a_law,
    cl_Store := ⟨pg_Store, hd_Store, po_Store, sa_Store⟩,
    mg_Store := PySem.W.mg_of X G ac_Store,
    n_Store__values := nf_Store__values,
    n_Store__records := nf_Store__records,
    n_Store__ahead := nf_Store__ahead,
    enumerate := PySem.W.mg_none_of X G z_enumerate,
    int := PySem.W.mg_none_of X G z_int,
    len := PySem.W.mg_none_of X G z_len,
    all := PySem.W.mg_none_of X G z_all,
    isinstance := PySem.W.mg_none_of X G z_isinstance,
    str := PySem.W.mg_none_of X G z_str,
    tuple := PySem.W.mg_none_of X G z_tuple,
    range := PySem.W.mg_none_of X G z_range,
    bool := PySem.W.mg_none_of X G z_bool,
    list := PySem.W.mg_none_of X G z_list,
    dict := PySem.W.mg_none_of X G z_dict,
    g_LETTERS := ⟨_, PySem.W.mg_of X G y_LETTERS⟩,
    g_DIGITS := ⟨_, PySem.W.mg_of X G y_DIGITS⟩,
    g_KEYWORDS := PySem.W.mg_of X G u_KEYWORDS,
    q_KEYWORDS := fun H => .inr ⟨_, _, _, w_KEYWORDS, rfl, rfl, v_KEYWORDS.1, v_KEYWORDS.2⟩,
    g_FLUSH := PySem.W.mg_of X G u_FLUSH,
    q_FLUSH := fun H => .inr ⟨_, _, _, w_FLUSH, rfl, rfl, v_FLUSH.1, v_FLUSH.2⟩,
    g_CLEAR := PySem.W.mg_of X G u_CLEAR,
    q_CLEAR := fun H => .inr ⟨_, _, _, w_CLEAR, rfl, rfl, v_CLEAR.1, v_CLEAR.2⟩ }
  exact ⟨PySem.W.fnOf "law" "law" (defArgs s_law) (defBody s_law) (defScope s_law) .none kV_law dc_law pm_law an_law cd_law ct_law, fun s v => .of_eq rfl, fun base _ _ => ok_law T⟩
end K27
open PySem PySem.W PyProof.Rows
set_option maxRecDepth 100000 in
set_option maxHeartbeats 0 in
theorem PySem.Challenge.cw_allornothing_k27_crashes_holds : PySem.Challenge.rw_allornothing_k27_crashes.Holds := by
  w_on; o_law; k_head; (case hw => w_witness2)
  k_fill
  refine L2.walk_of (l := PySem.Challenge.rw_allornothing_k27_crashes) (n := 63) (k := 12) (x := "_law_script") (CX := fun _ => L2.CX0) (sp := fun w => K27.spLaw _) rfl (by decide) rfl ⟨rfl, by decide, by decide⟩ (fun w h Y => PySem.W.kIn_of Y) ?F (fun _ _ a ns hl _ hS => ⟨a, ns, rfl, hS, hl, fun _ => rfl⟩) (fun _ _ _ _ _ h => h)
  case F =>
    intro w mg fa h KX G hmg
    refine' K27.all_mk KX G hmg ?a_is_integer ?l_is_integer ?e_is_integer ?k_is_integer ?a_is_word ?l_is_word ?e_is_word ?k_is_word ?a_is_name ?l_is_name ?e_is_name ?k_is_name ?a_are_values ?l_are_values ?e_are_values ?k_are_values ?a_is_event ?l_is_event ?e_is_event ?k_is_event ?a_behind ?l_behind ?e_behind ?k_behind ?a_undone_by_log ?l_undone_by_log ?e_undone_by_log ?k_undone_by_log ?a_Store___init__ ?l_Store___init__ ?e_Store___init__ ?k_Store___init__ ?i_Store___init__ ?a_Store_perform ?l_Store_perform ?e_Store_perform ?k_Store_perform ?i_Store_perform ?a_Store_current ?l_Store_current ?e_Store_current ?k_Store_current ?i_Store_current ?a_Store_log ?l_Store_log ?e_Store_log ?k_Store_log ?i_Store_log ?a_Store_pending ?pg_Store_pending ?pt_Store_pending ?pq_Store_pending ?l_Store_pending ?e_Store_pending ?k_Store_pending ?a_Store_crashes ?l_Store_crashes ?e_Store_crashes ?k_Store_crashes ?i_Store_crashes ?a_Store_recovered ?l_Store_recovered ?e_Store_recovered ?k_Store_recovered ?i_Store_recovered ?a_store_at ?l_store_at ?e_store_at ?k_store_at ?a__law_pool ?l__law_pool ?e__law_pool ?k__law_pool ?a__law_mixed ?l__law_mixed ?e__law_mixed ?k__law_mixed ?a__law_draw ?l__law_draw ?e__law_draw ?k__law_draw ?a__law_names ?l__law_names ?e__law_names ?k__law_names ?a__law_applied ?l__law_applied ?e__law_applied ?k__law_applied ?a__law_crashes ?l__law_crashes ?e__law_crashes ?k__law_crashes ?a__law_recovered ?l__law_recovered ?e__law_recovered ?k__law_recovered ?a__law_event ?l__law_event ?e__law_event ?k__law_event ?a__law_performed_right ?l__law_performed_right ?e__law_performed_right ?k__law_performed_right ?a__law_recovered_right ?l__law_recovered_right ?e__law_recovered_right ?k__law_recovered_right ?a_law ?l_law ?e_law ?k_law ?ac_Store ?pg_Store ?hd_Store ?po_Store ?sa_Store ?mk_Store ?kc_Store ?nf_Store__values ?nf_Store__records ?nf_Store__ahead ?z_enumerate ?z_int ?z_len ?z_all ?z_isinstance ?z_str ?z_tuple ?z_range ?z_bool ?z_list ?z_dict ?y_LETTERS ?y_DIGITS ?u_KEYWORDS ?w_KEYWORDS ?v_KEYWORDS ?u_FLUSH ?w_FLUSH ?v_FLUSH ?u_CLEAR ?w_CLEAR ?v_CLEAR
    (case ac_Store => k_is)
    (case a_is_integer => k_is)
    (case l_is_integer => k_is)
    (case e_is_integer => k_is)
    (case k_is_integer => k_is)
    (case a_is_word => k_is)
    (case l_is_word => k_is)
    (case e_is_word => k_is)
    (case k_is_word => k_is)
    (case a_is_name => k_is)
    (case l_is_name => k_is)
    (case e_is_name => k_is)
    (case k_is_name => k_is)
    (case a_are_values => k_is)
    (case l_are_values => k_is)
    (case e_are_values => k_is)
    (case k_are_values => k_is)
    (case a_is_event => k_is)
    (case l_is_event => k_is)
    (case e_is_event => k_is)
    (case k_is_event => k_is)
    (case a_behind => k_is)
    (case l_behind => k_is)
    (case e_behind => k_is)
    (case k_behind => k_is)
    (case a_undone_by_log => k_is)
    (case l_undone_by_log => k_is)
    (case e_undone_by_log => k_is)
    (case k_undone_by_log => k_is)
    (case a_Store___init__ => k_is)
    (case l_Store___init__ => k_is)
    (case e_Store___init__ => k_is)
    (case k_Store___init__ => k_is)
    (case i_Store___init__ => k_is)
    (case a_Store_perform => k_is)
    (case l_Store_perform => k_is)
    (case e_Store_perform => k_is)
    (case k_Store_perform => k_is)
    (case i_Store_perform => k_is)
    (case a_Store_current => k_is)
    (case l_Store_current => k_is)
    (case e_Store_current => k_is)
    (case k_Store_current => k_is)
    (case i_Store_current => k_is)
    (case a_Store_log => k_is)
    (case l_Store_log => k_is)
    (case e_Store_log => k_is)
    (case k_Store_log => k_is)
    (case i_Store_log => k_is)
    (case a_Store_pending => k_is)
    (case pg_Store_pending => k_is)
    (case pt_Store_pending => k_is)
    (case pq_Store_pending => k_is)
    (case l_Store_pending => k_is)
    (case e_Store_pending => k_is)
    (case k_Store_pending => k_is)
    (case a_Store_crashes => k_is)
    (case l_Store_crashes => k_is)
    (case e_Store_crashes => k_is)
    (case k_Store_crashes => k_is)
    (case i_Store_crashes => k_is)
    (case a_Store_recovered => k_is)
    (case l_Store_recovered => k_is)
    (case e_Store_recovered => k_is)
    (case k_Store_recovered => k_is)
    (case i_Store_recovered => k_is)
    (case a_store_at => k_is)
    (case l_store_at => k_is)
    (case e_store_at => k_is)
    (case k_store_at => k_is)
    (case a__law_pool => k_is)
    (case l__law_pool => k_is)
    (case e__law_pool => k_is)
    (case k__law_pool => k_is)
    (case a__law_mixed => k_is)
    (case l__law_mixed => k_is)
    (case e__law_mixed => k_is)
    (case k__law_mixed => k_is)
    (case a__law_draw => k_is)
    (case l__law_draw => k_is)
    (case e__law_draw => k_is)
    (case k__law_draw => k_is)
    (case a__law_names => k_is)
    (case l__law_names => k_is)
    (case e__law_names => k_is)
    (case k__law_names => k_is)
    (case a__law_applied => k_is)
    (case l__law_applied => k_is)
    (case e__law_applied => k_is)
    (case k__law_applied => k_is)
    (case a__law_crashes => k_is)
    (case l__law_crashes => k_is)
    (case e__law_crashes => k_is)
    (case k__law_crashes => k_is)
    (case a__law_recovered => k_is)
    (case l__law_recovered => k_is)
    (case e__law_recovered => k_is)
    (case k__law_recovered => k_is)
    (case a__law_event => k_is)
    (case l__law_event => k_is)
    (case e__law_event => k_is)
    (case k__law_event => k_is)
    (case a__law_performed_right => k_is)
    (case l__law_performed_right => k_is)
    (case e__law_performed_right => k_is)
    (case k__law_performed_right => k_is)
    (case a__law_recovered_right => k_is)
    (case l__law_recovered_right => k_is)
    (case e__law_recovered_right => k_is)
    (case k__law_recovered_right => k_is)
    (case a_law => k_is)
    (case l_law => k_is)
    (case e_law => k_is)
    (case k_law => k_is)
    (case pg_Store => k_is)
    (case hd_Store => k_is)
    (case po_Store => k_is)
    (case sa_Store => k_is)
    (case mk_Store => k_is)
    (case kc_Store => k_is)
    (case nf_Store__values => k_is)
    (case nf_Store__records => k_is)
    (case nf_Store__ahead => k_is)
    (case z_enumerate => k_is)
    (case z_int => k_is)
    (case z_len => k_is)
    (case z_all => k_is)
    (case z_isinstance => k_is)
    (case z_str => k_is)
    (case z_tuple => k_is)
    (case z_range => k_is)
    (case z_bool => k_is)
    (case z_list => k_is)
    (case z_dict => k_is)
    (case y_LETTERS => k_is)
    (case y_DIGITS => k_is)
    (case u_KEYWORDS => k_is)
    (case w_KEYWORDS => k_is)
    (case v_KEYWORDS => exact ⟨by decide, by repeat (first | exact .nil | refine .cons ⟨_, rfl⟩ ?_)⟩)
    (case u_FLUSH => k_is)
    (case w_FLUSH => k_is)
    (case v_FLUSH => exact ⟨by decide, by repeat (first | exact .nil | refine .cons ⟨_, rfl⟩ ?_)⟩)
    (case u_CLEAR => k_is)
    (case w_CLEAR => k_is)
    (case v_CLEAR => exact ⟨by decide, by repeat (first | exact .nil | refine .cons ⟨_, rfl⟩ ?_)⟩)
