import PyProof.Rows.All
import Wide.All
import OpenK.AllK
import Wide.FinOn
import HandS.ForMost
import HandS.Wide
import HandS.Steps
import HandS.IsInst
import HandS.Gcd
import HandS.Zip
import HandS.DictComp
import HandS.Walk
import HandS.TupAny
import KE.GoesEnum
import KE.KMathGC
import HandS.OwnEq
import HandS.Property
import HandS.Records
import HandS.More
import HandS.TupMul
import HandS.DictEq
import HandS.DeepEq
import HandS.WordsDict
import KE.KEqDict
import PySem.Challenge.RW_allornothing_k41_spans_of_rows
set_option Elab.async false
set_option linter.all false
set_option maxRecDepth 100000
set_option maxHeartbeats 8000000
namespace LA
/-- the numbers of a row -/
def co (r : List Int) (p : Nat) : Int := r.getD p 0
theorem co_nil (p : Nat) : co [] p = 0 := rfl
theorem co_ge {r : List Int} {p : Nat} (h : r.length ≤ p) : co r p = 0 := by
  unfold co
  rw [List.getD_eq_getElem?_getD, List.getElem?_eq_none h]; rfl
theorem co_lt {r : List Int} {p : Nat} (h : p < r.length) : co r p = r[p] := by
  unfold co
  rw [List.getD_eq_getElem?_getD, List.getElem?_eq_getElem h]; rfl
theorem co_get {r : List Int} {p : Nat} {x : Int} (h : r[p]? = some x) : co r p = x := by
  unfold co
  rw [List.getD_eq_getElem?_getD, h]; rfl
theorem get_co {r : List Int} {p : Nat} (h : p < r.length) : r[p]? = some (co r p) := by rw [co_lt h, List.getElem?_eq_getElem h]
theorem co_map {r : List Int} {f : Int → Int} (h0 : f 0 = 0) (p : Nat) : co (r.map f) p = f (co r p) := by
  by_cases h : p < r.length
  · rw [co_lt h, co_lt (by rw [List.length_map]; exact h), List.getElem_map]
  · rw [co_ge (r := r) (by omega), co_ge (by rw [List.length_map]; omega), h0]
theorem co_zip {r s : List Int} {f : Int → Int → Int} (hl : r.length = s.length) (h0 : f 0 0 = 0) (p : Nat) : co (List.zipWith f r s) p = f (co r p) (co s p) := by
  by_cases h : p < r.length
  · rw [co_lt h, co_lt (r := s) (by omega), co_lt (by rw [List.length_zipWith]; omega), List.getElem_zipWith]
  · rw [co_ge (r := r) (by omega), co_ge (r := s) (by omega), co_ge (by rw [List.length_zipWith]; omega), h0]
theorem co_set {r : List Int} {i : Nat} {x : Int} (h : i < r.length) (p : Nat) : co (r.set i x) p = if p = i then x else co r p := by
  by_cases e : p = i
  · subst e; rw [if_pos rfl, co_lt (by rw [List.length_set]; exact h), List.getElem_set_self]
  · rw [if_neg e]
    unfold co
    rw [List.getD_eq_getElem?_getD, List.getD_eq_getElem?_getD, List.getElem?_set_ne (by omega)]
theorem co_ext {r s : List Int} (hl : r.length = s.length) (h : ∀ p, co r p = co s p) : r = s := by
  apply List.ext_getElem hl
  intro i h1 h2
  rw [← co_lt h1, ← co_lt h2, h i]
abbrev Vec := Nat → Int
/-- sums of multiples of rows -/
def lin : (Nat → Int) → List (List Int) → Vec
  | _, [], _ => 0
  | c, r :: rs, p => c 0 * co r p + lin (fun i => c (i + 1)) rs p
theorem lin_add (c d : Nat → Int) (S : List (List Int)) (p : Nat) : lin (fun i => c i + d i) S p = lin c S p + lin d S p := by
  induction S generalizing c d with
  | nil => rfl
  | cons r rs ih => show (c 0 + d 0) * _ + lin (fun i => c (i + 1) + d (i + 1)) rs p = _; rw [ih]; show _ = (c 0 * _ + _) + (d 0 * _ + _); grind
theorem lin_mul (k : Int) (c : Nat → Int) (S : List (List Int)) (p : Nat) : lin (fun i => k * c i) S p = k * lin c S p := by
  induction S generalizing c with
  | nil => exact (Int.mul_zero k).symm
  | cons r rs ih => show (k * c 0) * _ + lin (fun i => k * c (i + 1)) rs p = _; rw [ih]; show _ = k * (c 0 * _ + _); grind
theorem lin_none (c : Nat → Int) (S : List (List Int)) (p : Nat) (h : ∀ i s, S[i]? = some s → c i * co s p = 0) : lin c S p = 0 := by
  induction S generalizing c with
  | nil => rfl
  | cons r rs ih =>
    show c 0 * _ + lin (fun i => c (i + 1)) rs p = 0
    rw [ih (fun i => c (i + 1)) (fun i s e => h (i + 1) s (by simpa using e)), h 0 r rfl]
    rfl
/-- only the i-th row counts -/
theorem lin_one (c : Nat → Int) (S : List (List Int)) (p : Nat) (i : Nat) (r : List Int) (hr : S[i]? = some r) (h : ∀ j s, S[j]? = some s → j ≠ i → c j * co s p = 0) : lin c S p = c i * co r p := by
  induction S generalizing c i with
  | nil => simp at hr
  | cons s rs ih =>
    show c 0 * _ + lin (fun i => c (i + 1)) rs p = _
    cases i with
    | zero =>
      have e : s = r := by simpa using hr
      subst e
      rw [lin_none _ _ _ fun j t e => h (j + 1) t (by simpa using e) (by omega)]
      exact Int.add_zero _
    | succ i =>
      rw [ih (fun i => c (i + 1)) i (by simpa using hr) (fun j s e n => h (j + 1) s (by simpa using e) (by omega)), h 0 s rfl (by omega)]
      exact Int.zero_add _
theorem lin_some (c : Nat → Int) (S : List (List Int)) (p : Nat) (h : lin c S p ≠ 0) : ∃ i s, S[i]? = some s ∧ c i ≠ 0 ∧ co s p ≠ 0 := by
  by_cases q : ∃ i s, S[i]? = some s ∧ c i ≠ 0 ∧ co s p ≠ 0
  · exact q
  · refine absurd (lin_none c S p fun i s e => ?_) h
    by_cases h1 : c i = 0
    · rw [h1, Int.zero_mul]
    · by_cases h2 : co s p = 0
      · rw [h2, Int.mul_zero]
      · exact absurd ⟨i, s, e, h1, h2⟩ q
def put (c : Nat → Int) (i : Nat) (a : Int) : Nat → Int := fun j => if j = i then a else c j
theorem lin_put (c : Nat → Int) (S : List (List Int)) (p : Nat) (i : Nat) (r : List Int) (a : Int) (hr : S[i]? = some r) : lin (put c i a) S p = lin c S p + (a - c i) * co r p := by
  have h1 : lin (fun j => put c i a j + -1 * c j) S p = (put c i a i + -1 * c i) * co r p := lin_one _ S p i r hr fun j s e n => by
    unfold put; rw [if_neg n]; grind
  rw [lin_add (put c i a) (fun j => -1 * c j), lin_mul] at h1
  have : put c i a i = a := if_pos rfl
  rw [this] at h1
  grind
theorem lin_set (c : Nat → Int) (S : List (List Int)) (p : Nat) (i : Nat) (r x : List Int) (hr : S[i]? = some r) : lin c (S.set i x) p = lin c S p + c i * (co x p - co r p) := by
  induction S generalizing c i with
  | nil => simp at hr
  | cons s rs ih =>
    cases i with
    | zero =>
      have e : s = r := by simpa using hr
      subst e
      show c 0 * co x p + _ = c 0 * co s p + _ + c 0 * _
      grind
    | succ i =>
      show c 0 * co s p + lin (fun i => c (i + 1)) (rs.set i x) p = c 0 * co s p + lin (fun i => c (i + 1)) rs p + c (i + 1) * _
      rw [ih (fun i => c (i + 1)) i (by simpa using hr)]
      grind
/-- the span -/
inductive Sp (S : List (List Int)) : Vec → Prop
  | mem {r : List Int} : r ∈ S → Sp S (co r)
  | zero : Sp S fun _ => 0
  | add {u v : Vec} : Sp S u → Sp S v → Sp S fun p => u p + v p
  | smul {u : Vec} (c : Int) : Sp S u → Sp S fun p => c * u p
  | div {u : Vec} {k : Int} : k ≠ 0 → Sp S (fun p => k * u p) → Sp S u
theorem Sp.eq {S : List (List Int)} {u v : Vec} (h : Sp S u) (e : ∀ p, u p = v p) : Sp S v := by
  have : u = v := funext e
  exact this ▸ h
theorem Sp.le {S T : List (List Int)} (h : ∀ r ∈ S, Sp T (co r)) {u : Vec} (hu : Sp S u) : Sp T u := by
  induction hu with
  | mem m => exact h _ m
  | zero => exact .zero
  | add _ _ a b => exact .add a b
  | smul c _ a => exact .smul c a
  | div k _ a => exact .div k a
theorem Sp.sub {S T : List (List Int)} (h : ∀ r ∈ S, r ∈ T) {u : Vec} (hu : Sp S u) : Sp T u := Sp.le (fun r m => .mem (h r m)) hu
/-- k u = f v - t w, k not 0 -/
theorem Sp.rel {S : List (List Int)} {u v w : Vec} {k f t : Int} (hk : k ≠ 0) (hv : Sp S v) (hw : Sp S w) (e : ∀ p, k * u p = f * v p - t * w p) : Sp S u :=
  .div hk (Sp.eq (.add (.smul f hv) (.smul (-t) hw)) fun p => by rw [e p]; grind)
theorem Sp.rep {S : List (List Int)} {u : Vec} (h : Sp S u) : ∃ d : Int, d ≠ 0 ∧ ∃ c : Nat → Int, ∀ p, d * u p = lin c S p := by
  induction h with
  | @mem r m =>
    obtain ⟨i, hi, e⟩ := List.getElem_of_mem m
    refine ⟨1, by decide, fun j => if j = i then 1 else 0, fun p => ?_⟩
    rw [lin_one _ S p i r (by rw [List.getElem?_eq_getElem hi, e]) fun j s _ n => by rw [if_neg n, Int.zero_mul]]
    simp
  | zero => exact ⟨1, by decide, fun _ => 0, fun p => by rw [lin_none _ _ _ fun i s _ => Int.zero_mul _]; rfl⟩
  | add _ _ a b =>
    obtain ⟨d1, h1, c1, e1⟩ := a
    obtain ⟨d2, h2, c2, e2⟩ := b
    refine ⟨d1 * d2, Int.mul_ne_zero h1 h2, fun i => d2 * c1 i + d1 * c2 i, fun p => ?_⟩
    rw [lin_add (fun i => d2 * c1 i) (fun i => d1 * c2 i), lin_mul, lin_mul, ← e1, ← e2]
    grind
  | smul k _ a =>
    obtain ⟨d, h, c, e⟩ := a
    exact ⟨d, h, fun i => k * c i, fun p => by rw [lin_mul, ← e]; grind⟩
  | @div u k hk _ a =>
    obtain ⟨d, h, c, e⟩ := a
    exact ⟨d * k, Int.mul_ne_zero h hk, c, fun p => by rw [← e]; grind⟩
theorem Sp.nil {u : Vec} (h : Sp [] u) : ∀ p, u p = 0 := by
  obtain ⟨d, hd, c, e⟩ := h.rep
  intro p
  have : d * u p = 0 := e p
  rcases Int.mul_eq_zero.mp this with h | h
  · exact absurd h hd
  · exact h
theorem Sp.wide {S : List (List Int)} {w : Nat} (hS : ∀ r ∈ S, r.length = w) {u : Vec} (h : Sp S u) {p : Nat} (hp : w ≤ p) : u p = 0 := by
  induction h with
  | mem m => exact co_ge (by rw [hS _ m]; exact hp)
  | zero => rfl
  | add _ _ a b => show _ + _ = _; rw [a, b]; rfl
  | smul c _ a => show _ * _ = _; rw [a]; exact Int.mul_zero _
  | div k _ a =>
    rcases Int.mul_eq_zero.mp a with h | h
    · exact absurd h k
    · exact h
def SpEq (S T : List (List Int)) : Prop := ∀ u, Sp S u ↔ Sp T u
theorem SpEq.refl (S : List (List Int)) : SpEq S S := fun _ => Iff.rfl
theorem SpEq.symm {S T : List (List Int)} (h : SpEq S T) : SpEq T S := fun u => (h u).symm
theorem SpEq.trans {S T U : List (List Int)} (h : SpEq S T) (k : SpEq T U) : SpEq S U := fun u => (h u).trans (k u)
theorem SpEq.of {S T : List (List Int)} (h : ∀ r ∈ S, Sp T (co r)) (k : ∀ r ∈ T, Sp S (co r)) : SpEq S T := fun u => ⟨Sp.le h, Sp.le k⟩
theorem SpEq.mem {S T : List (List Int)} (h : ∀ r, r ∈ S ↔ r ∈ T) : SpEq S T := .of (fun r m => .mem ((h r).mp m)) fun r m => .mem ((h r).mpr m)
theorem SpEq.app {S S' T : List (List Int)} (h : SpEq S S') : SpEq (S ++ T) (S' ++ T) := .of
  (fun r m => (List.mem_append.mp m).elim (fun m => Sp.sub (fun _ m => List.mem_append_left _ m) ((h _).mp (.mem m))) fun m => .mem (List.mem_append_right _ m))
  (fun r m => (List.mem_append.mp m).elim (fun m => Sp.sub (fun _ m => List.mem_append_left _ m) ((h _).mpr (.mem m))) fun m => .mem (List.mem_append_right _ m))
/-- the lead of a vector -/
def Lead (u : Vec) (p : Nat) : Prop := u p ≠ 0 ∧ ∀ q, q < p → u q = 0
theorem Lead.uniq {u : Vec} {p q : Nat} (a : Lead u p) (b : Lead u q) : p = q := by
  rcases Nat.lt_trichotomy p q with h | h | h
  · exact absurd (b.2 p h) a.1
  · exact h
  · exact absurd (a.2 q h) b.1
/-- a table: each row has its lead, where all others have 0 -/
structure Tab (w : Nat) (T : List (Nat × List Int)) : Prop where
  len : ∀ l r, (l, r) ∈ T → r.length = w
  lead : ∀ l r, (l, r) ∈ T → Lead (co r) l
  other : ∀ l r l' r', (l, r) ∈ T → (l', r') ∈ T → l ≠ l' → co r l' = 0
  nodup : (T.map (·.1)).Nodup
def rowsOf (T : List (Nat × List Int)) : List (List Int) := T.map (·.2)
def keysOf (T : List (Nat × List Int)) : List Nat := T.map (·.1)
theorem Tab.nil (w : Nat) : Tab w [] := ⟨fun _ _ h => (by cases h), fun _ _ h => (by cases h), fun _ _ _ _ h => (by cases h), List.nodup_nil⟩
theorem Tab.same {w : Nat} {T : List (Nat × List Int)} (h : Tab w T) {l : Nat} {r r' : List Int} (a : (l, r) ∈ T) (b : (l, r') ∈ T) : r = r' := by
  have n := h.nodup
  clear h
  induction T with
  | nil => cases a
  | cons x xs ih =>
    have n' : x.1 ∉ xs.map (·.1) ∧ (xs.map (·.1)).Nodup := List.nodup_cons.mp n
    rcases List.mem_cons.mp a with rfl | a
    · rcases List.mem_cons.mp b with e | b
      · exact (Prod.mk.inj e).2.symm
      · exact absurd (List.mem_map_of_mem (f := (·.1)) b) n'.1
    · rcases List.mem_cons.mp b with e | b
      · exact absurd (e ▸ List.mem_map_of_mem (f := (·.1)) a) n'.1
      · exact ih a b n'.2
theorem Tab.lt {w : Nat} {T : List (Nat × List Int)} (h : Tab w T) {l : Nat} {r : List Int} (a : (l, r) ∈ T) : l < w := by
  by_cases q : l < w
  · exact q
  · exact absurd (co_ge (by rw [h.len l r a]; omega)) (h.lead l r a).1
/-- the leads of all that a table spans -/
theorem Tab.leads {w : Nat} {T : List (Nat × List Int)} (h : Tab w T) (p : Nat) : (∃ u, Sp (rowsOf T) u ∧ Lead u p) ↔ p ∈ keysOf T := by
  constructor
  · rintro ⟨u, hu, hl⟩
    by_cases hp : p ∈ keysOf T
    · exact hp
    exfalso
    obtain ⟨d, hd, c, e⟩ := hu.rep
    obtain ⟨i, s, hs, hc, hco⟩ := lin_some c _ p (by rw [← e p]; exact Int.mul_ne_zero hd hl.1)
    unfold rowsOf at hs
    rw [List.getElem?_map] at hs
    obtain ⟨⟨l, r⟩, hlr, e2⟩ := Option.map_eq_some_iff.mp hs
    have e2 : r = s := e2
    subst e2
    have hm : (l, r) ∈ T := List.mem_of_getElem? hlr
    have hne : l ≠ p := fun z => hp (z ▸ List.mem_map_of_mem (f := (·.1)) hm)
    have hlt : l < p := by
      rcases Nat.lt_or_ge p l with q | q
      · exact absurd ((h.lead l r hm).2 p q) hco
      · omega
    have hz : lin c (rowsOf T) l = c i * co r l := lin_one c _ l i r (by unfold rowsOf; rw [List.getElem?_map, hlr]; rfl) fun j s hj n => by
      unfold rowsOf at hj
      rw [List.getElem?_map] at hj
      obtain ⟨⟨l', r'⟩, hlr', e3⟩ := Option.map_eq_some_iff.mp hj
      have e3 : r' = s := e3
      subst e3
      have hm' : (l', r') ∈ T := List.mem_of_getElem? hlr'
      have hll : l' ≠ l := fun z => n (by
        have hi : (keysOf T)[i]? = some l := by unfold keysOf; rw [List.getElem?_map, hlr]; rfl
        have hj' : (keysOf T)[j]? = some l := by unfold keysOf; rw [List.getElem?_map, hlr', ← z]; rfl
        have hi1 := (List.getElem?_eq_some_iff.mp hi).1
        exact ((List.getElem?_inj hi1 h.nodup).mp (hi.trans hj'.symm)).symm)
      rw [h.other l' r' l r hm' hm hll, Int.mul_zero]
    rw [← e l, hl.2 l hlt, Int.mul_zero] at hz
    exact Int.mul_ne_zero hc (h.lead l r hm).1 hz.symm
  · intro hp
    obtain ⟨⟨l, r⟩, hm, e⟩ := List.mem_map.mp hp
    have e : l = p := e
    subst e
    exact ⟨co r, .mem (List.mem_map_of_mem (f := (·.2)) hm), h.lead l r hm⟩
/-- rows whose leads ascend -/
def Stair : List Nat → List (List Int) → Prop
  | [], [] => True
  | l :: ls, r :: rs => Lead (co r) l ∧ (∀ m ∈ ls, l < m) ∧ Stair ls rs
  | _, _ => False
theorem Stair.zero : ∀ {ls : List Nat} {S : List (List Int)}, Stair ls S → ∀ {q : Nat}, (∀ l ∈ ls, q < l) → ∀ c, lin c S q = 0
  | [], [], _, _, _, _ => rfl
  | l :: ls, r :: rs, h, q, hq, c => by
    show c 0 * co r q + lin _ rs q = 0
    rw [h.1.2 q (hq l (List.mem_cons_self ..)), Stair.zero h.2.2 (fun m hm => hq m (List.mem_cons_of_mem _ hm))]
    simp
  | [], _ :: _, h, _, _, _ => h.elim
  | _ :: _, [], h, _, _, _ => h.elim
theorem Stair.lead : ∀ {ls : List Nat} {S : List (List Int)}, Stair ls S → ∀ {c : Nat → Int} {p : Nat}, Lead (lin c S) p → p ∈ ls
  | [], [], _, _, _, h => absurd rfl h.1
  | l :: ls, r :: rs, h, c, p, hl => by
    by_cases h0 : c 0 = 0
    · refine List.mem_cons_of_mem _ (Stair.lead h.2.2 (c := fun i => c (i + 1)) ?_)
      have e : ∀ q, lin c (r :: rs) q = lin (fun i => c (i + 1)) rs q := fun q => by
        show c 0 * _ + _ = _
        rw [h0]; simp
      exact ⟨fun z => hl.1 ((e p).trans z), fun q hq => (e q).symm.trans (hl.2 q hq)⟩
    · have hp : Lead (lin c (r :: rs)) l := by
        refine ⟨?_, fun q hq => ?_⟩
        · show c 0 * co r l + lin _ rs l ≠ 0
          rw [Stair.zero h.2.2 h.2.1, Int.add_zero]
          exact Int.mul_ne_zero h0 h.1.1
        · show c 0 * co r q + lin _ rs q = 0
          rw [h.1.2 q hq, Stair.zero h.2.2 fun m hm => Nat.lt_trans hq (h.2.1 m hm)]
          simp
      rw [hl.uniq hp]
      exact List.mem_cons_self ..
  | [], _ :: _, h, _, _, _ => h.elim
  | _ :: _, [], h, _, _, _ => h.elim
theorem Stair.mem : ∀ {ls : List Nat} {S : List (List Int)}, Stair ls S → ∀ {p : Nat}, p ∈ ls → ∃ r ∈ S, Lead (co r) p
  | [], [], _, _, h => by cases h
  | l :: ls, r :: rs, h, p, hp => by
    rcases List.mem_cons.mp hp with rfl | hp
    · exact ⟨r, List.mem_cons_self .., h.1⟩
    · obtain ⟨s, hs, e⟩ := Stair.mem h.2.2 hp
      exact ⟨s, List.mem_cons_of_mem _ hs, e⟩
  | [], _ :: _, h, _, _ => h.elim
  | _ :: _, [], h, _, _ => h.elim
theorem Stair.leads {ls : List Nat} {S : List (List Int)} (h : Stair ls S) (p : Nat) : (∃ u, Sp S u ∧ Lead u p) ↔ p ∈ ls := by
  constructor
  · rintro ⟨u, hu, hl⟩
    obtain ⟨d, hd, c, e⟩ := hu.rep
    refine h.lead (c := c) ⟨?_, fun q hq => ?_⟩
    · rw [← e p]; exact Int.mul_ne_zero hd hl.1
    · rw [← e q, hl.2 q hq, Int.mul_zero]
  · intro hp
    obtain ⟨r, hr, e⟩ := h.mem hp
    exact ⟨co r, .mem hr, e⟩
theorem Stair.length : ∀ {ls : List Nat} {S : List (List Int)}, Stair ls S → ls.length = S.length
  | [], [], _ => rfl
  | _ :: _, _ :: _, h => congrArg (· + 1) (Stair.length h.2.2)
  | [], _ :: _, h => h.elim
  | _ :: _, [], h => h.elim
theorem Stair.nodup : ∀ {ls : List Nat} {S : List (List Int)}, Stair ls S → ls.Nodup
  | [], [], _ => List.nodup_nil
  | l :: ls, r :: rs, h => List.nodup_cons.mpr ⟨fun m => Nat.lt_irrefl _ (h.2.1 l m), Stair.nodup h.2.2⟩
  | [], _ :: _, h => h.elim
  | _ :: _, [], h => h.elim
theorem Stair.app : ∀ {ls : List Nat} {S : List (List Int)}, Stair ls S → ∀ {l : Nat} {r : List Int}, Lead (co r) l → (∀ m ∈ ls, m < l) → Stair (ls ++ [l]) (S ++ [r])
  | [], [], _, l, r, h, _ => ⟨h, fun _ m => (by cases m), True.intro⟩
  | l' :: ls, r' :: rs, hh, l, r, h, hm => ⟨hh.1, fun m hm2 => by
      rcases List.mem_append.mp hm2 with q | q
      · exact hh.2.1 m q
      · rw [List.mem_singleton.mp q]; exact hm l' (List.mem_cons_self ..), Stair.app hh.2.2 h fun m q => hm m (List.mem_cons_of_mem _ q)⟩
  | [], _ :: _, h, _, _, _, _ => h.elim
  | _ :: _, [], h, _, _, _, _ => h.elim
theorem same_len {a b : List Nat} (ha : a.Nodup) (hb : b.Nodup) (h : ∀ x, x ∈ a ↔ x ∈ b) : a.length = b.length := ((List.perm_ext_iff_of_nodup ha hb).mpr h).length_eq
/-- two ways to rows with leads of their own, of one span, have equally many -/
theorem stair_tab {w : Nat} {T : List (Nat × List Int)} (hT : Tab w T) {ls : List Nat} {S : List (List Int)} (hS : Stair ls S) (e : SpEq S (rowsOf T)) : S.length = T.length := by
  have h1 : ls.length = (keysOf T).length := same_len hS.nodup hT.nodup fun p => by
    rw [← hS.leads p, ← hT.leads p]
    exact ⟨fun ⟨u, a, b⟩ => ⟨u, (e u).mp a, b⟩, fun ⟨u, a, b⟩ => ⟨u, (e u).mpr a, b⟩⟩
  rw [← hS.length, h1]
  exact List.length_map _
/-- no sum of multiples is 0 but that of zeros -/
def Indep (S : List (List Int)) : Prop := ∀ c : Nat → Int, (∀ p, lin c S p = 0) → ∀ i, i < S.length → c i = 0
theorem Indep.step {S : List (List Int)} (h : Indep S) {i j : Nat} {r s x : List Int} {k f t : Int} (hi : S[i]? = some r) (hj : S[j]? = some s) (hij : i ≠ j) (hk : k ≠ 0) (hf : f ≠ 0) (e : ∀ p, k * co x p = f * co r p - t * co s p) : Indep (S.set i x) := by
  intro c hc m hm
  rw [List.length_set] at hm
  have hi' := (List.getElem?_eq_some_iff.mp hi).1
  have hj' := (List.getElem?_eq_some_iff.mp hj).1
  have key : ∀ p, lin (put (put (fun m => k * c m) i (f * c i)) j (k * c j - t * c i)) S p = 0 := fun p => by
    rw [lin_put _ S p j s _ hj, lin_put _ S p i r _ hi, lin_mul]
    have h1 := hc p
    rw [lin_set c S p i r x hi] at h1
    have h2 : put (fun m => k * c m) i (f * c i) j = k * c j := if_neg (Ne.symm hij)
    rw [h2]
    have h3 := e p
    grind
  have hz := h _ key
  have ci : c i = 0 := by
    have := hz i hi'
    unfold put at this
    rw [if_neg hij, if_pos rfl] at this
    rcases Int.mul_eq_zero.mp this with q | q
    · exact absurd q hf
    · exact q
  by_cases mi : m = i
  · rw [mi]; exact ci
  by_cases mj : m = j
  · have := hz j hj'
    unfold put at this
    rw [if_pos rfl, ci, Int.mul_zero, Int.sub_zero] at this
    rcases Int.mul_eq_zero.mp this with q | q
    · exact absurd q hk
    · rw [mj]; exact q
  · have := hz m hm
    unfold put at this
    rw [if_neg mj, if_neg mi] at this
    rcases Int.mul_eq_zero.mp this with q | q
    · exact absurd q hk
    · exact q
theorem Indep.swap {S : List (List Int)} (h : Indep S) {i j : Nat} {r s : List Int} (hi : S[i]? = some r) (hj : S[j]? = some s) (hij : i ≠ j) : Indep ((S.set i s).set j r) := by
  intro c hc m hm
  rw [List.length_set, List.length_set] at hm
  have hi' := (List.getElem?_eq_some_iff.mp hi).1
  have hj' := (List.getElem?_eq_some_iff.mp hj).1
  have key : ∀ p, lin (put (put c i (c j)) j (c i)) S p = 0 := fun p => by
    rw [lin_put _ S p j s _ hj, lin_put _ S p i r _ hi]
    have h1 := hc p
    rw [lin_set c (S.set i s) p j s r (by rw [List.getElem?_set_ne hij]; exact hj), lin_set c S p i r s hi] at h1
    have h2 : put c i (c j) j = c j := if_neg (Ne.symm hij)
    rw [h2]
    grind
  have hz := h _ key
  have ci : c j = 0 := by
    have := hz i hi'
    unfold put at this
    rwa [if_neg hij, if_pos rfl] at this
  have cj : c i = 0 := by
    have := hz j hj'
    unfold put at this
    rwa [if_pos rfl] at this
  by_cases mi : m = i
  · rw [mi]; exact cj
  by_cases mj : m = j
  · rw [mj]; exact ci
  · have := hz m hm
    unfold put at this
    rwa [if_neg mj, if_neg mi] at this
theorem Indep.no_zero {S : List (List Int)} (h : Indep S) {i : Nat} {r : List Int} (hi : S[i]? = some r) (hz : ∀ p, co r p = 0) : False := by
  have hi' := (List.getElem?_eq_some_iff.mp hi).1
  have := h (fun j => if j = i then 1 else 0) (fun p => lin_none _ S p fun j s e => by
    by_cases q : j = i
    · subst q
      rw [hi] at e
      rw [← Option.some.inj e, hz p, Int.mul_zero]
    · rw [if_neg q, Int.zero_mul]) i hi'
  rw [if_pos rfl] at this
  cases this
end LA
namespace LA
def gcdL (r : List Int) : Nat := r.foldl (fun g n => Nat.gcd g n.natAbs) 0
theorem gcdF_dvd (r : List Int) (g : Nat) : (r.foldl (fun g n => Nat.gcd g n.natAbs) g) ∣ g ∧ ∀ n ∈ r, (r.foldl (fun g n => Nat.gcd g n.natAbs) g) ∣ n.natAbs := by
  induction r generalizing g with
  | nil => exact ⟨Nat.dvd_refl _, fun _ h => by cases h⟩
  | cons x xs ih =>
    obtain ⟨a, b⟩ := ih (Nat.gcd g x.natAbs)
    refine ⟨Nat.dvd_trans a (Nat.gcd_dvd_left _ _), fun n hn => ?_⟩
    rcases List.mem_cons.mp hn with rfl | hn
    · exact Nat.dvd_trans a (Nat.gcd_dvd_right _ _)
    · exact b n hn
theorem gcdF_great (r : List Int) (g d : Nat) (h : d ∣ g) (k : ∀ n ∈ r, d ∣ n.natAbs) : d ∣ r.foldl (fun g n => Nat.gcd g n.natAbs) g := by
  induction r generalizing g with
  | nil => exact h
  | cons x xs ih => exact ih _ (Nat.dvd_gcd h (k x (List.mem_cons_self ..))) fun n hn => k n (List.mem_cons_of_mem _ hn)
theorem nat_dvd {g : Nat} {n : Int} : (g : Int) ∣ n ↔ g ∣ n.natAbs := ⟨fun h => Int.natAbs_dvd_natAbs.mpr h, fun h => Int.natAbs_dvd_natAbs.mp h⟩
theorem gcdL_dvd {r : List Int} {n : Int} (h : n ∈ r) : (gcdL r : Int) ∣ n := nat_dvd.mpr ((gcdF_dvd r 0).2 n h)
theorem gcdL_co (r : List Int) (p : Nat) : (gcdL r : Int) ∣ co r p := by
  by_cases h : p < r.length
  · rw [co_lt h]; exact gcdL_dvd (List.getElem_mem h)
  · rw [co_ge (by omega)]; exact Int.dvd_zero _
theorem gcdL_zero {r : List Int} (h : gcdL r = 0) (p : Nat) : co r p = 0 := by
  have := gcdL_co r p
  rw [h] at this
  exact Int.zero_dvd.mp this
theorem gcdL_le {r : List Int} {p : Nat} (h : co r p ≠ 0) : gcdL r ≤ (co r p).natAbs := Nat.le_of_dvd (Int.natAbs_pos.mpr h) (nat_dvd.mp (gcdL_co r p))
def leadL : List Int → Nat
  | [] => 0
  | x :: xs => if x ≠ 0 then 0 else leadL xs + 1
theorem leadL_le : ∀ r : List Int, leadL r ≤ r.length
  | [] => Nat.le_refl _
  | x :: xs => by
    unfold leadL
    split
    · exact Nat.zero_le _
    · exact Nat.succ_le_succ (leadL_le xs)
theorem leadL_before : ∀ (r : List Int) {q : Nat}, q < leadL r → co r q = 0
  | [], q, h => absurd h (Nat.not_lt_zero _)
  | x :: xs, q, h => by
    unfold leadL at h
    split at h
    · exact absurd h (Nat.not_lt_zero _)
    · rename_i hx
      have hx : x = 0 := Classical.byContradiction hx
      cases q with
      | zero => exact hx
      | succ q => exact leadL_before xs (Nat.lt_of_succ_lt_succ h)
theorem leadL_at : ∀ (r : List Int), leadL r < r.length → co r (leadL r) ≠ 0
  | [], h => absurd h (Nat.not_lt_zero _)
  | x :: xs, h => by
    unfold leadL at h ⊢
    split
    · rename_i hx; exact hx
    · rename_i hx
      rw [if_neg hx] at h
      exact leadL_at xs (Nat.lt_of_succ_lt_succ h)
theorem leadL_lead {r : List Int} (h : leadL r < r.length) : Lead (co r) (leadL r) := ⟨leadL_at r h, fun q hq => leadL_before r hq⟩
theorem leadL_none {r : List Int} (h : leadL r = r.length) (p : Nat) : co r p = 0 := by
  by_cases q : p < r.length
  · exact leadL_before r (by omega)
  · exact co_ge (by omega)
theorem leadL_of {r : List Int} {p : Nat} (h : Lead (co r) p) : leadL r = p := by
  have hl : leadL r < r.length := by
    rcases Nat.lt_or_ge (leadL r) r.length with q | q
    · exact q
    · exact absurd (leadL_none (Nat.le_antisymm (leadL_le r) q) p) h.1
  exact (leadL_lead hl).uniq h
def signG (r : List Int) : Int := if co r (leadL r) < 0 then -(gcdL r : Int) else (gcdL r : Int)
def primL (r : List Int) : List Int := if gcdL r = 0 then r else r.map (fun n => n.fdiv (signG r))
theorem signG_ne {r : List Int} (h : gcdL r ≠ 0) : signG r ≠ 0 := by unfold signG; split <;> omega
theorem signG_dvd (r : List Int) (p : Nat) : signG r ∣ co r p := by
  unfold signG
  split
  · exact Int.neg_dvd.mpr (gcdL_co r p)
  · exact gcdL_co r p
theorem primL_len (r : List Int) : (primL r).length = r.length := by
  unfold primL
  split
  · rfl
  · exact List.length_map _
theorem fdiv_mul {a b : Int} (h : b ∣ a) : b * a.fdiv b = a := Int.mul_fdiv_cancel' h
theorem primL_co {r : List Int} (h : gcdL r ≠ 0) (p : Nat) : signG r * co (primL r) p = co r p := by
  unfold primL
  rw [if_neg h, co_map (f := fun n => n.fdiv (signG r)) (Int.zero_fdiv _)]
  exact fdiv_mul (signG_dvd r p)
theorem primL_mul (r : List Int) : ∃ c : Int, c ≠ 0 ∧ ∀ p, co r p = c * co (primL r) p := by
  by_cases h : gcdL r = 0
  · exact ⟨1, by decide, fun p => by unfold primL; rw [if_pos h, Int.one_mul]⟩
  · exact ⟨signG r, signG_ne h, fun p => (primL_co h p).symm⟩
theorem natAbs_of_mul {a b c : Int} (h : a = c * b) (hc : c ≠ 0) : b.natAbs ≤ a.natAbs := by
  rw [h, Int.natAbs_mul]
  exact Nat.le_mul_of_pos_left _ (Int.natAbs_pos.mpr hc)
theorem lead_mul {u v : Vec} {c : Int} (hc : c ≠ 0) (e : ∀ p, u p = c * v p) {l : Nat} : Lead u l ↔ Lead v l := by
  unfold Lead
  constructor
  · rintro ⟨a, b⟩
    refine ⟨fun z => a (by rw [e, z, Int.mul_zero]), fun q hq => ?_⟩
    have := b q hq
    rw [e] at this
    rcases Int.mul_eq_zero.mp this with z | z
    · exact absurd z hc
    · exact z
  · rintro ⟨a, b⟩
    exact ⟨fun z => a (by
      rw [e] at z
      rcases Int.mul_eq_zero.mp z with z | z
      · exact absurd z hc
      · exact z), fun q hq => by rw [e, b q hq, Int.mul_zero]⟩
/-- all numbers below 2 ^ n -/
def Bd (n : Nat) (r : List Int) : Prop := ∀ p, (co r p).natAbs < 2 ^ n
theorem Bd.mono {n m : Nat} {r : List Int} (h : Bd n r) (k : n ≤ m) : Bd m r := fun p => Nat.lt_of_lt_of_le (h p) (Nat.pow_le_pow_right (by decide) k)
theorem Bd.prim {n : Nat} {r : List Int} (h : Bd n r) : Bd n (primL r) := fun p => by
  obtain ⟨c, hc, e⟩ := primL_mul r
  exact Nat.lt_of_le_of_lt (natAbs_of_mul (e p) hc) (h p)
theorem Bd.mem {n : Nat} {r : List Int} (h : Bd n r) {x : Int} (m : x ∈ r) : x.natAbs < 2 ^ n := by
  obtain ⟨i, hi, e⟩ := List.getElem_of_mem m
  have := h i
  rwa [co_lt hi, e] at this
theorem Bd.gcd {n : Nat} {r : List Int} (h : Bd n r) : gcdL r < 2 ^ n := by
  by_cases z : ∃ p, co r p ≠ 0
  · obtain ⟨p, hp⟩ := z
    exact Nat.lt_of_le_of_lt (gcdL_le hp) (h p)
  · have : gcdL r = 0 := by
      have hz : ∀ x ∈ r, x = 0 := fun x hx => by
        obtain ⟨i, hi, e⟩ := List.getElem_of_mem hx
        by_cases q : x = 0
        · exact q
        · exact absurd ⟨i, by rw [co_lt hi, e]; exact q⟩ z
      exact Nat.eq_zero_of_zero_dvd (gcdF_great r 0 0 (Nat.dvd_refl _) fun x hx => by rw [hz x hx]; exact Nat.dvd_refl _)
    rw [this]; exact Nat.two_pow_pos n
theorem Bd.sign {n : Nat} {r : List Int} (h : Bd n r) : (signG r).natAbs < 2 ^ n := by
  have := h.gcd
  unfold signG
  split <;> omega
theorem bd_comb {a b : Nat} {f n t o : Int} (hf : f.natAbs < 2 ^ b) (hn : n.natAbs < 2 ^ a) (ht : t.natAbs < 2 ^ a) (ho : o.natAbs < 2 ^ b) : (f * n - t * o).natAbs < 2 ^ (a + b + 1) := by
  have h1 : (f * n).natAbs < 2 ^ (a + b) := by
    rw [Int.natAbs_mul, Nat.pow_add, Nat.mul_comm]
    exact Nat.mul_lt_mul'' hn hf
  have h2 : (t * o).natAbs < 2 ^ (a + b) := by
    rw [Int.natAbs_mul, Nat.pow_add]
    exact Nat.mul_lt_mul'' ht ho
  rw [Nat.pow_succ]
  omega
def clearP (row other : List Int) (lead : Nat) : List Int := List.zipWith (fun n t => co other lead * n - co row lead * t) row other
def clearL (row other : List Int) (lead : Nat) : List Int :=
  if co other lead = 1 then List.zipWith (fun n t => n - co row lead * t) row other else primL (clearP row other lead)
theorem clearP_co {row other : List Int} {lead : Nat} (hl : row.length = other.length) (p : Nat) : co (clearP row other lead) p = co other lead * co row p - co row lead * co other p :=
  co_zip (f := fun n t => co other lead * n - co row lead * t) hl (by rw [Int.mul_zero, Int.mul_zero]; rfl) p
theorem clearL_len {row other : List Int} {lead : Nat} (hl : row.length = other.length) : (clearL row other lead).length = row.length := by
  unfold clearL clearP
  split
  · rw [List.length_zipWith]; omega
  · rw [primL_len, List.length_zipWith]; omega
theorem clearL_co {row other : List Int} {lead : Nat} (hl : row.length = other.length) : ∃ k : Int, k ≠ 0 ∧ ∀ p, k * co (clearL row other lead) p = co other lead * co row p - co row lead * co other p := by
  unfold clearL
  split
  · rename_i e
    exact ⟨1, by decide, fun p => by rw [Int.one_mul, co_zip (f := fun n t => n - co row lead * t) hl (by rw [Int.mul_zero]; rfl), e, Int.one_mul]⟩
  · obtain ⟨c, hc, e⟩ := primL_mul (clearP row other lead)
    exact ⟨c, hc, fun p => by rw [← e p, clearP_co hl]⟩
theorem Bd.clearP {a b : Nat} {row other : List Int} {lead : Nat} (hl : row.length = other.length) (h : Bd a row) (k : Bd b other) : Bd (a + b + 1) (clearP row other lead) := fun p => by
  rw [clearP_co hl]
  exact bd_comb (k lead) (h p) (h lead) (k p)
theorem Bd.clear {a b : Nat} {row other : List Int} {lead : Nat} (hl : row.length = other.length) (h : Bd a row) (k : Bd b other) : Bd (a + b + 1) (clearL row other lead) := by
  unfold clearL
  split
  · rename_i e
    intro p
    rw [co_zip (f := fun n t => n - co row lead * t) hl (by rw [Int.mul_zero]; rfl)]
    have := bd_comb (f := co other lead) (k lead) (h p) (h lead) (k p)
    rwa [e, Int.one_mul] at this
  · exact (Bd.clearP hl h k).prim
def restS (rest : List Int) (x : Nat × List Int) : List Int := if co rest x.1 ≠ 0 then clearL rest x.2 x.1 else rest
def restL (T : List (Nat × List Int)) (row : List Int) : List Int := T.foldl restS row
/-- k rest = f row - u, u in the span -/
def Rel (S : List (List Int)) (rest row : List Int) : Prop := ∃ k f : Int, k ≠ 0 ∧ f ≠ 0 ∧ ∃ u, Sp S u ∧ ∀ p, k * co rest p = f * co row p - u p
theorem Rel.refl (S : List (List Int)) (r : List Int) : Rel S r r := ⟨1, 1, by decide, by decide, _, .zero, fun p => by simp⟩
theorem Rel.sub {S S' : List (List Int)} (h : ∀ r ∈ S, r ∈ S') {a b : List Int} (k : Rel S a b) : Rel S' a b := by
  obtain ⟨k, f, hk, hf, u, hu, e⟩ := k
  exact ⟨k, f, hk, hf, u, hu.sub h, e⟩
theorem Rel.clear {S : List (List Int)} {rest row o : List Int} {l : Nat} (h : Rel S rest row) (ho : o ∈ S) (hl : rest.length = o.length) (h0 : co o l ≠ 0) : Rel S (clearL rest o l) row := by
  obtain ⟨k, f, hk, hf, u, hu, e⟩ := h
  obtain ⟨c, hc, e2⟩ := clearL_co (lead := l) hl
  refine ⟨k * c, co o l * f, Int.mul_ne_zero hk hc, Int.mul_ne_zero h0 hf, fun p => co o l * u p + k * co rest l * co o p, .add (.smul _ hu) (.smul _ (.mem ho)), fun p => ?_⟩
  have h1 := e p
  have h2 := e2 p
  grind
theorem restL_all {w : Nat} {T : List (Nat × List Int)} (hT : Tab w T) (T1 T2 : List (Nat × List Int)) (hsub : ∀ x ∈ T2, x ∈ T) (S : List (List Int)) (hS : ∀ x ∈ T2, x.2 ∈ S) (row rest : List Int) (hr : rest.length = w) (h : Rel S rest row)
    (hz : ∀ l r, (l, r) ∈ T1 → (l, r) ∈ T ∧ co rest l = 0) : (restL T2 rest).length = w ∧ Rel S (restL T2 rest) row ∧ (∀ l r, (l, r) ∈ T1 ∨ (l, r) ∈ T2 → co (restL T2 rest) l = 0) := by
  induction T2 generalizing T1 rest with
  | nil => exact ⟨hr, h, fun l r m => m.elim (fun m => (hz l r m).2) fun m => by cases m⟩
  | cons x xs ih =>
    obtain ⟨l, o⟩ := x
    have hm : (l, o) ∈ T := hsub _ (List.mem_cons_self ..)
    have hlo : rest.length = o.length := by rw [hr, hT.len l o hm]
    have step : (restS rest (l, o)).length = w ∧ Rel S (restS rest (l, o)) row ∧ co (restS rest (l, o)) l = 0 ∧ ∀ l' r', (l', r') ∈ T1 → co (restS rest (l, o)) l' = 0 := by
      unfold restS
      by_cases hc : co rest l ≠ 0
      · rw [if_pos hc]
        obtain ⟨c, hcne, e⟩ := clearL_co (row := rest) (other := o) (lead := l) hlo
        have zero : ∀ q, co o l * co rest q - co rest l * co o q = 0 → co (clearL rest o l) q = 0 := fun q hq => by
          have := e q
          rw [hq] at this
          rcases Int.mul_eq_zero.mp this with z | z
          · exact absurd z hcne
          · exact z
        refine ⟨(clearL_len hlo).trans hr, h.clear (hS _ (List.mem_cons_self ..)) hlo (hT.lead l o hm).1, zero l (by grind), fun l' r' m' => ?_⟩
        obtain ⟨mT, z⟩ := hz l' r' m'
        by_cases ell : l = l'
        · subst ell; exact zero l (by grind)
        · exact zero l' (by rw [z, hT.other l o l' r' hm mT ell]; simp)
      · rw [if_neg hc]
        have hc : co rest l = 0 := Classical.byContradiction hc
        exact ⟨hr, h, hc, fun l' r' m' => (hz l' r' m').2⟩
    have := ih ((l, o) :: T1) (fun y hy => hsub y (List.mem_cons_of_mem _ hy)) (fun y hy => hS y (List.mem_cons_of_mem _ hy)) (restS rest (l, o)) step.1 step.2.1 (fun l' r' m' => by
      rcases List.mem_cons.mp m' with e | m'
      · cases e
        exact ⟨hm, step.2.2.1⟩
      · exact ⟨(hz l' r' m').1, step.2.2.2 l' r' m'⟩)
    refine ⟨this.1, this.2.1, fun l' r' m' => this.2.2 l' r' ?_⟩
    rcases m' with m' | m'
    · exact .inl (List.mem_cons_of_mem _ m')
    · rcases List.mem_cons.mp m' with e | m'
      · cases e
        exact .inl (List.mem_cons_self ..)
      · exact .inr m'
theorem mem_rows {T : List (Nat × List Int)} {l : Nat} {r : List Int} (h : (l, r) ∈ T) : r ∈ rowsOf T := List.mem_map_of_mem (f := (·.2)) h
theorem restL_ok {w : Nat} {T : List (Nat × List Int)} (hT : Tab w T) {row : List Int} (hr : row.length = w) : (restL T row).length = w ∧ Rel (rowsOf T) (restL T row) row ∧ ∀ l r, (l, r) ∈ T → co (restL T row) l = 0 := by
  have := restL_all hT [] T (fun _ h => h) (rowsOf T) (fun x h => mem_rows (l := x.1) h) row row hr (.refl _ _) fun _ _ h => by cases h
  exact ⟨this.1, this.2.1, fun l r m => this.2.2 l r (.inr m)⟩
theorem restL_len {w : Nat} {T : List (Nat × List Int)} (h : ∀ l r, (l, r) ∈ T → r.length = w) {row : List Int} (hr : row.length = w) : (restL T row).length = w := by
  induction T generalizing row with
  | nil => exact hr
  | cons x xs ih =>
    refine ih (fun l r m => h l r (List.mem_cons_of_mem _ m)) ?_
    have := h x.1 x.2 (List.mem_cons_self ..)
    unfold restS
    split
    · exact (clearL_len (by omega)).trans hr
    · exact hr
theorem restL_bd {w b : Nat} {T : List (Nat × List Int)} (h : ∀ l r, (l, r) ∈ T → r.length = w ∧ Bd b r) {a : Nat} {row : List Int} (hr : row.length = w) (hb : Bd a row) : Bd (a + T.length * (b + 1)) (restL T row) := by
  induction T generalizing row a with
  | nil => simpa [restL] using hb
  | cons x xs ih =>
    obtain ⟨h1, h2⟩ := h x.1 x.2 (List.mem_cons_self ..)
    have step : (restS row x).length = w ∧ Bd (a + b + 1) (restS row x) := by
      unfold restS
      split
      · exact ⟨(clearL_len (by omega)).trans hr, hb.clear (by omega) h2⟩
      · exact ⟨hr, hb.mono (by omega)⟩
    have := ih (fun l r m => h l r (List.mem_cons_of_mem _ m)) step.1 step.2
    refine Bd.mono this ?_
    rw [List.length_cons, Nat.add_mul]
    omega
def putS (rest : List Int) (lead : Nat) (x : Nat × List Int) : Nat × List Int := (x.1, if co x.2 lead = 0 then x.2 else primL (clearL x.2 rest lead))
def joinL (T : List (Nat × List Int)) (row : List Int) : List (Nat × List Int) :=
  if leadL (primL (restL T row)) = (primL (restL T row)).length then T else T.map (putS (primL (restL T row)) (leadL (primL (restL T row)))) ++ [(leadL (primL (restL T row)), primL (restL T row))]
theorem mul_zero_or {a b : Int} (h : a * b = 0) (ha : a ≠ 0) : b = 0 := (Int.mul_eq_zero.mp h).resolve_left ha
/-- one row more -/
theorem join_ok {w : Nat} {T : List (Nat × List Int)} (hT : Tab w T) {row : List Int} (hr : row.length = w) : Tab w (joinL T row) ∧ SpEq (rowsOf (joinL T row)) (rowsOf T ++ [row]) := by
  obtain ⟨h1, h2, h3⟩ := restL_ok hT hr
  obtain ⟨c, hc, ec⟩ := primL_mul (restL T row)
  have hplen : (primL (restL T row)).length = w := (primL_len _).trans h1
  have hpz : ∀ l r, (l, r) ∈ T → co (primL (restL T row)) l = 0 := fun l r m => mul_zero_or ((ec l).symm.trans (h3 l r m)) hc
  obtain ⟨k, f, hk, hf, u, hu, eu⟩ := h2
  have inT : ∀ r ∈ rowsOf T, Sp (rowsOf T ++ [row]) (co r) := fun r m => .mem (List.mem_append_left _ m)
  have inR : Sp (rowsOf T ++ [row]) (co row) := .mem (List.mem_append_right _ (List.mem_singleton.mpr rfl))
  have huu : Sp (rowsOf T ++ [row]) u := hu.le inT
  have hrest : Sp (rowsOf T ++ [row]) (co (primL (restL T row))) := by
    refine .div (k := k * c) (Int.mul_ne_zero hk hc) (Sp.eq (.add (.smul f inR) (.smul (-1) huu)) fun p => ?_)
    have a := eu p
    have b := ec p
    grind
  unfold joinL
  generalize hR : primL (restL T row) = R at *
  by_cases hlead : leadL R = R.length
  · rw [if_pos hlead]
    refine ⟨hT, .of inT fun r m => ?_⟩
    rcases List.mem_append.mp m with m | m
    · exact .mem m
    · rw [List.mem_singleton.mp m]
      refine .div (k := f) hf (Sp.eq hu fun p => ?_)
      have a := eu p
      rw [ec p, leadL_none hlead p, Int.mul_zero, Int.mul_zero] at a
      omega
  · rw [if_neg hlead]
    have hlt : leadL R < R.length := by have := leadL_le R; omega
    have hL := leadL_lead hlt
    generalize leadL R = L at *
    have hLk : ∀ l r, (l, r) ∈ T → l ≠ L := fun l r m z => hL.1 (z ▸ hpz l r m)
    have new : ∀ l r, (l, r) ∈ T → ((putS R L (l, r)).2.length = w ∧ co (putS R L (l, r)).2 L = 0 ∧ Lead (co (putS R L (l, r)).2) l ∧ (∀ l' r', (l', r') ∈ T → l ≠ l' → co (putS R L (l, r)).2 l' = 0)
        ∧ Sp (rowsOf T ++ [row]) (co (putS R L (l, r)).2) ∧ ∀ S, Sp S (co R) → Sp S (co (putS R L (l, r)).2) → Sp S (co r)) := by
      intro l r m
      unfold putS
      by_cases hz : co r L = 0
      · simp only [if_pos hz]
        exact ⟨hT.len l r m, hz, hT.lead l r m, fun l' r' m' n => hT.other l r l' r' m m' n, inT r (mem_rows m), fun S _ h => h⟩
      · simp only [if_neg hz]
        have hlr : r.length = R.length := by rw [hT.len l r m, hplen]
        obtain ⟨k1, hk1, e1⟩ := clearL_co (row := r) (other := R) (lead := L) hlr
        obtain ⟨k2, hk2, e2⟩ := primL_mul (clearL r R L)
        have e : ∀ p, (k1 * k2) * co (primL (clearL r R L)) p = co R L * co r p - co r L * co R p := fun p => by
          rw [← e1 p, e2 p]; grind
        have hkk := Int.mul_ne_zero hk1 hk2
        have zero : ∀ q, co R L * co r q - co r L * co R q = 0 → co (primL (clearL r R L)) q = 0 := fun q hq => mul_zero_or ((e q).trans hq) hkk
        have hlL : l < L := by
          rcases Nat.lt_trichotomy l L with q | q | q
          · exact q
          · exact absurd q (hLk l r m)
          · exact absurd ((hT.lead l r m).2 L q) hz
        refine ⟨?_, zero L (by grind), ⟨fun z => ?_, fun q hq => zero q (by rw [(hT.lead l r m).2 q hq, hL.2 q (by omega)]; simp)⟩, fun l' r' m' n => zero l' (by rw [hT.other l r l' r' m m' n, hpz l' r' m']; simp), Sp.rel hkk (inT r (mem_rows m)) hrest e, fun S hR hN => ?_⟩
        · rw [primL_len, clearL_len hlr]; exact hT.len l r m
        · have := e l
          rw [z, hpz l r m, Int.mul_zero, Int.mul_zero, Int.sub_zero] at this
          exact Int.mul_ne_zero hL.1 (hT.lead l r m).1 this.symm
        · exact .div (k := co R L) hL.1 (Sp.eq (.add (.smul (k1 * k2) hN) (.smul (co r L) hR)) fun p => by have := e p; grind)
    have memNew : ∀ l s, (l, s) ∈ T.map (putS R L) ++ [(L, R)] → (∃ r, (l, r) ∈ T ∧ s = (putS R L (l, r)).2) ∨ (l = L ∧ s = R) := fun l s m => by
      rcases List.mem_append.mp m with m | m
      · obtain ⟨⟨l', r'⟩, m', e'⟩ := List.mem_map.mp m
        have e1 : l' = l := congrArg Prod.fst e'
        have e2 : (putS R L (l', r')).2 = s := congrArg Prod.snd e'
        subst e1
        exact .inl ⟨r', m', e2.symm⟩
      · cases List.mem_singleton.mp m
        exact .inr ⟨rfl, rfl⟩
    refine ⟨⟨fun l s m => ?_, fun l s m => ?_, fun l s l' s' m m' n => ?_, ?_⟩, .of (fun s m => ?_) fun s m => ?_⟩
    · rcases memNew l s m with ⟨r, hm, rfl⟩ | ⟨rfl, rfl⟩
      · exact (new l r hm).1
      · exact hplen
    · rcases memNew l s m with ⟨r, hm, rfl⟩ | ⟨rfl, rfl⟩
      · exact (new l r hm).2.2.1
      · exact hL
    · rcases memNew l s m with ⟨r, hm, rfl⟩ | ⟨rfl, rfl⟩
      · rcases memNew l' s' m' with ⟨r', hm', rfl⟩ | ⟨rfl, rfl⟩
        · exact (new l r hm).2.2.2.1 l' r' hm' n
        · exact (new l r hm).2.1
      · rcases memNew l' s' m' with ⟨r', hm', rfl⟩ | ⟨rfl, rfl⟩
        · exact hpz l' r' hm'
        · exact absurd rfl n
    · rw [List.map_append, List.map_map]
      refine List.nodup_append.mpr ⟨hT.nodup, List.nodup_cons.mpr ⟨by simp, List.nodup_nil⟩, fun a ha b hb => ?_⟩
      obtain ⟨⟨l, r⟩, m, e⟩ := List.mem_map.mp ha
      have e : l = a := e
      have hb : b = L := by simpa using hb
      subst e
      rw [hb]
      exact hLk l r m
    · obtain ⟨⟨l, s'⟩, m', e⟩ := List.mem_map.mp m
      have e : s' = s := e
      subst e
      rcases memNew l s' m' with ⟨r, hm, rfl⟩ | ⟨rfl, rfl⟩
      · exact (new l r hm).2.2.2.2.1
      · exact hrest
    · have hRin : Sp (rowsOf (T.map (putS R L) ++ [(L, R)])) (co R) := .mem (List.mem_map.mpr ⟨(L, R), List.mem_append_right _ (List.mem_singleton.mpr rfl), rfl⟩)
      have old : ∀ r ∈ rowsOf T, Sp (rowsOf (T.map (putS R L) ++ [(L, R)])) (co r) := fun r m => by
        obtain ⟨⟨l, r'⟩, m', e⟩ := List.mem_map.mp m
        have e : r' = r := e
        subst e
        exact (new l r' m').2.2.2.2.2 _ hRin (.mem (List.mem_map.mpr ⟨putS R L (l, r'), List.mem_append_left _ (List.mem_map_of_mem m'), rfl⟩))
      rcases List.mem_append.mp m with m | m
      · exact old s m
      · rw [List.mem_singleton.mp m]
        refine .div (k := f) hf (Sp.eq (.add (.smul (k * c) hRin) (hu.le old)) fun p => ?_)
        have a := eu p
        have b := ec p
        grind
theorem join_len (T : List (Nat × List Int)) (row : List Int) : (joinL T row).length = T.length ∨ (joinL T row).length = T.length + 1 := by
  unfold joinL
  split
  · exact .inl rfl
  · exact .inr (by rw [List.length_append, List.length_map]; rfl)
def tabL (rows : List (List Int)) : List (Nat × List Int) := rows.foldl joinL []
theorem tabF_ok {w : Nat} (rows : List (List Int)) (T : List (Nat × List Int)) (S : List (List Int)) (hT : Tab w T) (hS : SpEq (rowsOf T) S) (hr : ∀ r ∈ rows, r.length = w) : Tab w (rows.foldl joinL T) ∧ SpEq (rowsOf (rows.foldl joinL T)) (S ++ rows) := by
  induction rows generalizing T S with
  | nil => exact ⟨hT, by rw [List.append_nil]; exact hS⟩
  | cons r rs ih =>
    obtain ⟨a, b⟩ := join_ok hT (hr r (List.mem_cons_self ..))
    have := ih (joinL T r) (S ++ [r]) a (b.trans hS.app) fun s m => hr s (List.mem_cons_of_mem _ m)
    rw [List.append_assoc] at this
    exact this
theorem tab_ok {w : Nat} {rows : List (List Int)} (hr : ∀ r ∈ rows, r.length = w) : Tab w (tabL rows) ∧ SpEq (rowsOf (tabL rows)) rows := tabF_ok rows [] [] (.nil w) (.refl _) hr
/-- bits of a table of t rows whose rows have a bits -/
def bits (a : Nat) : Nat → Nat
  | 0 => 0
  | t + 1 => bits a t + (a + t * (bits a t + 1)) + 1
def Bits (a : Nat) (T : List (Nat × List Int)) : Prop := ∀ l r, (l, r) ∈ T → Bd (bits a T.length) r
theorem Bits.nil (a : Nat) : Bits a [] := fun _ _ h => by cases h
theorem Bits.join {w a : Nat} {T : List (Nat × List Int)} (hT : Tab w T) (h : Bits a T) {row : List Int} (hr : row.length = w) (hb : Bd a row) : Bits a (joinL T row) := by
  have hR : Bd (a + T.length * (bits a T.length + 1)) (primL (restL T row)) := (restL_bd (fun l r m => ⟨hT.len l r m, h l r m⟩) hr hb).prim
  have hRl : (primL (restL T row)).length = w := (primL_len _).trans (restL_len hT.len hr)
  unfold joinL
  generalize primL (restL T row) = R at *
  split
  · exact h
  · intro l s m
    rw [List.length_append, List.length_map]
    show Bd (bits a (T.length + 1)) s
    unfold bits
    rcases List.mem_append.mp m with m | m
    · obtain ⟨⟨l', r'⟩, m', e'⟩ := List.mem_map.mp m
      have e2 : (putS R (leadL R) (l', r')).2 = s := congrArg Prod.snd e'
      subst e2
      unfold putS
      dsimp only
      split
      · exact (h l' r' m').mono (by omega)
      · exact ((h l' r' m').clear (by rw [hT.len l' r' m', hRl]) hR).prim.mono (by omega)
    · cases List.mem_singleton.mp m
      exact hR.mono (by omega)
theorem keys_in {w : Nat} {T : List (Nat × List Int)} (h : Tab w T) : ((List.range w).filter fun p => decide (p ∈ keysOf T)).length = T.length := by
  have key : ((List.range w).filter fun p => decide (p ∈ keysOf T)).length = (keysOf T).length := by
    refine same_len (List.nodup_range.filter fun p => decide (p ∈ keysOf T)) h.nodup fun x => ?_
    rw [List.mem_filter, List.mem_range]
    constructor
    · exact fun z => of_decide_eq_true z.2
    · intro hx
      refine ⟨?_, decide_eq_true hx⟩
      obtain ⟨⟨l, r⟩, m, e⟩ := List.mem_map.mp hx
      have e : l = x := e
      subst e
      exact h.lt m
  rw [key]
  exact List.length_map _
theorem tab_len_le {w : Nat} {T : List (Nat × List Int)} (h : Tab w T) : T.length ≤ w := by
  rw [← keys_in h]
  exact Nat.le_trans (List.length_filter_le _ _) (by rw [List.length_range]; exact Nat.le_refl _)
def freesOf (w : Nat) (T : List (Nat × List Int)) : List Nat := (List.range w).filter fun p => !decide (p ∈ keysOf T)
theorem split_len (l : List Nat) (f : Nat → Bool) : (l.filter f).length + (l.filter fun p => !f p).length = l.length := by
  induction l with
  | nil => rfl
  | cons x xs ih =>
    rw [List.filter_cons, List.filter_cons]
    cases f x <;> simp <;> omega
theorem frees_len {w : Nat} {T : List (Nat × List Int)} (h : Tab w T) : (freesOf w T).length = w - T.length := by
  have := split_len (List.range w) fun p => decide (p ∈ keysOf T)
  rw [keys_in h, List.length_range] at this
  unfold freesOf
  omega
end LA
namespace LA
/-- sums of products -/
def dot : Nat → Vec → Vec → Int
  | 0, _, _ => 0
  | n + 1, u, v => dot n u v + u n * v n
theorem dot_add (n : Nat) (k u v : Vec) : dot n k (fun p => u p + v p) = dot n k u + dot n k v := by
  induction n with
  | zero => rfl
  | succ n ih => show dot n k _ + _ = _; rw [ih]; show _ = (dot n k u + _) + (dot n k v + _); grind
theorem dot_mul (n : Nat) (k u : Vec) (c : Int) : dot n k (fun p => c * u p) = c * dot n k u := by
  induction n with
  | zero => exact (Int.mul_zero c).symm
  | succ n ih => show dot n k _ + _ = _; rw [ih]; show _ = c * (dot n k u + _); grind
theorem dot_lmul (n : Nat) (k u : Vec) (c : Int) : dot n (fun p => c * k p) u = c * dot n k u := by
  induction n with
  | zero => exact (Int.mul_zero c).symm
  | succ n ih => show dot n _ u + _ = _; rw [ih]; show _ = c * (dot n k u + _); grind
theorem dot_zero (n : Nat) (k u : Vec) (h : ∀ p, p < n → k p * u p = 0) : dot n k u = 0 := by
  induction n with
  | zero => rfl
  | succ n ih => show dot n k u + _ = _; rw [ih fun p hp => h p (by omega), h n (by omega)]; rfl
theorem dot_two (n : Nat) (k u : Vec) (a b : Nat) (ha : a < n) (hb : b < n) (hab : a ≠ b) (h : ∀ p, p < n → p ≠ a → p ≠ b → k p * u p = 0) : dot n k u = k a * u a + k b * u b := by
  have one : ∀ n a, a < n → ∀ k u : Vec, (∀ p, p < n → p ≠ a → k p * u p = 0) → dot n k u = k a * u a := by
    intro n
    induction n with
    | zero => intro a h; exact absurd h (Nat.not_lt_zero _)
    | succ n ih =>
      intro a ha k u h
      show dot n k u + _ = _
      by_cases e : a = n
      · subst e; rw [dot_zero _ _ _ fun p hp => h p (by omega) (by omega)]; simp
      · rw [ih a (by omega) k u fun p hp q => h p (by omega) q, h n (by omega) (by omega)]; simp
  induction n with
  | zero => exact absurd ha (Nat.not_lt_zero _)
  | succ n ih =>
    show dot n k u + _ = _
    by_cases ea : a = n
    · subst ea
      rw [one _ b (by omega) k u fun p hp q => h p (by omega) (by omega) q]
      omega
    · by_cases eb : b = n
      · subst eb
        rw [one _ a (by omega) k u fun p hp q => h p (by omega) q (by omega)]
      · rw [ih (by omega) (by omega) fun p hp q r => h p (by omega) q r, h n (by omega) (by omega) (by omega)]
        omega
theorem dot_sp {n : Nat} {k : Vec} {S : List (List Int)} (h : ∀ r ∈ S, dot n k (co r) = 0) {u : Vec} (hu : Sp S u) : dot n k u = 0 := by
  induction hu with
  | mem m => exact h _ m
  | zero => exact dot_zero _ _ _ fun p _ => Int.mul_zero _
  | add _ _ a b => rw [dot_add, a, b]; rfl
  | smul c _ a => rw [dot_mul, a, Int.mul_zero]
  | div hk _ a => rw [dot_mul] at a; exact mul_zero_or a hk
def scaleS (s : Nat) (x : Nat × List Int) : Nat := Nat.lcm s (co x.2 x.1).natAbs
def scaleL (T : List (Nat × List Int)) : Nat := T.foldl scaleS 1
theorem scaleF (T : List (Nat × List Int)) (s : Nat) : s ∣ T.foldl scaleS s ∧ ∀ l r, (l, r) ∈ T → (co r l).natAbs ∣ T.foldl scaleS s := by
  induction T generalizing s with
  | nil => exact ⟨Nat.dvd_refl _, fun _ _ h => by cases h⟩
  | cons x xs ih =>
    obtain ⟨a, b⟩ := ih (scaleS s x)
    refine ⟨Nat.dvd_trans (Nat.dvd_lcm_left _ _) a, fun l r m => ?_⟩
    rcases List.mem_cons.mp m with e | m
    · subst e
      exact Nat.dvd_trans (Nat.dvd_lcm_right _ _) a
    · exact b l r m
theorem scaleF_pos (T : List (Nat × List Int)) (h : ∀ l r, (l, r) ∈ T → co r l ≠ 0) (s : Nat) (hs : 0 < s) : 0 < T.foldl scaleS s := by
  induction T generalizing s with
  | nil => exact hs
  | cons x xs ih => exact ih (fun l r m => h l r (List.mem_cons_of_mem _ m)) _ (Nat.lcm_pos hs (Int.natAbs_pos.mpr (h x.1 x.2 (List.mem_cons_self ..))))
theorem scaleF_le (b : Nat) (T : List (Nat × List Int)) (h : ∀ l r, (l, r) ∈ T → Bd b r) (s a : Nat) (hs : s ≤ 2 ^ a) : T.foldl scaleS s ≤ 2 ^ (a + T.length * b) := by
  induction T generalizing s a with
  | nil => simpa using hs
  | cons x xs ih =>
    have h1 := h x.1 x.2 (List.mem_cons_self ..) x.1
    have : scaleS s x ≤ 2 ^ (a + b) := by
      unfold scaleS
      refine Nat.le_trans (Nat.div_le_self _ _) ?_
      rw [Nat.pow_add]
      exact Nat.mul_le_mul hs (Nat.le_of_lt h1)
    have := ih (fun l r m => h l r (List.mem_cons_of_mem _ m)) _ _ this
    rw [List.length_cons, Nat.add_mul]
    rwa [show a + (xs.length * b + 1 * b) = a + b + xs.length * b from by omega]
def numS (free : Nat) (scale : Int) (nums : List Int) (x : Nat × List Int) : List Int := nums.set x.1 ((-(co x.2 free) * scale).fdiv (co x.2 x.1))
def numsL (T : List (Nat × List Int)) (free w : Nat) : List Int := T.foldl (numS free (scaleL T)) ((List.replicate w 0).set free (scaleL T))
theorem numsF_len (T : List (Nat × List Int)) (free : Nat) (s : Int) (n : List Int) : (T.foldl (numS free s) n).length = n.length := by
  induction T generalizing n with
  | nil => rfl
  | cons x xs ih => rw [List.foldl_cons, ih]; exact List.length_set
theorem numsL_len (T : List (Nat × List Int)) (free w : Nat) : (numsL T free w).length = w := by
  unfold numsL
  rw [numsF_len, List.length_set, List.length_replicate]
theorem numsF_co {w : Nat} {T : List (Nat × List Int)} (hn : (keysOf T).Nodup) (hw : ∀ l r, (l, r) ∈ T → l < w) (free : Nat) (s : Int) (n : List Int) (hl : n.length = w) :
    (∀ p, p ∉ keysOf T → co (T.foldl (numS free s) n) p = co n p) ∧ ∀ l r, (l, r) ∈ T → co (T.foldl (numS free s) n) l = (-(co r free) * s).fdiv (co r l) := by
  induction T generalizing n with
  | nil => exact ⟨fun _ _ => rfl, fun _ _ h => by cases h⟩
  | cons x xs ih =>
    have nx : x.1 ∉ keysOf xs ∧ (keysOf xs).Nodup := List.nodup_cons.mp hn
    have hx := hw x.1 x.2 (List.mem_cons_self ..)
    obtain ⟨a, b⟩ := ih nx.2 (fun l r m => hw l r (List.mem_cons_of_mem _ m)) (numS free s n x) (by unfold numS; rw [List.length_set]; exact hl)
    refine ⟨fun p hp => ?_, fun l r m => ?_⟩
    · have h1 : p ≠ x.1 := fun z => hp (z ▸ List.mem_cons_self ..)
      have h2 : p ∉ keysOf xs := fun z => hp (List.mem_cons_of_mem _ z)
      rw [List.foldl_cons, a p h2]
      unfold numS
      rw [co_set (by omega), if_neg h1]
    · rcases List.mem_cons.mp m with e | m
      · subst e
        rw [List.foldl_cons, a l nx.1]
        unfold numS
        rw [co_set (by show l < n.length; rw [hl]; exact hx)]
        exact if_pos rfl
      · exact b l r m
theorem co_repl (w p : Nat) : co (List.replicate w 0) p = 0 := by
  by_cases h : p < w
  · rw [co_lt (by rw [List.length_replicate]; exact h), List.getElem_replicate]
  · exact co_ge (by rw [List.length_replicate]; omega)
theorem scale_ne {w : Nat} {T : List (Nat × List Int)} (hT : Tab w T) : (scaleL T : Int) ≠ 0 := by
  have := scaleF_pos T (fun l r m => (hT.lead l r m).1) 1 (by decide)
  have : 0 < scaleL T := this
  omega
theorem numsL_co {w : Nat} {T : List (Nat × List Int)} (hT : Tab w T) {free : Nat} (hf : free < w) (hk : free ∉ keysOf T) :
    (∀ p, p ∉ keysOf T → co (numsL T free w) p = if p = free then (scaleL T : Int) else 0) ∧ ∀ l r, (l, r) ∈ T → co r l * co (numsL T free w) l = -(co r free) * scaleL T := by
  obtain ⟨a, b⟩ := numsF_co (w := w) hT.nodup (fun l r m => hT.lt m) free (scaleL T) ((List.replicate w 0).set free (scaleL T)) (by rw [List.length_set, List.length_replicate])
  refine ⟨fun p hp => ?_, fun l r m => ?_⟩
  · unfold numsL
    rw [a p hp, co_set (by rw [List.length_replicate]; exact hf), co_repl]
  · unfold numsL
    rw [b l r m]
    exact fdiv_mul (Int.dvd_mul_of_dvd_right (nat_dvd.mpr (by
      have := (scaleF T 1).2 l r m
      have h2 : (co r l).natAbs ∣ scaleL T := this
      exact h2) |> fun h => (Int.natAbs_dvd.mp h)))
def kernelL (T : List (Nat × List Int)) (free w : Nat) : List Int := primL (numsL T free w)
theorem kernelL_len (T : List (Nat × List Int)) (free w : Nat) : (kernelL T free w).length = w := (primL_len _).trans (numsL_len T free w)
theorem kernelL_free {w : Nat} {T : List (Nat × List Int)} (hT : Tab w T) {free : Nat} (hf : free < w) (hk : free ∉ keysOf T) : co (kernelL T free w) free ≠ 0 ∧ ∀ p, p ∉ keysOf T → p ≠ free → co (kernelL T free w) p = 0 := by
  obtain ⟨a, b⟩ := numsL_co hT hf hk
  obtain ⟨c, hc, e⟩ := primL_mul (numsL T free w)
  refine ⟨fun z => ?_, fun p hp n => ?_⟩
  · have := a free hk
    rw [if_pos rfl, e free] at this
    have z : co (primL (numsL T free w)) free = 0 := z
    rw [z, Int.mul_zero] at this
    exact scale_ne hT this.symm
  · have := a p hp
    rw [if_neg n, e p] at this
    exact mul_zero_or this hc
theorem kernelL_dot {w : Nat} {T : List (Nat × List Int)} (hT : Tab w T) {free : Nat} (hf : free < w) (hk : free ∉ keysOf T) {u : Vec} (hu : Sp (rowsOf T) u) : dot w (co (kernelL T free w)) u = 0 := by
  obtain ⟨a, b⟩ := numsL_co hT hf hk
  obtain ⟨c, hc, e⟩ := primL_mul (numsL T free w)
  refine dot_sp (fun r m => ?_) hu
  obtain ⟨⟨l, r'⟩, m', e'⟩ := List.mem_map.mp m
  have e' : r' = r := e'
  subst e'
  have hlf : l ≠ free := fun z => hk (z ▸ List.mem_map_of_mem (f := (·.1)) m')
  have : dot w (fun p => c * co (primL (numsL T free w)) p) (co r') = 0 := by
    rw [dot_two w _ _ free l hf (hT.lt m') (Ne.symm hlf) fun p hp h1 h2 => ?_]
    · rw [← e, ← e, a free hk, if_pos rfl]
      have := b l r' m'
      grind
    · by_cases hpk : p ∈ keysOf T
      · obtain ⟨⟨l2, r2⟩, m2, e2⟩ := List.mem_map.mp hpk
        have e2 : l2 = p := e2
        subst e2
        rw [hT.other l r' l2 r2 m' m2 (Ne.symm h2), Int.mul_zero]
      · rw [← e, a p hpk, if_neg h1, Int.zero_mul]
  rw [dot_lmul] at this
  exact mul_zero_or this hc
theorem kernelL_bd {w b : Nat} {T : List (Nat × List Int)} (hT : Tab w T) (hb : ∀ l r, (l, r) ∈ T → Bd b r) {free : Nat} (hf : free < w) (hk : free ∉ keysOf T) : Bd (b + T.length * b + 1) (numsL T free w) := by
  obtain ⟨a, c⟩ := numsL_co hT hf hk
  have hs : scaleL T ≤ 2 ^ (0 + T.length * b) := scaleF_le b T hb 1 0 (by decide)
  rw [Nat.zero_add] at hs
  have hlt : 2 ^ (T.length * b) < 2 ^ (b + T.length * b + 1) := Nat.pow_lt_pow_right (by decide) (by omega)
  intro p
  by_cases hp : p ∈ keysOf T
  · obtain ⟨⟨l, r⟩, m, e⟩ := List.mem_map.mp hp
    have e : l = p := e
    subst e
    have h1 := c l r m
    have h2 : (co (numsL T free w) l).natAbs ≤ (-(co r free) * (scaleL T : Int)).natAbs := natAbs_of_mul h1.symm (hT.lead l r m).1
    refine Nat.lt_of_le_of_lt h2 ?_
    rw [Int.natAbs_mul, Int.natAbs_neg]
    have h3 := hb l r m free
    have h4 : (co r free).natAbs * (scaleL T : Int).natAbs ≤ 2 ^ b * 2 ^ (T.length * b) := Nat.mul_le_mul (Nat.le_of_lt h3) hs
    rw [← Nat.pow_add] at h4
    exact Nat.lt_of_le_of_lt h4 (Nat.pow_lt_pow_right (by decide) (by omega))
  · rw [a p hp]
    split
    · exact Nat.lt_of_le_of_lt hs hlt
    · exact Nat.two_pow_pos _
theorem kernels_indep {w : Nat} {T : List (Nat × List Int)} (hT : Tab w T) : Indep ((freesOf w T).map fun f => kernelL T f w) := by
  intro c hc i hi
  rw [List.length_map] at hi
  have hm : (freesOf w T)[i] ∈ freesOf w T := List.getElem_mem hi
  have hmem : ∀ f ∈ freesOf w T, f < w ∧ f ∉ keysOf T := fun f m => by
    obtain ⟨a, b⟩ := List.mem_filter.mp m
    exact ⟨List.mem_range.mp a, fun z => by rw [decide_eq_true z] at b; cases b⟩
  have := hc (freesOf w T)[i]
  rw [lin_one c _ _ i (kernelL T (freesOf w T)[i] w) (by rw [List.getElem?_map, List.getElem?_eq_getElem hi]; rfl) fun j s hj n => ?_] at this
  · rcases Int.mul_eq_zero.mp this with z | z
    · exact z
    · exact absurd z (kernelL_free hT (hmem _ hm).1 (hmem _ hm).2).1
  · rw [List.getElem?_map] at hj
    obtain ⟨f, hf, e⟩ := Option.map_eq_some_iff.mp hj
    subst e
    have mf : f ∈ freesOf w T := List.mem_of_getElem? hf
    have hne : (freesOf w T)[i] ≠ f := fun z => n (by
      have nd : (freesOf w T).Nodup := List.nodup_range.filter _
      have hj1 := (List.getElem?_eq_some_iff.mp hf).1
      exact (List.getElem?_inj hj1 nd).mp (hf.trans (z ▸ (List.getElem?_eq_getElem hi)).symm))
    rw [(kernelL_free hT (hmem f mf).1 (hmem f mf).2).2 _ (hmem _ hm).2 hne, Int.mul_zero]
/-! ### the law's own elimination -/
def thinL (r : List Int) : List Int := if 1 < gcdL r then r.map (fun n => n.fdiv (gcdL r)) else r
theorem thinL_len (r : List Int) : (thinL r).length = r.length := by
  unfold thinL
  split
  · exact List.length_map _
  · rfl
theorem thinL_mul (r : List Int) : ∃ c : Int, c ≠ 0 ∧ ∀ p, co r p = c * co (thinL r) p := by
  unfold thinL
  split
  · rename_i h
    refine ⟨gcdL r, by omega, fun p => ?_⟩
    rw [co_map (f := fun n => n.fdiv (gcdL r)) (Int.zero_fdiv _)]
    exact (fdiv_mul (gcdL_co r p)).symm
  · exact ⟨1, by decide, fun p => (Int.one_mul _).symm⟩
theorem Bd.thin {n : Nat} {r : List Int} (h : Bd n r) : Bd n (thinL r) := fun p => by
  obtain ⟨c, hc, e⟩ := thinL_mul r
  exact Nat.lt_of_le_of_lt (natAbs_of_mul (e p) hc) (h p)
def crossL (w : Nat) (first other : List Int) (at' : Nat) : List Int := (List.range w).map fun p => co first at' * co other p - co other at' * co first p
theorem crossL_len (w : Nat) (first other : List Int) (at' : Nat) : (crossL w first other at').length = w := by
  unfold crossL
  rw [List.length_map, List.length_range]
theorem crossL_co {w : Nat} {first other : List Int} {at' : Nat} (h1 : first.length = w) (h2 : other.length = w) (p : Nat) : co (crossL w first other at') p = co first at' * co other p - co other at' * co first p := by
  by_cases h : p < w
  · rw [co_lt (by rw [crossL_len]; exact h)]
    unfold crossL
    rw [List.getElem_map, List.getElem_range]
  · have e1 : co other p = 0 := co_ge (by omega)
    have e2 : co first p = 0 := co_ge (by omega)
    rw [co_ge (r := crossL w first other at') (by rw [crossL_len]; omega), e1, e2, Int.mul_zero, Int.mul_zero]
    rfl
theorem Bd.cross {w b : Nat} {first other : List Int} {at' : Nat} (h1 : first.length = w) (h2 : other.length = w) (hf : Bd b first) (ho : Bd b other) : Bd (b + b + 1) (crossL w first other at') := fun p => by
  rw [crossL_co h1 h2]
  exact bd_comb (hf at') (ho p) (ho at') (hf p)
/-- the state of the elimination -/
structure RI (w : Nat) (rows left : List (List Int)) (total at' : Nat) : Prop where
  n : left.length = rows.length
  len : ∀ r ∈ left, r.length = w
  stair : ∃ ls, Stair ls (left.take total) ∧ ∀ l ∈ ls, l < at'
  low : ∀ i r, left[i]? = some r → total ≤ i → ∀ q, q < at' → co r q = 0
  sp : SpEq left rows
  ind : Indep rows → Indep left
theorem RI.start {w : Nat} {rows : List (List Int)} (h : ∀ r ∈ rows, r.length = w) : RI w rows rows 0 0 :=
  ⟨rfl, h, ⟨[], True.intro, fun _ h => by cases h⟩, fun _ _ _ _ q hq => absurd hq (Nat.not_lt_zero _), .refl _, id⟩
/-- no row has a number there -/
theorem RI.skip {w : Nat} {rows left : List (List Int)} {total at' : Nat} (h : RI w rows left total at') (hz : ∀ i r, left[i]? = some r → total ≤ i → co r at' = 0) : RI w rows left total (at' + 1) := by
  obtain ⟨ls, a, b⟩ := h.stair
  refine ⟨h.n, h.len, ⟨ls, a, fun l m => Nat.lt_succ_of_lt (b l m)⟩, fun i r e t q hq => ?_, h.sp, h.ind⟩
  rcases Nat.lt_succ_iff_lt_or_eq.mp hq with z | z
  · exact h.low i r e t q z
  · rw [z]; exact hz i r e t
theorem mem_set_of {S : List (List Int)} {i : Nat} {x r : List Int} (h : r ∈ S.set i x) : r ∈ S ∨ r = x := List.mem_or_eq_of_mem_set h
/-- two rows change places -/
theorem RI.swap {w : Nat} {rows left : List (List Int)} {total at' j : Nat} {r s : List Int} (h : RI w rows left total at') (hi : left[total]? = some r) (hj : left[j]? = some s) (ht : total ≤ j) : RI w rows ((left.set total s).set j r) total at' := by
  by_cases e : total = j
  · subst e
    have : r = s := Option.some.inj (hi.symm.trans hj)
    subst this
    have : (left.set total r).set total r = left := by
      apply List.ext_getElem?
      intro m
      by_cases q : m = total
      · subst q
        have := (List.getElem?_eq_some_iff.mp hi).1
        rw [List.getElem?_set_self (by rw [List.length_set]; exact this), hi]
      · rw [List.getElem?_set_ne (Ne.symm q), List.getElem?_set_ne (Ne.symm q)]
    rw [this]
    exact h
  have hi' := (List.getElem?_eq_some_iff.mp hi).1
  have hj' := (List.getElem?_eq_some_iff.mp hj).1
  have hmem : ∀ x, x ∈ (left.set total s).set j r → x ∈ left := fun x m => by
    rcases mem_set_of m with m | rfl
    · rcases mem_set_of m with m | rfl
      · exact m
      · exact List.mem_of_getElem? hj
    · exact List.mem_of_getElem? hi
  have hget : ∀ m : Nat, m ≠ total → m ≠ j → ((left.set total s).set j r)[m]? = left[m]? := fun m a b => by
    rw [List.getElem?_set_ne (Ne.symm b), List.getElem?_set_ne (Ne.symm a)]
  have g1 : ((left.set total s).set j r)[total]? = some s := by rw [List.getElem?_set_ne (Ne.symm e), List.getElem?_set_self hi']
  have g2 : ((left.set total s).set j r)[j]? = some r := List.getElem?_set_self (by rw [List.length_set]; exact hj')
  refine ⟨?_, fun x m => h.len x (hmem x m), ?_, fun i x ex t q hq => ?_, ?_, fun z => (h.ind z).swap hi hj e⟩
  · rw [List.length_set, List.length_set]; exact h.n
  · rw [List.take_set_of_le (by omega), List.take_set_of_le (by omega)]
    exact h.stair
  · by_cases a : i = total
    · subst a
      rw [g1] at ex
      exact Option.some.inj ex ▸ h.low j s hj ht q hq
    · by_cases b : i = j
      · subst b
        rw [g2] at ex
        exact Option.some.inj ex ▸ h.low total r hi (Nat.le_refl _) q hq
      · exact h.low i x (by rw [← hget i a b]; exact ex) t q hq
  · refine SpEq.trans (.mem fun x => ⟨hmem x, fun m => ?_⟩) h.sp
    obtain ⟨m', hm', em⟩ := List.getElem_of_mem m
    by_cases a : m' = total
    · subst a
      have : r = x := by rw [List.getElem?_eq_getElem hm', em] at hi; exact (Option.some.inj hi).symm
      subst this
      exact List.mem_of_getElem? g2
    · by_cases b : m' = j
      · subst b
        have : s = x := by rw [List.getElem?_eq_getElem hm', em] at hj; exact (Option.some.inj hj).symm
        subst this
        exact List.mem_of_getElem? g1
      · exact List.mem_of_getElem? (i := m') (by rw [hget m' a b, List.getElem?_eq_getElem hm', em])
/-- one row is put right; k rows are done -/
theorem RI.elim {w : Nat} {rows left : List (List Int)} {total at' k : Nat} {first other x : List Int} (h : RI w rows left total at') (hf : left[total]? = some first) (h0 : co first at' ≠ 0) (hk : left[k]? = some other) (ht : total < k) (hx : x = thinL (crossL w first other at')) :
    RI w rows (left.set k x) total at' ∧ co x at' = 0 := by
  have l1 := h.len first (List.mem_of_getElem? hf)
  have l2 := h.len other (List.mem_of_getElem? hk)
  obtain ⟨c, hc, e⟩ := thinL_mul (crossL w first other at')
  rw [← hx] at e
  have e2 : ∀ p, c * co x p = co first at' * co other p - co other at' * co first p := fun p => by rw [← e p, crossL_co l1 l2]
  have zero : ∀ q, co first at' * co other q - co other at' * co first q = 0 → co x q = 0 := fun q hq => mul_zero_or ((e2 q).trans hq) hc
  have hk' := (List.getElem?_eq_some_iff.mp hk).1
  have hxw : x.length = w := by rw [hx, thinL_len, crossL_len]
  have hgx : (left.set k x)[k]? = some x := List.getElem?_set_self hk'
  have hgf : (left.set k x)[total]? = some first := by rw [List.getElem?_set_ne (by omega)]; exact hf
  refine ⟨⟨by rw [List.length_set]; exact h.n, fun r m => ?_, ?_, fun i r er t q hq => ?_, ?_, fun z => (h.ind z).step hk hf (by omega) hc h0 e2⟩, zero at' (by grind)⟩
  · rcases mem_set_of m with m | rfl
    · exact h.len r m
    · exact hxw
  · rw [List.take_set_of_le (by omega)]
    exact h.stair
  · by_cases a : i = k
    · subst a
      rw [hgx] at er
      have := Option.some.inj er
      subst this
      exact zero q (by rw [h.low i other hk t q hq, h.low total first hf (Nat.le_refl _) q hq]; simp)
    · rw [List.getElem?_set_ne (Ne.symm a)] at er
      exact h.low i r er t q hq
  · refine SpEq.trans (.of (fun r m => ?_) fun r m => ?_) h.sp
    · rcases mem_set_of m with m | rfl
      · exact .mem m
      · exact Sp.rel hc (.mem (List.mem_of_getElem? hk)) (.mem (List.mem_of_getElem? hf)) e2
    · obtain ⟨m', hm', em⟩ := List.getElem_of_mem m
      by_cases a : m' = k
      · subst a
        have : other = r := by rw [List.getElem?_eq_getElem hm', em] at hk; exact (Option.some.inj hk).symm
        subst this
        exact .div h0 (Sp.eq (.add (.smul c (.mem (List.mem_of_getElem? hgx))) (.smul (co other at') (.mem (List.mem_of_getElem? hgf)))) fun p => by have := e2 p; grind)
      · exact .mem (List.mem_of_getElem? (i := m') (by rw [List.getElem?_set_ne (Ne.symm a), List.getElem?_eq_getElem hm', em]))
/-- all rows below are put right -/
theorem RI.next {w : Nat} {rows left : List (List Int)} {total at' : Nat} {first : List Int} (h : RI w rows left total at') (hf : left[total]? = some first) (h0 : co first at' ≠ 0) (hz : ∀ i r, left[i]? = some r → total < i → co r at' = 0) : RI w rows left (total + 1) (at' + 1) := by
  obtain ⟨ls, a, b⟩ := h.stair
  refine ⟨h.n, h.len, ⟨ls ++ [at'], ?_, fun l m => ?_⟩, fun i r e t q hq => ?_, h.sp, h.ind⟩
  · rw [List.take_add_one, hf]
    exact a.app ⟨h0, fun q hq => h.low total first hf (Nat.le_refl _) q hq⟩ b
  · rcases List.mem_append.mp m with m | m
    · exact Nat.lt_succ_of_lt (b l m)
    · rw [List.mem_singleton.mp m]; omega
  · rcases Nat.lt_succ_iff_lt_or_eq.mp hq with z | z
    · exact h.low i r e (by omega) q z
    · rw [z]; exact hz i r e (by omega)
/-- what a rank tells -/
def IsRank (rows : List (List Int)) (n : Nat) : Prop := (∃ ls S, Stair ls S ∧ SpEq S rows ∧ S.length = n) ∧ (Indep rows → n = rows.length)
theorem RI.done {w : Nat} {rows left : List (List Int)} {total at' : Nat} (h : RI w rows left total at') (ht : total ≤ left.length) (hd : w ≤ at' ∨ left.length ≤ total) : IsRank rows total := by
  obtain ⟨ls, a, b⟩ := h.stair
  have zero : ∀ i r, left[i]? = some r → total ≤ i → ∀ p, co r p = 0 := fun i r e t p => by
    rcases hd with hd | hd
    · by_cases q : p < at'
      · exact h.low i r e t p q
      · exact co_ge (by rw [h.len r (List.mem_of_getElem? e)]; omega)
    · have := (List.getElem?_eq_some_iff.mp e).1
      omega
  refine ⟨⟨ls, left.take total, a, SpEq.trans (.of (fun r m => .mem (List.mem_of_mem_take m)) fun r m => ?_) h.sp, by rw [List.length_take]; omega⟩, fun ind => ?_⟩
  · obtain ⟨i, hi, e⟩ := List.getElem_of_mem m
    have e : left[i]? = some r := by rw [List.getElem?_eq_getElem hi, e]
    by_cases q : i < total
    · exact .mem (List.mem_of_getElem? (i := i) (by rw [List.getElem?_take_of_lt q]; exact e))
    · exact Sp.eq .zero fun p => (zero i r e (by omega) p).symm
  · rcases Nat.lt_or_ge total left.length with q | q
    · exact ((h.ind ind).no_zero (List.getElem?_eq_getElem q) (zero total _ (List.getElem?_eq_getElem q) (Nat.le_refl _))).elim
    · rw [← h.n]; omega
theorem IsRank.tab {w n : Nat} {rows : List (List Int)} (h : IsRank rows n) {T : List (Nat × List Int)} (hT : Tab w T) (e : SpEq (rowsOf T) rows) : n = T.length := by
  obtain ⟨ls, S, a, b, c⟩ := h.1
  rw [← c]
  exact stair_tab hT a (b.trans e.symm)
end LA
namespace LA
/-! ### one form -/
theorem gcdF_mul (k : Int) (r : List Int) (g : Nat) : (r.map (fun n => k * n)).foldl (fun g n => Nat.gcd g n.natAbs) (k.natAbs * g) = k.natAbs * r.foldl (fun g n => Nat.gcd g n.natAbs) g := by
  induction r generalizing g with
  | nil => rfl
  | cons x xs ih =>
    rw [List.map_cons, List.foldl_cons, List.foldl_cons, Int.natAbs_mul, Nat.gcd_mul_left]
    exact ih _
theorem gcdL_mul (k : Int) (r : List Int) : gcdL (r.map (fun n => k * n)) = k.natAbs * gcdL r := by
  have := gcdF_mul k r 0
  rw [Nat.mul_zero] at this
  exact this
def Prm (r : List Int) (l : Nat) : Prop := gcdL r = 1 ∧ 0 < co r l
theorem signG_abs (r : List Int) : (signG r).natAbs = gcdL r := by
  unfold signG
  split
  · rw [Int.natAbs_neg]; rfl
  · rfl
theorem primL_map {r : List Int} (h : gcdL r ≠ 0) : (primL r).map (fun n => signG r * n) = r := by
  refine co_ext (by rw [List.length_map, primL_len]) fun p => ?_
  rw [co_map (f := fun n => signG r * n) (Int.mul_zero _)]
  exact primL_co h p
theorem prim_prm {r : List Int} {l : Nat} (h : Lead (co (primL r)) l) : Prm (primL r) l := by
  obtain ⟨c, hc, e⟩ := primL_mul r
  have hr : Lead (co r) l := (lead_mul hc e).mpr h
  have hg : gcdL r ≠ 0 := fun z => hr.1 (gcdL_zero z l)
  constructor
  · have h1 := gcdL_mul (signG r) (primL r)
    rw [primL_map hg, signG_abs] at h1
    have h2 : gcdL r * 1 = gcdL r * gcdL (primL r) := by rw [Nat.mul_one]; exact h1
    exact (Nat.eq_of_mul_eq_mul_left (Nat.pos_of_ne_zero hg) h2).symm
  · have h1 := primL_co hg l
    have h2 : leadL r = l := leadL_of hr
    have hg' : (0 : Int) < (gcdL r : Int) := by omega
    unfold signG at h1
    rw [h2] at h1
    have h3 := h.1
    rcases Int.lt_trichotomy (co (primL r) l) 0 with z | z | z
    · exfalso
      split at h1
      · rename_i q
        have : 0 < (gcdL r : Int) * -(co (primL r) l) := Int.mul_pos hg' (by omega)
        grind
      · rename_i q
        have : 0 < (gcdL r : Int) * -(co (primL r) l) := Int.mul_pos hg' (by omega)
        grind
    · exact absurd z h3
    · exact z
theorem prm_same {r s : List Int} {l : Nat} {a b : Int} (hr : Prm r l) (hs : Prm s l) (hl : r.length = s.length) (ha : 0 < a) (hb : 0 < b) (e : ∀ p, a * co r p = b * co s p) : r = s := by
  have h : r.map (fun n => a * n) = s.map (fun n => b * n) := co_ext (by rw [List.length_map, List.length_map, hl]) fun p => by
    rw [co_map (f := fun n => a * n) (Int.mul_zero _), co_map (f := fun n => b * n) (Int.mul_zero _)]
    exact e p
  have h2 := congrArg gcdL h
  rw [gcdL_mul, gcdL_mul, hr.1, hs.1] at h2
  have hab : a = b := by omega
  subst hab
  exact co_ext hl fun p => Int.eq_of_mul_eq_mul_left (by omega) (e p)
/-- all rows of a table have the one form -/
def Nrm (T : List (Nat × List Int)) : Prop := ∀ l r, (l, r) ∈ T → Prm r l
theorem Nrm.nil : Nrm [] := fun _ _ h => by cases h
theorem Nrm.join {w : Nat} {T : List (Nat × List Int)} (hT : Tab w T) (h : Nrm T) {row : List Int} (hr : row.length = w) : Nrm (joinL T row) := by
  have hJ := (join_ok hT hr).1
  intro l s m
  have m0 := m
  unfold joinL at m
  split at m
  · exact h l s m
  · rcases List.mem_append.mp m with m | m
    · obtain ⟨⟨l', r'⟩, m', e'⟩ := List.mem_map.mp m
      have e1 : l' = l := congrArg Prod.fst e'
      have e2 : (putS (primL (restL T row)) (leadL (primL (restL T row))) (l', r')).2 = s := congrArg Prod.snd e'
      unfold putS at e2
      dsimp only at e2
      split at e2
      · subst e2
        exact e1 ▸ h l' r' m'
      · have := hJ.lead l s m0
        rw [← e2] at this ⊢
        exact prim_prm this
    · have e := List.mem_singleton.mp m
      have e2 : s = primL (restL T row) := congrArg Prod.snd e
      have := hJ.lead l s m0
      rw [e2] at this ⊢
      exact prim_prm this
theorem nrmF {w : Nat} (rows : List (List Int)) (T : List (Nat × List Int)) (hT : Tab w T) (h : Nrm T) (hr : ∀ r ∈ rows, r.length = w) : Nrm (rows.foldl joinL T) := by
  induction rows generalizing T with
  | nil => exact h
  | cons r rs ih => exact ih _ (join_ok hT (hr r (List.mem_cons_self ..))).1 (h.join hT (hr r (List.mem_cons_self ..))) fun x hx => hr x (List.mem_cons_of_mem _ hx)
theorem tab_nrm {w : Nat} {rows : List (List Int)} (hr : ∀ r ∈ rows, r.length = w) : Nrm (tabL rows) := nrmF (w := w) rows [] (.nil w) .nil hr
/-! ### what a table spans -/
theorem sp_zero {w : Nat} {T : List (Nat × List Int)} (hT : Tab w T) {u : Vec} (hu : Sp (rowsOf T) u) (hz : ∀ p ∈ keysOf T, u p = 0) : ∀ p, u p = 0 := by
  intro p
  induction p using Nat.strongRecOn with
  | ind p ih =>
    by_cases h : u p = 0
    · exact h
    · exact hz p ((hT.leads p).mp ⟨u, hu, h, ih⟩)
theorem mem_key {T : List (Nat × List Int)} {p : Nat} (h : p ∈ keysOf T) : ∃ r, (p, r) ∈ T := by
  obtain ⟨⟨l, r⟩, m, e⟩ := List.mem_map.mp h
  have e : l = p := e
  exact ⟨r, e ▸ m⟩
theorem key_mem {T : List (Nat × List Int)} {p : Nat} {r : List Int} (h : (p, r) ∈ T) : p ∈ keysOf T := List.mem_map_of_mem (f := (·.1)) h
theorem row_mem {T : List (Nat × List Int)} {p : Nat} {r : List Int} (h : (p, r) ∈ T) : r ∈ rowsOf T := List.mem_map_of_mem (f := (·.2)) h
theorem keys_le {w : Nat} {T T' : List (Nat × List Int)} (hT : Tab w T) (hT' : Tab w T') (h : ∀ r ∈ rowsOf T, Sp (rowsOf T') (co r)) {p : Nat} (hp : p ∈ keysOf T) : p ∈ keysOf T' := by
  obtain ⟨u, hu, hl⟩ := (hT.leads p).mpr hp
  exact (hT'.leads p).mp ⟨u, Sp.le h hu, hl⟩
theorem tab_le {w : Nat} {T T' : List (Nat × List Int)} (hT : Tab w T) (hT' : Tab w T') (h : ∀ r ∈ rowsOf T, Sp (rowsOf T') (co r)) : T.length ≤ T'.length := by
  have := hT.nodup.length_le_of_subset (fun p hp => keys_le hT hT' h hp : keysOf T ⊆ keysOf T')
  rw [List.length_map] at this
  unfold keysOf at this
  rw [List.length_map] at this
  exact this
/-- the rest is 0 just if the row is spanned -/
theorem rest_zero {w : Nat} {T : List (Nat × List Int)} (hT : Tab w T) {row : List Int} (hr : row.length = w) : leadL (restL T row) = w ↔ Sp (rowsOf T) (co row) := by
  obtain ⟨hl, ⟨k, f, hk, hf, u, hu, e⟩, hz⟩ := restL_ok hT hr
  constructor
  · intro h
    have z := leadL_none (r := restL T row) (by rw [h, hl])
    exact .div hf (Sp.eq hu fun p => by
      have := e p
      rw [z p] at this
      grind)
  · intro h
    have hs : Sp (rowsOf T) (co (restL T row)) := .div hk (Sp.eq (.add (.smul f h) (.smul (-1) hu)) fun p => by have := e p; grind)
    have z := sp_zero hT hs fun p hp => by
      obtain ⟨r, m⟩ := mem_key hp
      exact hz p r m
    rcases Nat.lt_or_ge (leadL (restL T row)) (restL T row).length with q | q
    · exact absurd (z _) (leadL_at _ q)
    · have := leadL_le (restL T row)
      omega
/-- the same length, the same span -/
theorem len_sp {w : Nat} {T T' : List (Nat × List Int)} (hT : Tab w T) (hT' : Tab w T') (h : ∀ r ∈ rowsOf T, Sp (rowsOf T') (co r)) (hl : T'.length ≤ T.length) {u : List Int} (hw : u.length = w) (hu : Sp (rowsOf T') (co u)) : Sp (rowsOf T) (co u) := by
  refine (rest_zero hT hw).mp ?_
  obtain ⟨hlen, ⟨k, f, hk, hf, v, hv, e⟩, hz⟩ := restL_ok hT hw
  rcases Nat.lt_or_ge (leadL (restL T u)) (restL T u).length with q | q
  · exfalso
    have hlead := leadL_lead q
    have hs : Sp (rowsOf T') (co (restL T u)) := .div hk (Sp.eq (.add (.smul f hu) (.smul (-1) (Sp.le h hv))) fun p => by have := e p; grind)
    have h1 := (hT'.leads _).mp ⟨_, hs, hlead⟩
    have h2 : leadL (restL T u) ∉ keysOf T := fun m => by
      obtain ⟨r, m⟩ := mem_key m
      exact hlead.1 (hz _ r m)
    have hn : (leadL (restL T u) :: keysOf T).Nodup := List.nodup_cons.mpr ⟨h2, hT.nodup⟩
    have := hn.length_le_of_subset (l₂ := keysOf T') fun p hp => by
      rcases List.mem_cons.mp hp with rfl | hp
      · exact h1
      · exact keys_le hT hT' h hp
    rw [List.length_cons] at this
    unfold keysOf at this
    rw [List.length_map, List.length_map] at this
    omega
  · have := leadL_le (restL T u)
    omega
/-- two tables of one span -/
theorem tab_same {w : Nat} {T T' : List (Nat × List Int)} (hT : Tab w T) (hT' : Tab w T') (N : Nrm T) (N' : Nrm T') (e : SpEq (rowsOf T) (rowsOf T')) {l : Nat} {r : List Int} (m : (l, r) ∈ T) : (l, r) ∈ T' := by
  have k1 : ∀ p, p ∈ keysOf T → p ∈ keysOf T' := fun p hp => keys_le hT hT' (fun r m => (e _).mp (.mem m)) hp
  obtain ⟨r', m'⟩ := mem_key (k1 l (key_mem m))
  have h1 := N l r m
  have h2 := N' l r' m'
  have hu : Sp (rowsOf T) (fun p => co r' l * co r p + -(co r l) * co r' p) := .add (.smul _ (.mem (row_mem m))) (.smul _ ((e _).mpr (.mem (row_mem m'))))
  have z := sp_zero hT hu fun p hp => by
    by_cases q : p = l
    · subst q
      show co r' p * co r p + -(co r p) * co r' p = 0
      grind
    · obtain ⟨s, ms⟩ := mem_key hp
      obtain ⟨s', ms'⟩ := mem_key (k1 p hp)
      show co r' l * co r p + -(co r l) * co r' p = 0
      rw [hT.other l r p s m ms (Ne.symm q), hT'.other l r' p s' m' ms' (Ne.symm q), Int.mul_zero, Int.mul_zero]
      rfl
  have : r = r' := prm_same h1 h2 (by rw [hT.len l r m, hT'.len l r' m']) h2.2 h1.2 fun p => by
    have := z p
    grind
  exact this ▸ m'
/-- the rows in order -/
def getRow (T : List (Nat × List Int)) (l : Nat) : List Int := ((T.find? fun x => x.1 == l).map (·.2)).getD []
def sKeys (T : List (Nat × List Int)) : List Nat := (keysOf T).mergeSort (fun a b => decide (a ≤ b))
def sRows (T : List (Nat × List Int)) : List (List Int) := (sKeys T).map (getRow T)
theorem getRow_of {w : Nat} {T : List (Nat × List Int)} (hT : Tab w T) {l : Nat} {r : List Int} (m : (l, r) ∈ T) : getRow T l = r := by
  unfold getRow
  cases h : T.find? fun x => x.1 == l with
  | none =>
    have := List.find?_eq_none.mp h (l, r) m
    simp at this
  | some x =>
    have h1 : x.1 = l := by simpa using List.find?_some h
    have h2 := List.mem_of_find?_eq_some h
    obtain ⟨a, b⟩ := x
    have h1 : a = l := h1
    subst h1
    exact hT.same h2 m
theorem sKeys_perm (T : List (Nat × List Int)) : (sKeys T).Perm (keysOf T) := List.mergeSort_perm _ _
theorem sKeys_len (T : List (Nat × List Int)) : (sKeys T).length = T.length := by rw [(sKeys_perm T).length_eq]; exact List.length_map _
theorem sRows_len (T : List (Nat × List Int)) : (sRows T).length = T.length := by unfold sRows; rw [List.length_map, sKeys_len]
theorem sorted_uniq {l m : List Nat} (hl : l.Pairwise (· ≤ ·)) (hm : m.Pairwise (· ≤ ·)) (h : l.Perm m) : l = m := List.Perm.eq_of_pairwise (fun a b _ _ x y => Nat.le_antisymm x y) hl hm h
theorem sKeys_sorted (T : List (Nat × List Int)) : (sKeys T).Pairwise (· ≤ ·) := by
  have := List.pairwise_mergeSort (le := fun a b : Nat => decide (a ≤ b)) (by intro a b c; simp; omega) (by intro a b; simp; omega) (keysOf T)
  exact this.imp fun h => by simpa using h
theorem sRows_mem {w : Nat} {T : List (Nat × List Int)} (hT : Tab w T) (r : List Int) : r ∈ sRows T ↔ r ∈ rowsOf T := by
  unfold sRows
  constructor
  · intro h
    obtain ⟨l, hl, e⟩ := List.mem_map.mp h
    obtain ⟨s, m⟩ := mem_key ((sKeys_perm T).mem_iff.mp hl)
    rw [getRow_of hT m] at e
    exact e ▸ row_mem m
  · intro h
    obtain ⟨⟨l, s⟩, m, e⟩ := List.mem_map.mp h
    have e : s = r := e
    subst e
    exact List.mem_map.mpr ⟨l, (sKeys_perm T).mem_iff.mpr (key_mem m), getRow_of hT m⟩
theorem sRows_sp {w : Nat} {T : List (Nat × List Int)} (hT : Tab w T) : SpEq (sRows T) (rowsOf T) := .mem (sRows_mem hT)
theorem sRows_same {w : Nat} {T T' : List (Nat × List Int)} (hT : Tab w T) (hT' : Tab w T') (h : ∀ l r, (l, r) ∈ T ↔ (l, r) ∈ T') : sRows T = sRows T' := by
  have hk : sKeys T = sKeys T' := by
    refine sorted_uniq (sKeys_sorted T) (sKeys_sorted T') (((sKeys_perm T).trans ?_).trans (sKeys_perm T').symm)
    refine (List.perm_ext_iff_of_nodup hT.nodup hT'.nodup).mpr fun p => ?_
    constructor
    · intro hp
      obtain ⟨r, m⟩ := mem_key hp
      exact key_mem ((h p r).mp m)
    · intro hp
      obtain ⟨r, m⟩ := mem_key hp
      exact key_mem ((h p r).mpr m)
  unfold sRows
  rw [← hk]
  refine List.map_congr_left fun l hl => ?_
  obtain ⟨s, m⟩ := mem_key ((sKeys_perm T).mem_iff.mp hl)
  rw [getRow_of hT m, getRow_of hT' ((h l s).mp m)]
/-- == of two tables -/
def eqTab (T T' : List (Nat × List Int)) : Bool := T.length == T'.length && T.all fun x => decide (x ∈ T')
theorem eqTab_iff {w : Nat} {T T' : List (Nat × List Int)} (hT : Tab w T) (hT' : Tab w T') (N : Nrm T) (N' : Nrm T') : eqTab T T' = true ↔ SpEq (rowsOf T) (rowsOf T') := by
  unfold eqTab
  rw [Bool.and_eq_true, List.all_eq_true, beq_iff_eq]
  constructor
  · rintro ⟨h1, h2⟩
    have h3 : ∀ r ∈ rowsOf T, Sp (rowsOf T') (co r) := fun r m => by
      obtain ⟨⟨l, s⟩, m', e⟩ := List.mem_map.mp m
      have e : s = r := e
      subst e
      exact .mem (row_mem (of_decide_eq_true (h2 _ m')))
    exact .of h3 fun r m => by
      obtain ⟨⟨l, s⟩, m', e⟩ := List.mem_map.mp m
      have e : s = r := e
      subst e
      exact len_sp hT hT' h3 (by omega) (hT'.len l s m') (.mem m)
  · intro e
    refine ⟨Nat.le_antisymm (tab_le hT hT' fun r m => (e _).mp (.mem m)) (tab_le hT' hT fun r m => (e _).mpr (.mem m)), fun x m => decide_eq_true ?_⟩
    exact tab_same hT hT' N N' e m
end LA
namespace LA
/-- rows of one width -/
def Wd (w : Nat) (S : List (List Int)) : Prop := ∀ r ∈ S, r.length = w
theorem Wd.app {w : Nat} {S M : List (List Int)} (a : Wd w S) (b : Wd w M) : Wd w (S ++ M) := fun r h => (List.mem_append.mp h).elim (a r) (b r)
theorem Wd.srt {w : Nat} {T : List (Nat × List Int)} (hT : Tab w T) : Wd w (sRows T) := fun r h => by
  obtain ⟨⟨l, s⟩, m, e⟩ := List.mem_map.mp ((sRows_mem hT r).mp h)
  have e : s = r := e
  subst e
  exact hT.len l s m
theorem Wd.tab {w : Nat} {S : List (List Int)} (h : Wd w S) : Tab w (tabL S) := (tab_ok h).1
theorem Wd.sp {w : Nat} {S : List (List Int)} (h : Wd w S) : SpEq (rowsOf (tabL S)) S := (tab_ok h).2
theorem Wd.nrm {w : Nat} {S : List (List Int)} (h : Wd w S) : Nrm (tabL S) := tab_nrm h
theorem rank_len {w n : Nat} {S : List (List Int)} (h : Wd w S) (k : IsRank S n) : n = (tabL S).length := k.tab h.tab h.sp
theorem len_eq {w : Nat} {T T' : List (Nat × List Int)} (hT : Tab w T) (hT' : Tab w T') (e : SpEq (rowsOf T) (rowsOf T')) : T.length = T'.length :=
  Nat.le_antisymm (tab_le hT hT' fun r m => (e _).mp (.mem m)) (tab_le hT' hT fun r m => (e _).mpr (.mem m))
/-- more rows bring no more, just if they are spanned -/
theorem app_iff {w : Nat} {S M : List (List Int)} {T' : List (Nat × List Int)} (hS : Wd w S) (hM : Wd w M) (hT' : Tab w T') (e : SpEq (rowsOf T') (S ++ M)) : T'.length = (tabL S).length ↔ ∀ r ∈ M, Sp (rowsOf (tabL S)) (co r) := by
  have h1 : ∀ r ∈ rowsOf (tabL S), Sp (rowsOf T') (co r) := fun r m => (e _).mpr (Sp.sub (fun r m => List.mem_append_left _ m) ((hS.sp _).mp (.mem m)))
  constructor
  · intro h r m
    exact len_sp hS.tab hT' h1 (by omega) (hM r m) ((e _).mpr (.mem (List.mem_append_right _ m)))
  · intro h
    refine len_eq hT' hS.tab (.of (fun r m => ?_) h1)
    refine Sp.le (fun x mx => ?_) ((e _).mp (.mem m))
    rcases List.mem_append.mp mx with mx | mx
    · exact (hS.sp _).mpr (.mem mx)
    · exact h x mx
theorem within_iff {w : Nat} {T T' : List (Nat × List Int)} (hT : Tab w T) (hT' : Tab w T') : ((sRows T).all fun r => decide (leadL (restL T' r) = w)) = true ↔ ∀ r ∈ rowsOf T, Sp (rowsOf T') (co r) := by
  rw [List.all_eq_true]
  constructor
  · intro h r m
    have m' := (sRows_mem hT r).mpr m
    exact (rest_zero hT' (Wd.srt hT r m')).mp (of_decide_eq_true (h r m'))
  · intro h r m
    exact decide_eq_true ((rest_zero hT' (Wd.srt hT r m)).mpr (h r ((sRows_mem hT r).mp m)))
theorem bool_dec {b : Bool} {p : Prop} [Decidable p] (h : b = true ↔ p) : b = decide p := by
  by_cases q : p
  · rw [decide_eq_true q]; exact h.mpr q
  · rw [decide_eq_false q]
    cases b with
    | false => rfl
    | true => exact absurd (h.mp rfl) q
section
variable {w : Nat} {S1 S2 : List (List Int)}
theorem un_sp (h1 : Wd w S1) (h2 : Wd w S2) : SpEq (rowsOf (tabL (sRows (tabL S1) ++ sRows (tabL S2)))) (S1 ++ S2) := by
  refine ((Wd.srt h1.tab).app (Wd.srt h2.tab)).sp.trans (.of (fun r m => ?_) fun r m => ?_)
  · rcases List.mem_append.mp m with m | m
    · exact Sp.sub (fun r m => List.mem_append_left _ m) ((h1.sp _).mp (.mem ((sRows_mem h1.tab r).mp m)))
    · exact Sp.sub (fun r m => List.mem_append_right _ m) ((h2.sp _).mp (.mem ((sRows_mem h2.tab r).mp m)))
  · rcases List.mem_append.mp m with m | m
    · exact Sp.sub (fun r m => List.mem_append_left _ m) ((sRows_sp h1.tab _).mpr ((h1.sp _).mpr (.mem m)))
    · exact Sp.sub (fun r m => List.mem_append_right _ m) ((sRows_sp h2.tab _).mpr ((h2.sp _).mpr (.mem m)))
theorem un_wd (h1 : Wd w S1) (h2 : Wd w S2) : Wd w (sRows (tabL S1) ++ sRows (tabL S2)) := (Wd.srt h1.tab).app (Wd.srt h2.tab)
theorem sp_comm (A B : List (List Int)) : SpEq (A ++ B) (B ++ A) := .mem fun r => by rw [List.mem_append, List.mem_append]; exact Or.comm
/-- what in answers -/
theorem in_ok {r : List Int} {n n' : Nat} (h1 : Wd w S1) (hr : r.length = w) (k : IsRank S1 n) (k' : IsRank (S1 ++ [r]) n') : decide (leadL (restL (tabL S1) r) = w) = decide (n' = n) := by
  have hM : Wd w [r] := fun x m => by rw [List.mem_singleton.mp m]; exact hr
  rw [rank_len h1 k, rank_len (h1.app hM) k']
  refine bool_dec ?_
  rw [decide_eq_true_iff, rest_zero h1.tab hr, app_iff h1 hM (h1.app hM).tab (h1.app hM).sp]
  exact ⟨fun h x m => by rw [List.mem_singleton.mp m]; exact h, fun h => h r (List.mem_singleton.mpr rfl)⟩
theorem un_len {n : Nat} (h1 : Wd w S1) (h2 : Wd w S2) (k : IsRank (S1 ++ S2) n) : (tabL (sRows (tabL S1) ++ sRows (tabL S2))).length = n := (k.tab (un_wd h1 h2).tab (un_sp h1 h2)).symm
theorem un_within (h1 : Wd w S1) (h2 : Wd w S2) : ((sRows (tabL S1)).all fun r => decide (leadL (restL (tabL (sRows (tabL S1) ++ sRows (tabL S2))) r) = w)) = true :=
  (within_iff h1.tab (un_wd h1 h2).tab).mpr fun r m => (un_sp h1 h2 _).mpr (Sp.sub (fun r m => List.mem_append_left _ m) ((h1.sp _).mp (.mem m)))
theorem un_eq (h1 : Wd w S1) (h2 : Wd w S2) : eqTab (tabL (sRows (tabL S1) ++ sRows (tabL S2))) (tabL (sRows (tabL S2) ++ sRows (tabL S1))) = true :=
  (eqTab_iff (un_wd h1 h2).tab (un_wd h2 h1).tab (un_wd h1 h2).nrm (un_wd h2 h1).nrm).mpr ((un_sp h1 h2).trans ((sp_comm _ _).trans (un_sp h2 h1).symm))
theorem within_sub (h1 : Wd w S1) (h2 : Wd w S2) {n both : Nat} (k2 : IsRank S2 n) (kb : IsRank (S1 ++ S2) both) : (∀ r ∈ rowsOf (tabL S1), Sp (rowsOf (tabL S2)) (co r)) ↔ both = n := by
  rw [rank_len h2 k2, ← un_len h1 h2 kb, app_iff h2 h1 (un_wd h1 h2).tab ((un_sp h1 h2).trans (sp_comm _ _))]
  exact ⟨fun h r m => Sp.le h ((h1.sp _).mpr (.mem m)), fun h r m => Sp.le h ((h1.sp _).mp (.mem m))⟩
theorem within_ok (h1 : Wd w S1) (h2 : Wd w S2) {n both : Nat} (k2 : IsRank S2 n) (kb : IsRank (S1 ++ S2) both) : ((sRows (tabL S1)).all fun r => decide (leadL (restL (tabL S2) r) = w)) = decide (both = n) :=
  bool_dec ((within_iff h1.tab h2.tab).trans (within_sub h1 h2 k2 kb))
theorem rank_comm {n : Nat} {A B : List (List Int)} (hA : Wd w A) (hB : Wd w B) (k : IsRank (A ++ B) n) : n = (tabL (B ++ A)).length := k.tab (hB.app hA).tab ((hB.app hA).sp.trans (sp_comm _ _))
theorem eq_ok (h1 : Wd w S1) (h2 : Wd w S2) {n1 n2 both : Nat} (k1 : IsRank S1 n1) (k2 : IsRank S2 n2) (kb : IsRank (S1 ++ S2) both) : eqTab (tabL S1) (tabL S2) = (decide (both = n1) && decide (both = n2)) := by
  have a := within_sub h1 h2 k2 kb
  have b : (∀ r ∈ rowsOf (tabL S2), Sp (rowsOf (tabL S1)) (co r)) ↔ both = n1 := by
    rw [rank_len h1 k1, ← un_len h1 h2 kb, app_iff h1 h2 (un_wd h1 h2).tab (un_sp h1 h2)]
    exact ⟨fun h r m => Sp.le h ((h2.sp _).mpr (.mem m)), fun h r m => Sp.le h ((h2.sp _).mp (.mem m))⟩
  rw [← Bool.decide_and]
  refine bool_dec ((eqTab_iff h1.tab h2.tab h1.nrm h2.nrm).trans ?_)
  rw [← a, ← b]
  exact ⟨fun e => ⟨fun r m => (e _).mpr (.mem m), fun r m => (e _).mp (.mem m)⟩, fun h => .of h.2 h.1⟩
theorem sRows_un (h1 : Wd w S1) (h2 : Wd w S2) : sRows (tabL (sRows (tabL S1) ++ sRows (tabL S2))) = sRows (tabL (S2 ++ S1)) := by
  have e : SpEq (rowsOf (tabL (sRows (tabL S1) ++ sRows (tabL S2)))) (rowsOf (tabL (S2 ++ S1))) := (un_sp h1 h2).trans ((sp_comm _ _).trans (h2.app h1).sp.symm)
  exact sRows_same (un_wd h1 h2).tab (h2.app h1).tab fun l r => ⟨tab_same (un_wd h1 h2).tab (h2.app h1).tab (un_wd h1 h2).nrm (h2.app h1).nrm e, tab_same (h2.app h1).tab (un_wd h1 h2).tab (h2.app h1).nrm (un_wd h1 h2).nrm e.symm⟩
theorem again_eq (h1 : Wd w S1) : eqTab (tabL (sRows (tabL S1))) (tabL S1) = true :=
  (eqTab_iff (Wd.srt h1.tab).tab h1.tab (Wd.srt h1.tab).nrm h1.nrm).mpr ((Wd.srt h1.tab).sp.trans (sRows_sp h1.tab))
def farL (k : Int) (S : List (List Int)) : List (List Int) := S.map fun r => r.map fun n => k * n
theorem far_wd (k : Int) (h1 : Wd w S1) : Wd w (farL k S1) := fun r m => by
  obtain ⟨s, ms, e⟩ := List.mem_map.mp m
  rw [← e, List.length_map]
  exact h1 s ms
theorem far_eq {k : Int} (hk : k ≠ 0) (h1 : Wd w S1) : eqTab (tabL (farL k S1)) (tabL S1) = true := by
  refine (eqTab_iff (far_wd k h1).tab h1.tab (far_wd k h1).nrm h1.nrm).mpr ((far_wd k h1).sp.trans (SpEq.trans (.of (fun r m => ?_) fun r m => ?_) h1.sp.symm))
  · obtain ⟨s, ms, e⟩ := List.mem_map.mp m
    refine Sp.eq (.smul k (.mem ms)) fun p => ?_
    rw [← e, co_map (f := fun n => k * n) (Int.mul_zero _)]
  · refine .div hk (Sp.eq (.mem (List.mem_map_of_mem (f := fun r => r.map fun n => k * n) m)) fun p => ?_)
    rw [co_map (f := fun n => k * n) (Int.mul_zero _)]
end
end LA
namespace EnT
open PySem PySem.Spec PyProof.Rows L2
open Sem (wp)
/-! enumerate of a tuple; math.lcm: rules of our own over what the library draws -/
theorem made1 {v : Value} {o : Obj} {G : Heap → Prop} (B : Begins v o G) :
    Meets (Builtin.«enumerate.__new__» ⟨[.type "enumerate", v], []⟩) (fun _ R s => G s.heap ∧
      R (.ok (.ret (.ref (s.heap.push o).objs.size)))
        { s with heap := (s.heap.push o).push { cls := .type "enumerate", data := .fields #[.none, .bool false, .ref s.heap.objs.size, rawInt 0, .none, .none] } }) := by
  refine .of_wp fun prog w A R s both => ?_
  obtain ⟨begun, rest⟩ := both
  obtain ⟨hp, gl, dp, tk, os⟩ := s
  have sub := sub_enumerate
  have it1 : ∀ {A' : Around} {E' : Value → Shared → Prop} {Q' : Value → Shared → Prop}, Q' (.ref hp.objs.size) ⟨hp.push o, gl, dp, tk, os⟩ → wpAny (model prog w) A' (pyIter v) Q' E' ⟨hp, gl, dp, tk, os⟩ := fun z => B.iter prog w _ _ _ _ begun z
  wp_walk using it1
  refine wpAny_stack_any fun _ => wpAny_pure ?_
  split
  · rename_i c _ _ _ _ _
    cases (c == Value.type "enumerate")
    all_goals
      wp_walk using it1
      exact ⟨_, rfl, rest⟩
  · wp_walk using it1
    exact ⟨_, rfl, rest⟩
theorem called1 {prog : Program} {w : World} {A : Around} {E : Value → Shared → Prop} {s : Shared} {v : Value} {o : Obj} {G : Heap → Prop} {Q : Value → Shared → Prop} (B : Begins v o G) (begun : G s.heap)
    (then_ : ∀ h2, IsEnum h2 (s.heap.objs.size + 1) s.heap.objs.size 0 .none → h2.get? s.heap.objs.size = some o → h2.objs.size = s.heap.objs.size + 2 →
      (∀ b u, s.heap.get? b = some u → h2.get? b = some u) → Q (.ref (s.heap.objs.size + 1)) { s with heap := h2 }) : wpAny (model prog w) A (call (.type "enumerate") [v]) Q E s := by
  have size1 : (s.heap.push o).objs.size = s.heap.objs.size + 1 := Heap.size_push ..
  refine callType_new F.called_enumerate (by decide) (F.typeCall_enumerate_1 _) (F.newCall_enumerate_1 _) (fun ob => F.args_object_init_2 ob _) F.entry_enumerate_new (made1 B) ⟨begun, ?_⟩
  have last := Heap.get?_push_size (s.heap.push o) (o := { cls := .type "enumerate", data := .fields #[.none, .bool false, .ref s.heap.objs.size, rawInt 0, .none, .none] }) rfl
  rw [size1] at last
  show _ ∧ _
  rw [size1]
  exact ⟨⟨_, last, rfl⟩, then_ _ last (Heap.get?_push_of_some _ (Heap.get?_push_size _ B.free)) (by rw [Heap.size_push, size1]) fun b u z => Heap.get?_push_of_some _ (Heap.get?_push_of_some _ z)⟩
/-- the tuple at a, its items with their numbers in new pairs -/
def IteT (K : PySem.W.Frag) (a : Addr) : It where
  go i H := ∃ (xs : List V) (x : V), SqT K H a xs ∧ xs[i]? = some x
  yld i H v H' := ∃ T x, v = .ref T ∧ H T = none ∧ H' = upd H T (.tup [.int (i : Nat), x]) ∧ ∀ xs, SqT K H a xs → xs[i]? = some x
  stop i H := ∃ xs : List V, SqT K H a xs ∧ xs.length = i
theorem turnT {P : Program} {w : World} {K : PySem.W.Frag} {elts : List Expr} {kk : Nat} {tpos : Pos} (a e it : Addr) :
    Turn P w K (.Tuple elts kk tpos) (IteT K a) [e, it] e (fun i h => (∃ old, IsEnum h e it ((i : Nat) : Int) old) ∧ h.IsTupleIter it a i ∧ e ≠ it) := by
  have two : ∀ {b : Addr}, b ∈ [e, it] → b = e ∨ b = it := fun {b} m => by simpa using m
  refine ⟨by simp, fun i h st b hb => ?_, fun i h h2 st k => ?_, ?_, ?_, fun A i s Q E st h => ?_⟩
  · obtain ⟨⟨old, he⟩, ⟨o, ho, _, hd⟩, _⟩ := st
    rcases two hb with rfl | rfl
    · exact ⟨_, he, fun v z => by cases z⟩
    · exact ⟨o, ho, fun v z => by rw [hd] at z; cases z⟩
  · obtain ⟨⟨old, he⟩, hi, ne⟩ := st
    exact ⟨⟨old, k e (by simp) _ he⟩, hi.at fun o z => k it (by simp) o z, ne⟩
  · intro X eP ew eK calm i pins s σ H E I fresh st going
    subst eP ew eK
    obtain ⟨⟨old, he⟩, hit, ne⟩ := st
    obtain ⟨xs, x, sq, hx⟩ := going
    obtain ⟨its, rv, tup, _⟩ := I.tuple sq
    obtain ⟨u, hu, ru⟩ := rv.get hx
    obtain ⟨ot, hot, otc, otd⟩ := id tup
    obtain ⟨oi, hoi, hic, hid⟩ := id hit
    have e_lt : e < s.heap.objs.size := Heap.lt_size he
    have i_lt : it < s.heap.objs.size := Heap.lt_size hoi
    have a_it : a ≠ it := fun z => by
      rw [z, hoi] at hot
      cases hot
      rw [otc] at hic
      simp at hic
    have a_e : e ≠ a := fun z => by
      rw [← z, he] at hot
      cases hot
      simp at otc
    have hilen : i < its.toArray.size := by
      have := (List.getElem?_eq_some_iff.mp hu).1
      simpa using this
    refine wpAny_pyNext_enum_itemD (Draws.tuple (A := X.A.in1) (I.ok.hd calm) it a a_it its.toArray) he ⟨hit, tup⟩ hilen ne (by simp [ne, a_e]) fun u2 h2 tk hu2 hout hst hT hsz kept => ?_
    have eu : u2 = u := by
      have h3 : its.toArray[i]? = some u := by simpa using hu
      exact Option.some.inj (hu2.symm.trans h3)
    subst eu
    refine ⟨_, rfl, wpAny_letOwnedTupleGo_enum (s := { s with heap := h2, toks := tk + 1 }) hout fun h3 he3 sb => ?_⟩
    have hT3 : h3.get? s.heap.objs.size = some { cls := .type "tuple", data := .seq #[.int i tk, u2] } := (sb.2 _ (Nat.ne_of_gt e_lt)).trans hT
    have laid : ObjOk X.prog X.w (upd H s.heap.objs.size (.tup [.int (i : Nat), x])) h3 s.heap.objs.size (.tup [.int (i : Nat), x]) :=
      ⟨by show 2 ≤ sizeLine; decide, [.int i tk, u2], .cons ⟨_, rfl⟩ (.cons ru .nil), ⟨_, hT3, rfl, _, rfl⟩⟩
    refine ⟨.ref s.heap.objs.size, _, I.turnedNew (t' := tk + 1) (ch := [e, it]) (fun b ob off z => ?_) fresh (Nat.le_refl _) laid, rfl, ⟨_, x, rfl, I.hok.fresh (Nat.le_refl _), rfl, fun ys hy => ?_⟩, ⟨⟨u2, ?_⟩, ?_, ne⟩, fun b hb => ?_⟩
    · have b_e : b ≠ e := fun z => off (by simp [z])
      have b_it : b ≠ it := fun z => off (by simp [z])
      exact (sb.2 b b_e).trans (kept b ob b_e b_it z)
    · rw [I.tuple_inj hy sq]
      exact hx
    · have num : ((i + 1 : Nat) : Int) = (i : Int) + 1 := by omega
      rw [num]
      exact he3
    · exact hst.1.at fun o z => (sb.2 it (Ne.symm ne)).trans z
    · have b_lt : b < s.heap.objs.size := by rcases two hb with rfl | rfl <;> assumption
      rw [upd_ne (Nat.ne_of_lt b_lt)]
      exact (fresh b hb).1
  · intro X eP ew eK calm i pins s σ H E I fresh st stop
    subst eP ew eK
    obtain ⟨⟨old, he⟩, hit, ne⟩ := st
    obtain ⟨xs, sq, hx⟩ := stop
    obtain ⟨its, rv, tup, _⟩ := I.tuple sq
    obtain ⟨ot, hot, otc, otd⟩ := id tup
    obtain ⟨oi, hoi, hic, hid⟩ := id hit
    have a_it : a ≠ it := fun z => by
      rw [z, hoi] at hot
      cases hot
      rw [otc] at hic
      simp at hic
    have e_a : e ≠ a := fun z => by
      rw [← z, he] at hot
      cases hot
      simp at otc
    have len : i = its.toArray.size := by
      rw [← hx, List.size_toArray]
      exact rv.length
    obtain ⟨f0, f1, f2, f3, f4, f5⟩ := fresh it (by simp)
    refine wpAny_pyNext_enum_endD (Draws.tuple (A := X.A.in1) (I.ok.hd calm) it a a_it its.toArray) he ⟨len ▸ hit, tup⟩ fun h2 kept => ?_
    exact ⟨rfl, I.turned (t' := s.toks) (fun b o off z => kept b o off z) f0 f1 f3 f4 f5⟩
  · obtain ⟨⟨_, he⟩, _⟩ := st
    exact wpAny_pyIter_enum he h
def iEnumT (K : PySem.W.Frag) (ta : TA) : TI := fun σ H R => ta σ H fun vs H1 => ∃ a xs, vs = [.ref a] ∧ SqT K H1 a xs ∧ R (IteT K a) H1
theorem pi_enumT {X : Cx} {e : Expr} {ta : TA} {p pos tpos : Pos} {elts : List Expr} {kk : Nat} (hg : Gl X "enumerate") (hm : X.mg "enumerate" = none) (ha : PA X [e] ta) (plain : starEach [e] X.env = [(false, eval e X.env)] := by rfl) :
    PI X (.Tuple elts kk tpos) (.Call (.Name "enumerate" p) [e] [] pos) (iEnumT X.K ta) := by
  refine ⟨fun pins s σ H R I want => ?_⟩
  have args := ha.run pos pins s σ H _ I want
  refine Call_ (ld_blt I hg hm boot_enumerate (callWith_type1 (thn args fun us s2 given => ?_) plain rfl))
  obtain ⟨vs, H2, I2, rel, a, xs, rfl, sq, q⟩ := given
  cases rel with
  | cons r rr =>
    cases rr
    cases r
    obtain ⟨its, rv, tup, _⟩ := I2.tuple sq
    refine called1 (begins_tuple a its.toArray) tup fun h3 he hit size kept => wpAny_pyIter_enum he ?_
    have both : ∀ b ∈ [s2.heap.objs.size + 1, s2.heap.objs.size], s2.heap.objs.size ≤ b := fun b m => by
      have : b = s2.heap.objs.size + 1 ∨ b = s2.heap.objs.size := by simpa using m
      rcases this with rfl | rfl
      · exact Nat.le_succ _
      · exact Nat.le_refl _
    exact ⟨s2.heap.objs.size + 1, [s2.heap.objs.size + 1, s2.heap.objs.size], _, _, H2, rfl, I2.kept (t' := s2.toks) kept, turnT a (s2.heap.objs.size + 1) s2.heap.objs.size,
      ⟨⟨.none, he⟩, ⟨_, hit, rfl, rfl⟩, Nat.succ_ne_self _⟩, fun b m => I2.fpOk (both b m) (I2.hok.fresh (both b m)), q⟩
def rLcm : List V → Hp → VK → Prop := fun vs H Q => ∃ a b : Int, vs = [.int a, .int b] ∧ a.natAbs < 2 ^ 9000 ∧ b.natAbs < 2 ^ 9000 ∧ Q (.int ((Nat.lcm a.natAbs b.natAbs : Nat) : Int)) H
theorem cr_lcm {X : Cx} : CallR X (.builtin "math.lcm") rLcm := by
  intro pins s σ H vs us Q I r h
  obtain ⟨a, b, rfl, ha, hb, q⟩ := h
  obtain ⟨t, u, rfl⟩ := Vals.int2 r
  have room : ∀ {n : Nat}, n < 2 ^ 9000 → ¬ n.log2 / 30 + 1 > 450 := fun {n} hn => by
    have : n.log2 < 9000 := by
      by_cases z : n = 0
      · subst z; decide
      · exact (Nat.log2_lt z).mpr hn
    omega
  have one : (1 : Nat) < 2 ^ 9000 := Nat.one_lt_two_pow (by decide)
  have small : (((Nat.lcm 1 a.natAbs).lcm b.natAbs : Nat) : Int).natAbs.log2 < bitsLine := by
    rw [Nat.lcm_one_left]
    show (a.natAbs.lcm b.natAbs).log2 < bitsLine
    have le : a.natAbs.lcm b.natAbs ≤ 2 ^ 9000 * 2 ^ 9000 := Nat.le_trans (Nat.div_le_self _ _) (Nat.mul_le_mul (Nat.le_of_lt ha) (Nat.le_of_lt hb))
    rw [← Nat.pow_add] at le
    have : (a.natAbs.lcm b.natAbs).log2 < 18001 := by
      by_cases z : a.natAbs.lcm b.natAbs = 0
      · rw [z]; decide
      · exact (Nat.log2_lt z).mpr (Nat.lt_of_le_of_lt le (Nat.pow_lt_pow_right (by decide) (by decide)))
    exact Nat.lt_trans this (by decide)
  have g := PySem.W.mg_run_lcm a t b u (room (by show max 1 a.natAbs < 2 ^ 9000; omega)) (room (by show max a.natAbs b.natAbs < 2 ^ 9000; omega)) small
  rw [Nat.lcm_one_left] at g
  exact call_function_meets PySem.W.MGF.kind_lcm PySem.W.MGF.plain_lcm PySem.W.MGF.entry_lcm (PySem.W.MGF.args_lcm _ _) g.meets ⟨.int _, H, I.tok _, ⟨_, rfl⟩, q⟩
/-- // by any divisor but 0 below 2 ^ 9000 -/
def CDivB (_ j : Int) : Prop := j ≠ 0 ∧ j.natAbs < 2 ^ 9000
theorem op_fdivB {X : Cx} : OpR X (binaryOp .FloorDiv) (rI CDivB fun i j => .int (i.fdiv j)) := opI fun i j _ _ _ _ _ hc q =>
  floordiv_int hc.1 q (.inl (PyProof.noPylong_of_log2 ((Nat.log2_lt (by have := hc.1; omega)).mpr hc.2)))
/-- one walk or another one -/
theorem pi_or {X : Cx} {tg it : Expr} {v w : TI} (a : PI X tg it v) (b : PI X tg it w) : PI X tg it fun σ H R => v σ H R ∨ w σ H R :=
  ⟨fun pins s σ H R I h => h.elim (a.run pins s σ H R I) (b.run pins s σ H R I)⟩
/-- name = {k: v for ..} on one line, the name a local -/
theorem sw_dict {kx vx : Expr} {gs : List Comprehension} {scope : Scope} {pos py : Pos} {y : Str} {line : Nat} {env : Env} (hk : env.scope.kind = .function) (hy : env.scope.names.lookup y = some .local) (hl : (py.line == pos.line) = true)
    (off : (scope.names.any fun z => z.1 == y && (z.2 == .local || z.2 == .cell)) = false) : swapsWith (.DictComp kx vx gs scope pos) (some (.Name y py)) line env = pure true := by
  have kind : env.kindOf y = some .local := hy
  have block : env.blockKind = .function := by
    unfold Env.blockKind
    rw [hk]
    rfl
  unfold swapsWith
  simp only [block, kind, off, Expr.pos, hl]
  rfl
theorem ps_setDc {X : Cx} {i : Nat} {y : Str} {py : Pos} {kx vx tg iter : Expr} {ifs : List Expr} {scope : Scope} {own : List (Str × Nat)} {pos spos : Pos} {wi : TI} {g : TG} {tt : TT} {tk tv : TE}
    (calm : X.calm = true) (nodup : X.N.Nodup) (hy : X.N[i]? = some y) (loc : X.env.scope.names.lookup y = some .local)
    (swaps : swapsWith (.DictComp kx vx [⟨tg, iter, ifs, 0⟩] scope pos) (some (.Name y py)) spos.line X.env = pure true) (walk : PI X tg iter wi) (blk : BlkOk X.N X.env.scope scope own)
    (pgs : ∀ (s2 : Shared) (H2 : Hp) (C2 : Addr) (cl : List (Str × Addr)) (fp : List Addr), PG (X.blk s2 H2 scope (compEnvC scope cl C2 X.env) fp) tg g)
    (pts : ∀ (s2 : Shared) (H2 : Hp) (C2 : Addr) (cl : List (Str × Addr)) (fp : List Addr), PTs (X.blk s2 H2 scope (compEnvC scope cl C2 X.env) fp) ifs tt)
    (pks : ∀ (s2 : Shared) (H2 : Hp) (C2 : Addr) (cl : List (Str × Addr)) (fp : List Addr), PE (X.blk s2 H2 scope (compEnvC scope cl C2 X.env) fp) kx tk)
    (pvs : ∀ (s2 : Shared) (H2 : Hp) (C2 : Addr) (cl : List (Str × Addr)) (fp : List Addr), PE (X.blk s2 H2 scope (compEnvC scope cl C2 X.env) fp) vx tv)
    (fold : ∀ z, foldedSetIterable iter X.env z = pure z := by intro _; rfl) : PS X (.Assign [.Name y py] (.DictComp kx vx [⟨tg, iter, ifs, 0⟩] scope pos) spos) (tAsg (tDc wi g tt tk tv (own.map (·.2))) (gName i)) := by
  constructor
  intro pins s σ H Dn I want
  rw [exec_Assign_Name_used _ _ _ _ swaps]
  refine wpAny_bind (wpAny_standAt ?_)
  refine wpAny_bind ?_
  show wpAny _ X.A (do
    let _ ← comprehension (.DictComp kx vx [⟨tg, iter, ifs, 0⟩] scope pos) scope X.env (firstIterPos [⟨tg, iter, ifs, 0⟩] pos) newDict false (eval iter X.env) (some (assign (.Name y py) X.env))) _ _ s
  have want2 : tDc wi g tt tk tv (own.map (·.2)) σ H (fun x H2 => gName i x σ H2 Dn.nx) := want
  have core := dc_core (pos := pos) (Qf := fun _ s2 => SP X pins Dn .next s2) (use := some (assign (.Name y py) X.env)) (pos' := firstIterPos [⟨tg, iter, ifs, 0⟩] pos) calm nodup I walk blk pgs pts pks pvs fold want2 ?_
  · exact wpAny_bind (thn core fun _ s2 got => wpAny_pure (wpAny_pure got))
  · intro L C s2 m H2 I2 q ns off
    obtain ⟨f0, f1, f2, f3, f4, f5⟩ := off
    show wpAny _ _ (assign (.Name y py) X.env (.ref L)) _ _ _
    refine wpAny_assign_Name (store_ok2 (v := V.ref L) I2 nodup hy (.inl loc) rfl ?_ (.inr loc))
    rintro s3 I3 ⟨b, sb, hb⟩
    have apart : C ≠ b := hb.elim (fun z => z ▸ f1) fun z e => f4 y b z e.symm
    exact ⟨m, ns.sameBut sb apart, fun h4 sb4 => ⟨_, H2, I3.turned (t' := s3.toks) (fun c o hc e => (sb4.2 c hc).trans e) f0 f1 f3 f4 f5, q⟩⟩
end EnT
/-! own methods behind in, len, bool, not, |, ==, != -/
namespace OwT
open PySem PySem.Spec PyProof.Rows L2
section
variable {X : Cx} {CX : CXT} {k : Nat} {f C : Addr} {fd : FuncData} {ps : List Str} {sp : Sp} {E : XK}
/-- a def is called from within a builtin -/
theorem run_in1 {pins : List (Addr × Obj)} {σ : L2.St} {H : Hp} {s : Shared} {Q : VK} {us : List Value} {vs : List V} (F : FnOk X.prog X.w X.K X.mg X.base CX k f fd ps sp) (hr : Room (k + 1) X.A) (hb : Binds X.K fd ps []) (hx : Passes CX X E)
    (I : Inv X pins σ H s) (r : Vals vs us) (h : sp vs H Q E) : wpAny (model X.prog X.w) X.A.in1 (call (.ref f) us) (EP X pins σ Q) X.xe s := by
  have hl : us.length = ps.length := by rw [← r.length]; exact F.len _ _ _ _ h
  refine wpAny_call (codeAny_mono (F.run X.A.in1 X.stack s H ⟨us, []⟩ us vs Q E hr.in1 I.env0.in1 (by
    have := hb s us I.kIn (by simpa using hl)
    simpa using this) r h) fun r s' hq => ?_)
  cases r with
  | error e => exact hx pins σ H s e s' I hq
  | ok fl =>
    cases fl with
    | ret u => exact I.after hq
    | next => exact False.elim hq
    | brk => exact False.elim hq
    | cont => exact False.elim hq
theorem run_here {pins : List (Addr × Obj)} {σ : L2.St} {H : Hp} {s : Shared} {Q : VK} {us : List Value} {vs : List V} (F : FnOk X.prog X.w X.K X.mg X.base CX k f fd ps sp) (hr : Room k X.A) (hb : Binds X.K fd ps []) (hx : Passes CX X E)
    (I : Inv X pins σ H s) (r : Vals vs us) (h : sp vs H Q E) : wpAny (model X.prog X.w) X.A (call (.ref f) us) (EP X pins σ Q) X.xe s :=
  run_fn F hr hb .nil hx I r (by rw [List.append_nil]; exact h)
/-- an own method by its name -/
structure Own (K : PySem.W.Frag) (C : Addr) (m : Str) (f : Addr) : Prop where
  at_ : PySem.W.findIn K (.ref C) m = some (some (.ref f))
  fn : PySem.W.isFn K (.ref f) = true
theorem _root_.L2.Meth.own {K : PySem.W.Frag} {C f : Addr} {m : Str} (h : Meth K C m f) : Own K C m f := ⟨h.at_, h.fn⟩
/-- len(x) -/
def rLen (C : Addr) (sp : Sp) (E : XK) : List V → Hp → VK → Prop := fun xs H Q => ∃ a dx fs, xs = [.ref a] ∧ H a = some (.ins C dx fs) ∧ sp [.ref a] H (fun v H' => ∃ n : Nat, n < 2 ^ 63 ∧ v = .int n ∧ Q (.int n) H') E
theorem cr_len (o : Own X.K C "__len__" f) (F : FnOk X.prog X.w X.K X.mg X.base CX k f fd ps sp) (hr : Room (k + 1) X.A) (hb : Binds X.K fd ps []) (hx : Passes CX X E) : CallR X (.builtin "len") (rLen C sp E) := by
  intro pins s σ H xs us Q I r h
  obtain ⟨a, dx, fs, rfl, ea, q⟩ := h
  obtain rfl := Vals.ref1 r
  obtain ⟨mA, O, _⟩ := ins_get I.hok ea
  obtain ⟨od, J, _⟩ := O.look
  obtain ⟨m, hF⟩ := I.fr
  refine PySem.W.len_K hF I.ok.mod.kin J o.at_ o.fn (thn (run_in1 F hr hb hx I r q) fun u s' z => ?_)
  obtain ⟨v, H', I', rv, n, hn, rfl, q'⟩ := z
  obtain ⟨t, rfl⟩ := (show ∃ t, u = Value.int (n : Int) t from rv)
  exact ⟨⟨Int.natCast_nonneg n, by exact_mod_cast hn⟩, .int n, H', I'.tok _, ⟨_, rfl⟩, q'⟩
/-- the truth of x -/
def rTru (C : Addr) (sp : Sp) (E : XK) : V → Hp → (Bool → Hp → Prop) → Prop := fun x H Q => ∃ a dx fs, x = .ref a ∧ H a = some (.ins C dx fs) ∧ sp [.ref a] H (fun v H' => ∃ b, v = .bl b ∧ Q b H') E
theorem tru_own (o : Own X.K C "__bool__" f) (F : FnOk X.prog X.w X.K X.mg X.base CX k f fd ps sp) (hr : Room k X.A) (hb : Binds X.K fd ps []) (hx : Passes CX X E) : TruR X (rTru C sp E) := by
  intro pins s σ H x v Q I rx h
  obtain ⟨a, dx, fs, rfl, ea, q⟩ := h
  cases rx
  obtain ⟨mA, O, _⟩ := ins_get I.hok ea
  obtain ⟨od, J, _⟩ := O.look
  obtain ⟨m, hF⟩ := I.fr
  refine PySem.W.truthy_K hF I.ok.mod.kin J o.at_ o.fn (thn (run_here (vs := [.ref a]) F hr hb hx I (.cons rfl .nil) q) fun u s' z => ?_)
  obtain ⟨v, H', I', rv, b, rfl, q'⟩ := z
  cases rv
  exact ⟨H', I', q'⟩
/-- y in x -/
def rIn (C : Addr) (sp : Sp) (E : XK) : R2 := fun y x H Q => ∃ a dx fs, x = .ref a ∧ H a = some (.ins C dx fs) ∧ sp [.ref a, y] H (fun v H' => ∃ b, v = .bl b ∧ Q (.bl b) H') E
theorem op_in (o : Own X.K C "__contains__" f) (F : FnOk X.prog X.w X.K X.mg X.base CX k f fd ps sp) (hr : Room k X.A) (hb : Binds X.K fd ps []) (hx : Passes CX X E) : OpR X (compareOp .In) (rIn C sp E) := by
  intro pins s σ H y x u v Q I ry rx h
  obtain ⟨a, dx, fs, rfl, ea, q⟩ := h
  cases rx
  obtain ⟨mA, O, _⟩ := ins_get I.hok ea
  obtain ⟨od, J, _⟩ := O.look
  obtain ⟨m, hF⟩ := I.fr
  refine PySem.W.in_K hF I.ok.mod.kin J o.at_ o.fn (thn (run_here (vs := [.ref a, y]) F hr hb hx I (.cons rfl (.cons ry .nil)) q) fun u s' z => ?_)
  obtain ⟨v, H', I', rv, b, rfl, q'⟩ := z
  cases rv
  exact wpAny_truthy_bool ⟨.bl b, H', I', rfl, q'⟩
/-- x | y, both of one class -/
def rOr (C : Addr) (sp : Sp) (E : XK) : R2 := fun x y H Q => ∃ a dx fs b dy gs, x = .ref a ∧ y = .ref b ∧ H a = some (.ins C dx fs) ∧ H b = some (.ins C dy gs) ∧ sp [.ref a, .ref b] H (fun v H' => (∃ c, v = .ref c) ∧ Q v H') E
theorem op_or (o : Own X.K C "__or__" f) (hc : PySem.W.selfFirst X.K C = true) (F : FnOk X.prog X.w X.K X.mg X.base CX k f fd ps sp) (hr : Room k X.A) (hb : Binds X.K fd ps []) (hx : Passes CX X E) : OpR X (binaryOp .BitOr) (rOr C sp E) := by
  intro pins s σ H x y u v Q I rx ry h
  obtain ⟨a, dx, fs, b, dy, gs, rfl, rfl, ea, eb, q⟩ := h
  cases rx
  cases ry
  obtain ⟨mA, O, _⟩ := ins_get I.hok ea
  obtain ⟨od, J, _⟩ := O.look
  obtain ⟨mB, O', _⟩ := ins_get I.hok eb
  obtain ⟨od', J', _⟩ := O'.look
  obtain ⟨m, hF⟩ := I.fr
  refine PySem.W.binop_K (op := .BitOr) hF I.ok.mod.kin J J'.type hc o.at_ o.fn (thn (run_here (vs := [.ref a, .ref b]) F hr hb hx I (.cons rfl (.cons rfl .nil)) q) fun u s' z => ?_)
  obtain ⟨v, H', I', rv, ⟨c, rfl⟩, q'⟩ := z
  cases rv
  exact ⟨.ref c, H', I', rfl, q'⟩
/-- x == y; y of any kind that is told -/
def rEq (K : PySem.W.Frag) (C : Addr) (sp : Sp) (E : XK) : R2 := fun x y H Q => ∃ a dx fs t, x = .ref a ∧ H a = some (.ins C dx fs) ∧ TyX K H y t ∧ PySem.W.notFirst K C t = true ∧ sp [.ref a, y] H (fun v H' => ∃ b, v = .bl b ∧ Q (.bl b) H') E
theorem op_eq (o : Own X.K C "__eq__" f) (F : FnOk X.prog X.w X.K X.mg X.base CX k f fd ps sp) (hr : Room k X.A) (hb : Binds X.K fd ps []) (hx : Passes CX X E) : OpR X (compareOp .Eq) (rEq X.K C sp E) := by
  intro pins s σ H x y u v Q I rx ry h
  obtain ⟨a, dx, fs, t, rfl, ea, ty, nf, q⟩ := h
  cases rx
  obtain ⟨mA, O, _⟩ := ins_get I.hok ea
  obtain ⟨od, J, _⟩ := O.look
  obtain ⟨m, hF⟩ := I.fr
  obtain ⟨P, Z, p, _⟩ := kit_of I ry ty
  show wpAny (model X.prog X.w) X.A (richCompare .Eq (.ref a) v) (EP X pins σ Q) X.xe s
  refine PySem.W.cmp_K (op := .Eq) hr.units0 hF I.ok.mod.kin J (Z.ty _ _ I.kIn p) nf o.at_ o.fn (thn (run_here (vs := [.ref a, y]) F hr hb hx I (.cons rfl (.cons ry .nil)) q) fun u s' z => ?_)
  obtain ⟨v, H', I', rv, b, rfl, q'⟩ := z
  cases rv
  exact ⟨.bl b, H', I', rfl, q'⟩
end
end OwT
namespace OwT
open PySem PySem.Spec PyProof.Rows L2
section
variable {M : Model} {prog : Program} {w : World} {A : Around} {E : Value → Shared → Prop} {s : Shared} {K : PySem.W.Frag} {x C f L : Addr} {h₀ : Heap} {m : Str → Option Value} {ox : Obj} {od : Option Obj} {b tb : Value}
theorem ne_entry {Q : PySem.Fin → Shared → Prop} (hu : A.units < cLine) (h : wpAny M A (callSpecialIfBound? (.ref x) "__eq__" [b]) (fun r s' => ∃ c, r = some (.bool c) ∧ Q (.done (.ret (.bool (!c)))) s') E s) : wpAny M A (Builtin.«object.__ne__» ⟨[.ref x, b], []⟩) Q E s := by
  unfold Builtin.«object.__ne__»
  refine wpAny_bind (m := slotArgs "__ne__" 1 _) (wpAny_pure ?_)
  dsimp only
  refine wpAny_bind (wpAny_cRoomFor hu ?_)
  refine wpAny_bind (m := callSpecialIfBound? (.ref x) "__eq__" [b]) (wpAny_mono h (fun r s' z => ?_) fun _ _ e => e)
  obtain ⟨c, rfl, q⟩ := z
  exact wpAny_bind (wpAny_truthy_bool (wpAny_pure q))
/-- a special method that is found and bound, whatever it is -/
theorem bound_any {name : Str} {self g g' : Value} {first args : List Value} {Q : Option Value → Shared → Prop} (found : PySem.W.Looks M s.heap (specialOf self name) (some g)) (bound : PySem.W.Looks M s.heap (bindSpecial g self) (g', first))
    (h : wpAny M A (call g' (first ++ args)) (fun v => Q (some v)) E s) : wpAny M A (callSpecialIfBound? self name args) Q E s := by
  have done : wpAny M A (call g' (first ++ args) >>= fun v => pure (some v)) Q E s := wpAny_bind (wpAny_mono h (fun _ _ q => wpAny_pure q) fun _ _ e => e)
  unfold callSpecialIfBound? bindSpecialIfBound?
  refine wpAny_holding (wpAny_bind (wpAny_bind (found.here (wpAny_bind (wpAny_askSetting (wpAny_ite ?_))))))
  split
  case isTrue => exact wpAny_bind (bound.here (wpAny_pure (by exact done)))
  case isFalse => exact wpAny_tryCatch (wpAny_bind (bound.here (wpAny_pure (by exact done))))
/-- the left side answers a comparison: no other is asked -/
theorem left_answers {op : CmpOp} {Q : Value → Shared → Prop} (hu : A.units < cLine) (X : K.In s.heap) (I : PySem.W.InstAt s.heap x ox C od) (hb : PySem.W.Looks M s.heap (typeOf b) tb) (hn : PySem.W.notFirst K C tb = true)
    (h : wpAny M A (tryCompare (.ref x) (cmpInfo op).2.1 b) (fun r s' => ∃ v, r = some v ∧ Q v s') E s) : wpAny M A (richCompare op (.ref x) b) Q E s := by
  unfold richCompare
  rw [oneThing_ref]
  refine wpAny_holding (wpAny_bind (wpAny_cRoomFor hu (wpAny_bind (I.type.here (wpAny_bind (hb.here ?_))))))
  by_cases q : Value.ref C = tb
  · subst q
    simp only [bne_self_eq_false, Bool.false_eq_true, if_false]
    refine wpAny_bind (wpAny_pure ?_)
    simp only [Bool.false_eq_true, if_false]
    exact wpAny_bind (wpAny_mono h (fun r s' ⟨v, e, z⟩ => by subst e; exact wpAny_pure z) fun _ _ e => e)
  · have sub : PySem.W.subIn K tb (.ref C) = some false := by
      unfold PySem.W.notFirst at hn
      rw [Bool.or_eq_true, beq_iff_eq, beq_iff_eq] at hn
      exact hn.resolve_left fun e => q e.symm
    rw [if_pos (show (Value.ref C != tb) = true by simpa using q)]
    refine wpAny_bind ((PySem.W.looks_subIn X sub).here ?_)
    simp only [Bool.false_eq_true, if_false]
    exact wpAny_bind (wpAny_mono h (fun r s' ⟨v, e, z⟩ => by subst e; exact wpAny_pure z) fun _ _ e => e)
theorem ne_K {Q : Value → Shared → Prop} (hu : A.units + 1 < cLine) (F : Fr h₀ L s.heap m) (X₀ : K.In h₀) (I : PySem.W.InstAt s.heap x ox C od) (hb : PySem.W.Looks (model prog w) s.heap (typeOf b) tb) (hn : PySem.W.notFirst K C tb = true)
    (hm : PySem.W.mroIn K C (.type "object") = some true) (hne : PySem.W.findIn K (.ref C) "__ne__" = some (some (.builtin "object.__ne__")))
    (hs : PySem.W.findIn K (.ref C) "__eq__" = some (some (.ref f))) (hf : PySem.W.isFn K (.ref f) = true)
    (h : wpAny (model prog w) A.in1 (call (.ref f) [.ref x, b]) (fun r s' => ∃ c, r = .bool c ∧ Q (.bool (!c)) s') E s) : wpAny (model prog w) A (richCompare .NotEq (.ref x) b) Q E s := by
  have X := X₀.keeps F.keep
  refine left_answers (Nat.lt_of_succ_lt hu) X I hb hn ?_
  unfold tryCompare
  refine wpAny_bind (bound_any (I.type.andThen (PySem.W.looks_findIn X hne)) (.of_pure (PySem.F.cmp_object.ne.bind _)) (wpAny_call (codeAny_call_builtin PySem.F.cmp_object.ne.plain PySem.F.cmpEntry_ne
    (PySem.W.check_slot PySem.F.cmpKind_ne PySem.F.cmpSplit_ne (I.type.andThen (PySem.W.looks_mroIn X hm)) (PySem.F.cmpArgs_ne _ _) (ne_entry (show A.units + 1 < cLine from hu) ?_)))))
  refine bound_any (I.type.andThen (PySem.W.looks_findIn X hs)) (PySem.W.bind_fn X _ (beq_iff_eq.mp hf)) (wpAny_mono h (fun r s' z => ?_) fun _ _ e => e)
  obtain ⟨c, rfl, q⟩ := z
  exact ⟨c, rfl, wpAny_pure ⟨_, rfl, q⟩⟩
end
section
variable {X : Cx} {CX : CXT} {k : Nat} {f C : Addr} {fd : FuncData} {ps : List Str} {sp : Sp} {E : XK}
/-- x != y by the own == -/
def rNe (K : PySem.W.Frag) (C : Addr) (sp : Sp) (E : XK) : R2 := fun x y H Q => ∃ a dx fs t, x = .ref a ∧ H a = some (.ins C dx fs) ∧ TyX K H y t ∧ PySem.W.notFirst K C t = true ∧ sp [.ref a, y] H (fun v H' => ∃ b, v = .bl b ∧ Q (.bl (!b)) H') E
theorem op_ne (o : Own X.K C "__eq__" f) (hm : PySem.W.mroIn X.K C (.type "object") = some true) (hne : PySem.W.findIn X.K (.ref C) "__ne__" = some (some (.builtin "object.__ne__")))
    (F : FnOk X.prog X.w X.K X.mg X.base CX k f fd ps sp) (hr : Room (k + 1) X.A) (hb : Binds X.K fd ps []) (hx : Passes CX X E) : OpR X (compareOp .NotEq) (rNe X.K C sp E) := by
  intro pins s σ H x y u v Q I rx ry h
  obtain ⟨a, dx, fs, t, rfl, ea, ty, nf, q⟩ := h
  cases rx
  obtain ⟨mA, O, _⟩ := ins_get I.hok ea
  obtain ⟨od, J, _⟩ := O.look
  obtain ⟨m, hF⟩ := I.fr
  obtain ⟨P, Z, p, _⟩ := kit_of I ry ty
  show wpAny (model X.prog X.w) X.A (richCompare .NotEq (.ref a) v) (EP X pins σ Q) X.xe s
  have hu : X.A.units + 1 < cLine := by have := hr.un; omega
  refine ne_K hu hF I.ok.mod.kin J (Z.ty _ _ I.kIn p) nf hm hne o.at_ o.fn (thn (run_in1 (vs := [.ref a, y]) F hr hb hx I (.cons rfl (.cons ry .nil)) q) fun u s' z => ?_)
  obtain ⟨v, H', I', rv, b, rfl, q'⟩ := z
  cases rv
  exact ⟨b, rfl, .bl (!b), H', I', rfl, q'⟩
/-- bool(x) -/
def rBool (C : Addr) (sp : Sp) (E : XK) : List V → Hp → VK → Prop := fun xs H Q => ∃ a dx fs, xs = [.ref a] ∧ H a = some (.ins C dx fs) ∧ sp [.ref a] H (fun v H' => ∃ b, v = .bl b ∧ Q (.bl b) H') E
theorem meets_bool_t {prog : Program} {w : World} (v : Value) : MeetsIn prog w (Builtin.«bool.__new__» ⟨[.type "bool", v], []⟩) (fun A R s => wpAny (model prog w) A.in1 (truthy v) (fun b s' => R (.ok (.ret (.bool b))) s') (fun e s' => R (.error e) s') s) :=
  MeetsIn.of_wp fun A R s hs => by
    obtain ⟨hp, g, d, tk, os⟩ := s
    have f1 := F.conv_sub_bool
    repeat (any_goals (first | assumption | wp_step))
    all_goals first
      | (show wpAny (model prog w) A.in1 (truthy v) _ _ _
         exact wpAny_mono hs (fun b s' q => wpAny_pure ⟨_, rfl, q⟩) fun _ _ e => e)
      | skip
theorem call_bool_own {prog : Program} {w : World} {A : Around} {E : Value → Shared → Prop} {s : Shared} {v : Value} {Q : Value → Shared → Prop} (h : wpAny (model prog w) A.in1.in1 (truthy v) (fun b s' => Q (.bool b) s') E s) : wpAny (model prog w) A (call (.type "bool") [v]) Q E s :=
  callType_newIn F.called_bool F.newNe_bool (F.typeCall_bool_1 v) (F.newCall_bool_1 v) (fun obj => F.args_object_init_2 obj v) F.entry_bool_new (meets_bool_t v) (wpAny_mono h (fun b s' q => ⟨rfl, q⟩) fun _ _ e => e)
theorem run_in2 {pins : List (Addr × Obj)} {σ : L2.St} {H : Hp} {s : Shared} {Q : VK} {us : List Value} {vs : List V} (F : FnOk X.prog X.w X.K X.mg X.base CX k f fd ps sp) (hr : Room (k + 2) X.A) (hb : Binds X.K fd ps []) (hx : Passes CX X E)
    (I : Inv X pins σ H s) (r : Vals vs us) (h : sp vs H Q E) : wpAny (model X.prog X.w) X.A.in1.in1 (call (.ref f) us) (EP X pins σ Q) X.xe s := by
  have hl : us.length = ps.length := by rw [← r.length]; exact F.len _ _ _ _ h
  refine wpAny_call (codeAny_mono (F.run X.A.in1.in1 X.stack s H ⟨us, []⟩ us vs Q E (Room.in1 (Room.in1 hr)) I.env0.in1.in1 (by
    have := hb s us I.kIn (by simpa using hl)
    simpa using this) r h) fun r s' hq => ?_)
  cases r with
  | error e => exact hx pins σ H s e s' I hq
  | ok fl =>
    cases fl with
    | ret u => exact I.after hq
    | next => exact False.elim hq
    | brk => exact False.elim hq
    | cont => exact False.elim hq
theorem cr_bool (o : Own X.K C "__bool__" f) (F : FnOk X.prog X.w X.K X.mg X.base CX k f fd ps sp) (hr : Room (k + 2) X.A) (hb : Binds X.K fd ps []) (hx : Passes CX X E) : CallR X (.type "bool") (rBool C sp E) := by
  intro pins s σ H xs us Q I r h
  obtain ⟨a, dx, fs, rfl, ea, q⟩ := h
  obtain rfl := Vals.ref1 r
  obtain ⟨mA, O, _⟩ := ins_get I.hok ea
  obtain ⟨od, J, _⟩ := O.look
  obtain ⟨m, hF⟩ := I.fr
  refine call_bool_own (PySem.W.truthy_K hF I.ok.mod.kin J o.at_ o.fn (thn (run_in2 (vs := [.ref a]) F hr hb hx I r q) fun u s' z => ?_))
  obtain ⟨v, H', I', rv, b, rfl, q'⟩ := z
  cases rv
  exact ⟨.bl b, H', I', rfl, q'⟩
end
end OwT
namespace OwT
open PySem PySem.Spec PyProof.Rows L2
/-! ### == of dicts, both answers -/
inductive HitV (K : PySem.W.Frag) (H : Hp) (ls : List (Key × V)) : List (Key × V) → Bool → Prop
  | nil : HitV K H ls [] true
  | miss {k : Key} {v : V} {r : List (Key × V)} : valV ls k = none → HitV K H ls ((k, v) :: r) false
  | hit {k : Key} {v y : V} {d e : PyData} {b : Bool} {r : List (Key × V)} : valV ls k = some y → Dp K H v d → Dp K H y e → SeqAt.shaped d = true → SeqAt.shaped e = true → HitV K H ls r b → HitV K H ls ((k, v) :: r) (PyData.eqv d e && b)
section
variable {X : Cx} {pins : List (Addr × Obj)} {σ : L2.St} {H : Hp} {s : Shared}
theorem hits_of (I : Inv X pins σ H s) {A : Around} (hu : A.units + 64 < cLine) {ls : List (Key × V)} {vb : List (Key × Value)} (rb : KV ls vb) {ks : List (Key × V)} {r : Bool} (h : HitV X.K H ls ks r) :
    ∀ {va : List (Key × Value)}, KV ks va → PySem.W.KeqHitsP X.prog X.w A s vb va r := by
  induction h with
  | nil => intro va ra; unfold KV at ra; cases ra; exact .nil
  | @miss k v r hn =>
    intro va ra
    unfold KV at ra
    cases ra with
    | @cons p q ps qs h t =>
      obtain ⟨h1, h2⟩ := h
      obtain ⟨key, u⟩ := q
      have h1 : k = key := h1
      subst h1
      have rr : RelO none (valueAt vb k) := by rw [← hn]; exact rb.val k
      refine .miss ?_
      cases e : valueAt vb k with
      | none => rfl
      | some y => rw [e] at rr; exact rr.elim
  | @hit k v y d e b r hy dv de sd se _ ih =>
    intro va ra
    unfold KV at ra
    cases ra with
    | @cons p q ps qs h t =>
      obtain ⟨h1, h2⟩ := h
      obtain ⟨key, u⟩ := q
      have h1 : k = key := h1
      subst h1
      have rr : RelO (some y) (valueAt vb k) := by rw [← hy]; exact rb.val k
      obtain ⟨w, hw, rw'⟩ := rr.some_of
      obtain ⟨as, r1⟩ := Dp.reads I d v u dv h2
      obtain ⟨bs, r2⟩ := Dp.reads I e y w de rw'
      exact .hit hw (SeqAt.EqAt.eqP (SeqAt.eqAt_reads d e A s u w as bs r1 r2 (SeqAt.canLay_of_shaped sd) (SeqAt.canLay_of_shaped se) (SeqAt.room_of_shaped sd hu))) (ih t)
def rEqDD (K : PySem.W.Frag) : R2 := fun x y H Q => ∃ a b ks ls r, x = .ref a ∧ y = .ref b ∧ H a = some (.dK ks) ∧ H b = some (.dK ls) ∧ HitV K H ls ks r ∧ Q (.bl (ks.length == ls.length && r)) H
theorem op_eqDD (hu : X.A.units + 66 < cLine) : OpR X (compareOp .Eq) (rEqDD X.K) := by
  intro pins s σ H x y v u Q I rx ry h
  obtain ⟨a, b, ks, ls, r, rfl, rfl, ea, eb, hh, q⟩ := h
  cases rx
  cases ry
  obtain ⟨_, ya, va, ra, da⟩ := (show ObjOk X.prog X.w H s.heap a (.dK ks) from I.hok a _ ea)
  obtain ⟨_, yb, vb, rb, db⟩ := (show ObjOk X.prog X.w H s.heap b (.dK ls) from I.hok b _ eb)
  show wpAny (model X.prog X.w) X.A (richCompare .Eq (.ref a) (.ref b)) (EP X pins σ Q) X.xe s
  refine PySem.W.rcP_dicts (knd := mixKind X.prog X.w) (r := r) ya yb da db (by omega) (fun _ => hits_of I (show X.A.units + 1 + 64 < cLine by omega) rb hh ra) _ _ ?_
  exact ⟨.bl _, H, I, by rw [ra.length, rb.length]; rfl, q⟩
end

/-! ### tuple * 1 -/
theorem tuple_mul1 (l : Addr) (items : Array Value) (n : Nat) (dd : Option Addr) (sl : Array (Option Value)) (u : Tok) :
    Meets (Builtin.«tuple.__mul__» ⟨[.ref l, .int 1 u], []⟩) (fun _ R s => s.heap.get? l = some { cls := .type "tuple", dict := dd, data := .seq items n, slots := sl } ∧ R (.ok (.ret (Value.ref l))) s) :=
  .of_wp fun prog w A R s h => by
    obtain ⟨hp, g, d, tk, os⟩ := s
    obtain ⟨hl, h⟩ := h
    have f1 := AutoSeq1.idx_int
    wp_walk using wpAny_loadPart' hl
    exact ⟨_, rfl, h⟩
def rRep1 (K : PySem.W.Frag) : R2 := fun x y H Q => ∃ l xs, x = .ref l ∧ y = .int 1 ∧ SqT K H l xs ∧ Q (.ref l) H
section
variable {X : Cx}
theorem op_rep1 : OpR X (binaryOp .Mult) (rRep1 X.K) := by
  intro pins s σ H x y v u Q I rx ry h
  obtain ⟨l, xs, rfl, rfl, hT, q⟩ := h
  cases rx
  obtain ⟨t, rfl⟩ := ry
  obtain ⟨its, r, ⟨⟨cls, dd, data, sl⟩, ho, hc, n, hd⟩, hs⟩ := I.tuple hT
  simp only at hc hd
  subst hc hd
  exact wpAny_binaryOp_repeat_ref (T := "tuple") (U := "int") (by decide) ⟨_, ho, rfl⟩ (fun s' => typeIs_int s' 1 t) noFill_tuple_mul F.fills_int_mul F.slot_int_rmul repeat_tuple F.slot_int_index.lookup
    (call_meets F.slot_int_rmul (typeIs_int s 1 t) F.entry_int_rmul (F.args_int_rmul_2 _ _) (int_rmul_tuple 1 t l its.toArray n dd sl)
      ⟨ho, rfl, ⟨_, ho, rfl⟩, call_meets F.slot_tuple_mul ⟨_, ho, rfl⟩ F.entry_tuple_mul (F.args_tuple_mul_2 _ _) (tuple_mul1 l its.toArray n dd sl t) ⟨ho, .ref l, H, I, rfl, q⟩⟩)
theorem op_any {f : Value → Value → Sem Value} {r1 r2 : R2} (h1 : OpR X f r1) (h2 : OpR X f r2) : OpR X f (fun x y H Q => r1 x y H Q ∨ r2 x y H Q) := fun pins s σ H x y v u Q I rx ry h =>
  h.elim (h1 pins s σ H x y v u Q I rx ry) (h2 pins s σ H x y v u Q I rx ry)
end
/-- t * n, n at least 1 -/
abbrev rRepA (K : PySem.W.Frag) : R2 := fun x y H Q => rRep1 K x y H Q ∨ rRepT K x y H Q
theorem op_repA {X : Cx} : OpR X (binaryOp .Mult) (rRepA X.K) := op_any op_rep1 op_repT
end OwT
namespace OwT
open PySem PySem.Spec PyProof.Rows L2
section
variable {X : Cx}
theorem cr_boolD : CallR X (.type "bool") (fun xs H Q => ∃ (a : Addr) (kvs : List (Key × V)), xs = [.ref a] ∧ H a = some (.dK kvs) ∧ Q (.bl (!kvs.isEmpty)) H) := by
  intro pins s σ H xs us Q I r h
  obtain ⟨a, kvs, rfl, ea, q⟩ := h
  obtain rfl := Vals.ref1 r
  obtain ⟨hz, hS, vs, r, m⟩ : kvs.length ≤ sizeLine ∧ (a == sysModules) = false ∧ ∃ vs, KV kvs vs ∧ s.heap.DictOf (mixKind X.prog X.w) a vs := I.hok a _ ea
  have hlen : kvs.length = vs.length := Paired.length r
  have hs : sizeLine = 16777216 := sizeLine_eq
  exact call_bool_own (wpAny_truthy_dict hS m (by omega) ⟨.bl (!kvs.isEmpty), H, I.tok _, by rw [isEmpty_kv r]; rfl, q⟩)
end
theorem notFirst_ty {K : PySem.W.Frag} {C : Addr} {n : String} {l : List Value} (e : fastBuiltinMro n = some l) (h : l.all (fun v => match v with | .type _ => true | _ => false) = true) : PySem.W.notFirst K C (.type n) = true := by
  unfold PySem.W.notFirst
  have : PySem.W.subIn K (.type n) (.ref C) = some false := by
    show (fastBuiltinMro n).map (·.contains (.ref C)) = some false
    rw [e]
    show some (l.contains (.ref C)) = some false
    congr 1
    rw [List.all_eq_true] at h
    rw [List.contains_eq_any_beq, List.any_eq_false]
    intro x hx
    have := h x hx
    cases x with
    | type m => intro z; cases (eq_of_beq z)
    | _ => cases this
  rw [this]
  exact Bool.or_true _
theorem notFirst_self {K : PySem.W.Frag} {C : Addr} : PySem.W.notFirst K C (.ref C) = true := by
  unfold PySem.W.notFirst
  rw [beq_self_eq_true]
  rfl
theorem kit_self {K : PySem.W.Frag} {C : Addr} : PySem.W.kitOne K (.ref C) (.ref C) = some true := by
  unfold PySem.W.kitOne
  rw [if_pos (beq_self_eq_true _)]
/-- an own class, for isinstance -/
structure IsCls (K : PySem.W.Frag) (C : Addr) : Prop where
  some_ : (PySem.W.clsIn K C).isSome = true
  ty : PySem.W.typeIn K (.ref C) = some (.type "type")
theorem sub_ty {K : PySem.W.Frag} {C : Addr} {n : String} {l : List Value} (e : fastBuiltinMro n = some l) (h : l.all (fun v => match v with | .type _ => true | _ => false) = true) : PySem.W.subIn K (.type n) (.ref C) = some false := by
  show (fastBuiltinMro n).map (·.contains (.ref C)) = some false
  rw [e]
  show some (l.contains (.ref C)) = some false
  congr 1
  rw [List.all_eq_true] at h
  rw [List.contains_eq_any_beq, List.any_eq_false]
  intro x hx
  have := h x hx
  cases x with
  | type m => intro z; cases (eq_of_beq z)
  | _ => cases this
theorem kit_no {K : PySem.W.Frag} {C : Addr} {n : String} {l : List Value} (c : IsCls K C) (e : fastBuiltinMro n = some l) (h : l.all (fun v => match v with | .type _ => true | _ => false) = true) : PySem.W.kitOne K (.type n) (.ref C) = some false := by
  unfold PySem.W.kitOne
  rw [if_neg (by intro z; cases (eq_of_beq z))]
  unfold PySem.W.kitCls
  dsimp only
  rw [c.some_, c.ty, if_pos (by simp)]
  exact sub_ty e h
theorem mro_non : fastBuiltinMro "NoneType" = some [.type "NoneType", .type "object"] := by decide +kernel
theorem mro_int : fastBuiltinMro "int" = some [.type "int", .type "object"] := by decide +kernel
theorem mro_list : fastBuiltinMro "list" = some [.type "list", .type "object"] := by decide +kernel
theorem mro_tuple : fastBuiltinMro "tuple" = some [.type "tuple", .type "object"] := by decide +kernel
end OwT
namespace OwT
open PySem PySem.Spec PyProof.Rows L2
/-- not e, by any rule of truth -/
theorem pe_notR {X : Cx} {a : Expr} {ta : TE} {pos : Pos} {r : V → Hp → (Bool → Hp → Prop) → Prop} (ha : PE X a ta) (hr : TruR X r) : PE X (.UnaryOp .Not a pos) (fun σ H Q => ta σ H fun x H' => r x H' fun c H2 => Q (.bl (!c)) H2) := by
  refine ⟨fun pins s σ H Q I h => ?_⟩
  refine UnaryOp_ (thn (ha.run pins s σ H _ I h) fun v s1 ⟨x, H1, I1, r1, q1⟩ => ?_)
  exact not_of (thn (hr pins s1 σ H1 x v (fun c H2 => Q (.bl (!c)) H2) I1 r1 q1) fun c s2 ⟨H2, I2, q2⟩ => ⟨.bl (!c), H2, I2, rfl, q2⟩)
end OwT
namespace OwT
open PySem PySem.Spec PyProof.Rows L2
theorem hu66 {k : Nat} {A : Around} (h : Room k A) : A.units + 66 < cLine := by
  have := h.un
  omega
end OwT
namespace K41
open PySem PySem.Spec PyProof.Rows L2 LA
/-! ### words for all -/
theorem same_upd {H : Hp} {p : Addr} {o : HO} (h : H p = none) : Same H (upd H p o) := fun b x e => by
  rw [upd_ne (ne_of_none e h)]
  exact e
/-- a new object of ours changes: what stood before stands -/
theorem same_mut {H H' : Hp} {p : Addr} {o : HO} (s : Same H H') (h : H p = none) : Same H (upd H' p o) := fun b x e => by
  rw [upd_ne (ne_of_none e h)]
  exact s _ _ e
theorem bigLine {n : Nat} (h : n ≤ 1000000) : n < sizeLine := Nat.lt_of_le_of_lt h (by decide)
theorem bigLe {n : Nat} (h : n ≤ 1000000) : n ≤ sizeLine := Nat.le_of_lt (bigLine h)
theorem st_ite {c : TT} {t1 t2 : TS} {σ : L2.St} {H : Hp} {D : Ends} {b : Bool} (h : Ans c σ H b) (h1 : b = true → t1 D σ H) (h2 : b = false → t2 D σ H) : tIfS c t1 t2 D σ H := by
  cases b with
  | true => exact st_yes h (h1 rfl)
  | false => exact st_no h (h2 rfl)
abbrev rListOf (K : PySem.W.Frag) : List V → Hp → VK → Prop := fun zs H Q => ∃ p ys, zs = [.ref p] ∧ (SqL K H p ys ∨ SqT K H p ys) ∧ ∀ l, H l = none → Q (.ref l) (upd H l (.lst ys))
abbrev rTupOf (K : PySem.W.Frag) : List V → Hp → VK → Prop := fun zs H Q => ∃ p ys, zs = [.ref p] ∧ ((SqL K H p ys ∧ ∀ l, H l = none → Q (.ref l) (upd H l (.tup ys))) ∨ (SqT K H p ys ∧ Q (.ref p) H))
theorem get_map {α β : Type} {f : α → β} {l : List α} {i : Nat} {y : β} (h : (l.map f)[i]? = some y) : ∃ x, l[i]? = some x ∧ f x = y := by
  rw [List.getElem?_map] at h
  exact Option.map_eq_some_iff.mp h
theorem atI_co {r : List Int} {l : Nat} (h : l < r.length) : atI (r.map V.int) (l : Int) = some (.int (co r l)) := by
  refine atI_nat (j := l) ?_
  rw [List.getElem?_map, get_co h]
  rfl
theorem dint {i j : Int} : decide (V.int i = V.int j) = decide (i = j) := by
  by_cases h : i = j
  · rw [decide_eq_true h, decide_eq_true (congrArg V.int h)]
  · rw [decide_eq_false h, decide_eq_false fun z => h (V.int.inj z)]
/-- rows as tuples -/
def RowsAt (H : Hp) : List Addr → List (List Int) → Prop
  | [], [] => True
  | a :: as, r :: rs => H a = some (.tup (r.map V.int)) ∧ RowsAt H as rs
  | _, _ => False
theorem RowsAt.same {H H' : Hp} (s : Same H H') : ∀ {as : List Addr} {rs : List (List Int)}, RowsAt H as rs → RowsAt H' as rs
  | [], [], _ => trivial
  | _ :: _, _ :: _, h => ⟨s _ _ h.1, RowsAt.same s h.2⟩
  | [], _ :: _, h => h.elim
  | _ :: _, [], h => h.elim
theorem RowsAt.app {H : Hp} {a : Addr} {r : List Int} (ha : H a = some (.tup (r.map V.int))) : ∀ {as : List Addr} {rs : List (List Int)}, RowsAt H as rs → RowsAt H (as ++ [a]) (rs ++ [r])
  | [], [], _ => ⟨ha, trivial⟩
  | _ :: _, _ :: _, h => ⟨h.1, RowsAt.app ha h.2⟩
  | [], _ :: _, h => h.elim
  | _ :: _, [], h => h.elim
theorem RowsAt.len {H : Hp} : ∀ {as : List Addr} {rs : List (List Int)}, RowsAt H as rs → as.length = rs.length
  | [], [], _ => rfl
  | _ :: _, _ :: _, h => congrArg (· + 1) (RowsAt.len h.2)
  | [], _ :: _, h => h.elim
  | _ :: _, [], h => h.elim
theorem RowsAt.get {H : Hp} : ∀ {as : List Addr} {rs : List (List Int)} {i : Nat} {a : Addr}, RowsAt H as rs → as[i]? = some a → ∃ r, rs[i]? = some r ∧ H a = some (.tup (r.map V.int))
  | _ :: _, r :: _, 0, a, h, e => ⟨r, rfl, by rw [← Option.some.inj (show some _ = some a from e)]; exact h.1⟩
  | _ :: _, _ :: _, i + 1, _, h, e => RowsAt.get (i := i) h.2 e
  | [], [], _, _, _, e => by cases e
  | [], _ :: _, _, _, h, _ => h.elim
  | _ :: _, [], _, _, h, _ => h.elim
theorem RowsAt.off {H : Hp} {p : Addr} {u o : HO} (hp : H p = some u) (hu : ∀ xs, u ≠ .tup xs) : ∀ {as : List Addr} {rs : List (List Int)}, RowsAt H as rs → RowsAt (upd H p o) as rs
  | [], [], _ => trivial
  | _ :: _, _ :: _, h => ⟨by rw [upd_ne (ne_of h.1 hp (fun z => hu _ z.symm))]; exact h.1, RowsAt.off hp hu h.2⟩
  | [], _ :: _, h => h.elim
  | _ :: _, [], h => h.elim
/-- the dict of a table -/
def kvsOf : List (Nat × List Int) → List Addr → List (Key × V)
  | x :: T, a :: as => (Sum.inl (x.1 : Int), .ref a) :: kvsOf T as
  | _, _ => []
def TabAt (H : Hp) (d : Addr) (T : List (Nat × List Int)) : Prop := ∃ as, RowsAt H as (rowsOf T) ∧ H d = some (.dK (kvsOf T as))
theorem TabAt.same {H H' : Hp} (s : Same H H') {d : Addr} {T : List (Nat × List Int)} (h : TabAt H d T) : TabAt H' d T := by
  obtain ⟨as, a, b⟩ := h
  exact ⟨as, a.same s, s _ _ b⟩
theorem kvs_len : ∀ {T : List (Nat × List Int)} {as : List Addr}, as.length = T.length → (kvsOf T as).length = T.length
  | [], [], _ => rfl
  | _ :: _, _ :: _, h => congrArg (· + 1) (kvs_len (Nat.succ.inj h))
  | [], _ :: _, h => by cases h
  | _ :: _, [], h => by cases h
theorem kvs_get : ∀ {T : List (Nat × List Int)} {as : List Addr} {i : Nat}, as.length = T.length → i < T.length → ∃ l r a, T[i]? = some (l, r) ∧ as[i]? = some a ∧ (kvsOf T as)[i]? = some (Sum.inl (l : Int), .ref a)
  | (l, r) :: _, a :: _, 0, _, _ => ⟨l, r, a, rfl, rfl, rfl⟩
  | _ :: T, _ :: as, i + 1, h, hi => kvs_get (T := T) (as := as) (i := i) (Nat.succ.inj h) (Nat.lt_of_succ_lt_succ hi)
  | [], _, _, _, hi => absurd hi (Nat.not_lt_zero _)
  | _ :: _, [], _, h, _ => by cases h
theorem kvs_app : ∀ {T : List (Nat × List Int)} {as : List Addr} (l : Nat) (r : List Int) (a : Addr), as.length = T.length → kvsOf (T ++ [(l, r)]) (as ++ [a]) = kvsOf T as ++ [(Sum.inl (l : Int), .ref a)]
  | [], [], _, _, _, _ => rfl
  | _ :: _, _ :: _, l, r, a, h => congrArg (_ :: ·) (kvs_app l r a (Nat.succ.inj h))
  | [], _ :: _, _, _, _, h => by cases h
  | _ :: _, [], _, _, _, h => by cases h
theorem kvs_val : ∀ {T : List (Nat × List Int)} {as : List Addr} (p : Nat), as.length = T.length → (valV (kvsOf T as) (Sum.inl (p : Int))).isSome = decide (p ∈ keysOf T)
  | [], [], p, _ => by
    rw [decide_eq_false (show p ∉ keysOf [] from List.not_mem_nil)]
    rfl
  | x :: T, a :: as, p, h => by
    have ih := kvs_val (T := T) (as := as) p (Nat.succ.inj h)
    unfold valV at ih ⊢
    unfold kvsOf
    rw [List.find?_cons]
    by_cases e : x.1 = p
    · have : decide ((Sum.inl (x.1 : Int) : Key) = Sum.inl (p : Int)) = true := decide_eq_true (by rw [e])
      rw [this, decide_eq_true (show p ∈ keysOf (x :: T) from e ▸ List.mem_cons_self ..)]
      rfl
    · have : decide ((Sum.inl (x.1 : Int) : Key) = Sum.inl (p : Int)) = false := decide_eq_false fun z => e (Int.ofNat.inj (Sum.inl.inj z))
      rw [this]
      have e2 : decide (p ∈ keysOf (x :: T)) = decide (p ∈ keysOf T) := by
        by_cases m : p ∈ keysOf T
        · rw [decide_eq_true m, decide_eq_true (show p ∈ keysOf (x :: T) from List.mem_cons_of_mem _ m)]
        · rw [decide_eq_false m, decide_eq_false fun z => by
            rcases List.mem_cons.mp z with z | z
            · exact e z.symm
            · exact m z]
      rw [e2]
      exact ih
  | [], _ :: _, _, h => by cases h
  | _ :: _, [], _, h => by cases h
/-! ### the text -/
def top (i : Nat) : Stmt := PySem.Challenge.pw_allornothing_k41_spans_of_rows.main.body.getD i (.Pass ⟨0, 0, 0, 0⟩)
abbrev s_is_integer : Stmt := top 5
abbrev s_are_integers : Stmt := top 6
abbrev s_reduced : Stmt := top 8
abbrev s_is_row : Stmt := top 9
abbrev s_lead_of : Stmt := top 10
abbrev s_primitive : Stmt := top 11
abbrev s_cleared : Stmt := top 12
abbrev s_table_of : Stmt := top 13
abbrev s_rows_of_table : Stmt := top 14
abbrev s_rest_of : Stmt := top 15
abbrev s_is_spanned : Stmt := top 16
abbrev s_joined : Stmt := top 17
abbrev s_Space___init__ : Stmt := inClass (top 19) 0
abbrev s_Space_width : Stmt := inClass (top 19) 1
abbrev s_Space_rows : Stmt := inClass (top 19) 2
abbrev s_Space___contains__ : Stmt := inClass (top 19) 3
abbrev s_Space___len__ : Stmt := inClass (top 19) 4
abbrev s_Space___bool__ : Stmt := inClass (top 19) 5
abbrev s_Space___eq__ : Stmt := inClass (top 19) 6
abbrev s_Space___or__ : Stmt := inClass (top 19) 7
abbrev s_Space_is_within : Stmt := inClass (top 19) 8
abbrev s_Space__fits : Stmt := inClass (top 19) 9
abbrev s__law_pool : Stmt := top 21
abbrev s__law_take : Stmt := top 22
abbrev s__law_thin : Stmt := top 23
abbrev s__law_rank : Stmt := top 24
abbrev s__law_rows : Stmt := top 25
abbrev s_law : Stmt := top 26
/-- where the text's defs and classes stand -/
structure Ads where
  f_is_integer : Addr
  f_is_integer_d : FuncData
  f_are_integers : Addr
  f_are_integers_d : FuncData
  f_reduced : Addr
  f_reduced_d : FuncData
  f_is_row : Addr
  f_is_row_d : FuncData
  f_lead_of : Addr
  f_lead_of_d : FuncData
  f_primitive : Addr
  f_primitive_d : FuncData
  f_cleared : Addr
  f_cleared_d : FuncData
  f_table_of : Addr
  f_table_of_d : FuncData
  f_rows_of_table : Addr
  f_rows_of_table_d : FuncData
  f_rest_of : Addr
  f_rest_of_d : FuncData
  f_is_spanned : Addr
  f_is_spanned_d : FuncData
  f_joined : Addr
  f_joined_d : FuncData
  f_Space___init__ : Addr
  f_Space___init___d : FuncData
  f_Space_width : Addr
  f_Space_width_d : FuncData
  pr_Space_width : Addr
  f_Space_rows : Addr
  f_Space_rows_d : FuncData
  pr_Space_rows : Addr
  f_Space___contains__ : Addr
  f_Space___contains___d : FuncData
  f_Space___len__ : Addr
  f_Space___len___d : FuncData
  f_Space___bool__ : Addr
  f_Space___bool___d : FuncData
  f_Space___eq__ : Addr
  f_Space___eq___d : FuncData
  f_Space___or__ : Addr
  f_Space___or___d : FuncData
  f_Space_is_within : Addr
  f_Space_is_within_d : FuncData
  f_Space__fits : Addr
  f_Space__fits_d : FuncData
  f__law_pool : Addr
  f__law_pool_d : FuncData
  f__law_take : Addr
  f__law_take_d : FuncData
  f__law_thin : Addr
  f__law_thin_d : FuncData
  f__law_rank : Addr
  f__law_rank_d : FuncData
  f__law_rows : Addr
  f__law_rows_d : FuncData
  f_law : Addr
  f_law_d : FuncData
  c_Space : Addr
/-- what the top has left -/
structure Txt (K : PySem.W.Frag) (mg : Str → Option Value) (a : Ads) : Prop where
  F_is_integer : Fun K "is_integer" "is_integer" s_is_integer a.f_is_integer a.f_is_integer_d
  b_is_integer : Binds K a.f_is_integer_d ["value"] []
  g_is_integer : mg "is_integer" = some (.ref a.f_is_integer)
  F_are_integers : Fun K "are_integers" "are_integers" s_are_integers a.f_are_integers a.f_are_integers_d
  b_are_integers : Binds K a.f_are_integers_d ["values"] []
  g_are_integers : mg "are_integers" = some (.ref a.f_are_integers)
  F_reduced : Fun K "reduced" "reduced" s_reduced a.f_reduced a.f_reduced_d
  b_reduced : Binds K a.f_reduced_d ["rows", "width"] []
  g_reduced : mg "reduced" = some (.ref a.f_reduced)
  F_is_row : Fun K "is_row" "is_row" s_is_row a.f_is_row a.f_is_row_d
  b_is_row : Binds K a.f_is_row_d ["value", "width"] []
  g_is_row : mg "is_row" = some (.ref a.f_is_row)
  F_lead_of : Fun K "lead_of" "lead_of" s_lead_of a.f_lead_of a.f_lead_of_d
  b_lead_of : Binds K a.f_lead_of_d ["row"] []
  g_lead_of : mg "lead_of" = some (.ref a.f_lead_of)
  F_primitive : Fun K "primitive" "primitive" s_primitive a.f_primitive a.f_primitive_d
  b_primitive : Binds K a.f_primitive_d ["row"] []
  g_primitive : mg "primitive" = some (.ref a.f_primitive)
  F_cleared : Fun K "cleared" "cleared" s_cleared a.f_cleared a.f_cleared_d
  b_cleared : Binds K a.f_cleared_d ["row", "other", "lead"] []
  g_cleared : mg "cleared" = some (.ref a.f_cleared)
  F_table_of : Fun K "table_of" "table_of" s_table_of a.f_table_of a.f_table_of_d
  b_table_of : Binds K a.f_table_of_d ["rows", "width"] []
  g_table_of : mg "table_of" = some (.ref a.f_table_of)
  F_rows_of_table : Fun K "rows_of_table" "rows_of_table" s_rows_of_table a.f_rows_of_table a.f_rows_of_table_d
  b_rows_of_table : Binds K a.f_rows_of_table_d ["table"] []
  g_rows_of_table : mg "rows_of_table" = some (.ref a.f_rows_of_table)
  F_rest_of : Fun K "rest_of" "rest_of" s_rest_of a.f_rest_of a.f_rest_of_d
  b_rest_of : Binds K a.f_rest_of_d ["table", "row"] []
  g_rest_of : mg "rest_of" = some (.ref a.f_rest_of)
  F_is_spanned : Fun K "is_spanned" "is_spanned" s_is_spanned a.f_is_spanned a.f_is_spanned_d
  b_is_spanned : Binds K a.f_is_spanned_d ["table", "row"] []
  g_is_spanned : mg "is_spanned" = some (.ref a.f_is_spanned)
  F_joined : Fun K "joined" "joined" s_joined a.f_joined a.f_joined_d
  b_joined : Binds K a.f_joined_d ["table", "row"] []
  g_joined : mg "joined" = some (.ref a.f_joined)
  F_Space___init__ : Fun K "__init__" "Space.__init__" s_Space___init__ a.f_Space___init__ a.f_Space___init___d
  b_Space___init__ : Binds K a.f_Space___init___d ["self", "width", "rows"] []
  mk_Space : Mk K a.c_Space a.f_Space___init__
  F_Space_width : Fun K "width" "Space.width" s_Space_width a.f_Space_width a.f_Space_width_d
  b_Space_width : Binds K a.f_Space_width_d ["self"] []
  pp_Space_width : PropOf K a.c_Space "width" a.pr_Space_width a.f_Space_width
  F_Space_rows : Fun K "rows" "Space.rows" s_Space_rows a.f_Space_rows a.f_Space_rows_d
  b_Space_rows : Binds K a.f_Space_rows_d ["self"] []
  pp_Space_rows : PropOf K a.c_Space "rows" a.pr_Space_rows a.f_Space_rows
  F_Space___contains__ : Fun K "__contains__" "Space.__contains__" s_Space___contains__ a.f_Space___contains__ a.f_Space___contains___d
  b_Space___contains__ : Binds K a.f_Space___contains___d ["self", "x"] []
  m_Space___contains__ : Meth K a.c_Space "__contains__" a.f_Space___contains__
  F_Space___len__ : Fun K "__len__" "Space.__len__" s_Space___len__ a.f_Space___len__ a.f_Space___len___d
  b_Space___len__ : Binds K a.f_Space___len___d ["self"] []
  m_Space___len__ : Meth K a.c_Space "__len__" a.f_Space___len__
  F_Space___bool__ : Fun K "__bool__" "Space.__bool__" s_Space___bool__ a.f_Space___bool__ a.f_Space___bool___d
  b_Space___bool__ : Binds K a.f_Space___bool___d ["self"] []
  m_Space___bool__ : Meth K a.c_Space "__bool__" a.f_Space___bool__
  F_Space___eq__ : Fun K "__eq__" "Space.__eq__" s_Space___eq__ a.f_Space___eq__ a.f_Space___eq___d
  b_Space___eq__ : Binds K a.f_Space___eq___d ["self", "other"] []
  m_Space___eq__ : Meth K a.c_Space "__eq__" a.f_Space___eq__
  F_Space___or__ : Fun K "__or__" "Space.__or__" s_Space___or__ a.f_Space___or__ a.f_Space___or___d
  b_Space___or__ : Binds K a.f_Space___or___d ["self", "other"] []
  m_Space___or__ : Meth K a.c_Space "__or__" a.f_Space___or__
  F_Space_is_within : Fun K "is_within" "Space.is_within" s_Space_is_within a.f_Space_is_within a.f_Space_is_within_d
  b_Space_is_within : Binds K a.f_Space_is_within_d ["self", "other"] []
  m_Space_is_within : Meth K a.c_Space "is_within" a.f_Space_is_within
  F_Space__fits : Fun K "_fits" "Space._fits" s_Space__fits a.f_Space__fits a.f_Space__fits_d
  b_Space__fits : Binds K a.f_Space__fits_d ["self", "other"] []
  m_Space__fits : Meth K a.c_Space "_fits" a.f_Space__fits
  F__law_pool : Fun K "_law_pool" "_law_pool" s__law_pool a.f__law_pool a.f__law_pool_d
  b__law_pool : Binds K a.f__law_pool_d ["_law_script", "_law_k"] []
  g__law_pool : mg "_law_pool" = some (.ref a.f__law_pool)
  F__law_take : Fun K "_law_take" "_law_take" s__law_take a.f__law_take a.f__law_take_d
  b__law_take : Binds K a.f__law_take_d ["_law_pool_here", "_law_wide"] []
  g__law_take : mg "_law_take" = some (.ref a.f__law_take)
  F__law_thin : Fun K "_law_thin" "_law_thin" s__law_thin a.f__law_thin a.f__law_thin_d
  b__law_thin : Binds K a.f__law_thin_d ["_law_row"] []
  g__law_thin : mg "_law_thin" = some (.ref a.f__law_thin)
  F__law_rank : Fun K "_law_rank" "_law_rank" s__law_rank a.f__law_rank a.f__law_rank_d
  b__law_rank : Binds K a.f__law_rank_d ["_law_rows_here"] []
  g__law_rank : mg "_law_rank" = some (.ref a.f__law_rank)
  F__law_rows : Fun K "_law_rows" "_law_rows" s__law_rows a.f__law_rows a.f__law_rows_d
  b__law_rows : Binds K a.f__law_rows_d ["_law_pool_here", "_law_wide", "_law_many"] []
  g__law_rows : mg "_law_rows" = some (.ref a.f__law_rows)
  F_law : Fun K "law" "law" s_law a.f_law a.f_law_d
  g_law : mg "law" = some (.ref a.f_law)
  cl_Space : Cls K a.c_Space
  mg_Space : mg "Space" = some (.ref a.c_Space)
  n_Space__width : NoAttr K a.c_Space "_width"
  n_Space__table : NoAttr K a.c_Space "_table"
  int : mg "int" = none
  bool : mg "bool" = none
  isinstance : mg "isinstance" = none
  all : mg "all" = none
  len : mg "len" = none
  sorted : mg "sorted" = none
  tuple : mg "tuple" = none
  list : mg "list" = none
  range : mg "range" = none
  zip : mg "zip" = none
  enumerate : mg "enumerate" = none
  abs : mg "abs" = none
  max : mg "max" = none
  min : mg "min" = none
  g_gcd : mg "gcd" = some (.builtin "math.gcd")
  sf : PySem.W.selfFirst K a.c_Space = true
  mo : PySem.W.mroIn K a.c_Space (.type "object") = some true
  ne : PySem.W.findIn K (.ref a.c_Space) "__ne__" = some (some (.builtin "object.__ne__"))
  ct : PySem.W.typeIn K (.ref a.c_Space) = some (.type "type")
  ca : PySem.W.findIn K (.ref a.c_Space) "__class__" = some (some (.builtin "object.__class__"))
  cg : PySem.W.specialIn K (.builtin "object.__class__") "__get__" = some (some (.builtin "getset_descriptor.__get__"))
  ck : PySem.W.takesIn K (.builtin "object.__class__") = some true

def spIsInt : Sp := fun vs H Q _ => ∃ i : Int, vs = [.int i] ∧ Q (.bl true) H
def spInts : Sp := fun vs H Q _ => ∃ (p : Addr) (r : List Int), vs = [.ref p] ∧ H p = some (.tup (r.map V.int)) ∧ r.length ≤ 1000 ∧ ∀ H', Same H H' → Q (.bl true) H'
def spIsRow : Sp := fun vs H Q _ => ∃ (p : Addr) (r : List Int), vs = [.ref p, .int (r.length : Nat)] ∧ H p = some (.tup (r.map V.int)) ∧ r.length ≤ 1000 ∧ ∀ H', Same H H' → Q (.bl true) H'
/-- ints in a row, a list or a tuple -/
def RowAt (H : Hp) (p : Addr) (r : List Int) : Prop := H p = some (.lst (r.map V.int)) ∨ H p = some (.tup (r.map V.int))
theorem RowAt.same {H H' : Hp} {p : Addr} {r : List Int} (s : Same H H') (h : RowAt H p r) : RowAt H' p r := h.elim (fun h => .inl (s _ _ h)) fun h => .inr (s _ _ h)
def spLead : Sp := fun vs H Q _ => ∃ (p : Addr) (r : List Int), vs = [.ref p] ∧ RowAt H p r ∧ r.length ≤ 1000 ∧ ∀ H', Same H H' → Q (.int (leadL r : Nat)) H'
def spPrim : Sp := fun vs H Q _ => ∃ (p : Addr) (r : List Int), vs = [.ref p] ∧ RowAt H p r ∧ r.length ≤ 1000 ∧ Bd 9000 r ∧ ∀ H' q, Same H H' → H' q = some (.tup ((primL r).map V.int)) → Q (.ref q) H'
section
variable {P : Program} {w : World} {K : PySem.W.Frag} {mg : Str → Option Value} {base : Heap} {a : Ads}
theorem sc_is_integer : FnScope ["value"] ["value"] (defScope s_is_integer) := ⟨rfl, rfl, rfl, by decide +kernel, rfl, by decide +kernel, by decide +kernel⟩
theorem ok_is_integer (T : Txt K mg a) : FnOk P w K mg base CX0 1 a.f_is_integer a.f_is_integer_d ["value"] spIsInt := by
  refine T.F_is_integer.ok sc_is_integer (fun vs H Q E h => ?_) (fun cdv A outer s H vs Q E hr h => ?_)
  · obtain ⟨i, rfl, _⟩ := h
    rfl
  obtain ⟨i, rfl, q⟩ := h
  refine ⟨_, (pss_one (ps_ret (pe_and (pe_callB call_isi (by rfl) T.isinstance (by decide +kernel) (pa_cons (pv 0) (pa_cons (pe_bltn (v := .ty "int") (by rfl) T.int (by decide +kernel) rfl) pa_nil))) (pe_one (pe_not (pe_callB call_isi (by rfl) T.isinstance (by decide +kernel) (pa_cons (pv 0) (pa_cons (pe_bltn (v := .ty "bool") (by rfl) T.bool (by decide +kernel) rfl) pa_nil)))))))), ?_⟩
  refine ⟨_, rfl, .int i, .ty "int", .type "int", .type "int", true, rfl, .ty "int", .base (.int i), kit_ty (by decide +kernel), _, rfl, ite2 (fun _ => ?_) (fun e => absurd rfl e)⟩
  exact ⟨_, rfl, .int i, .ty "bool", .type "int", .type "bool", false, rfl, .ty "bool", .base (.int i), kit_ty (by decide +kernel), _, rfl, q⟩
theorem sc_are_integers : FnScope ["values", "value"] ["values"] (defScope s_are_integers) := ⟨rfl, rfl, rfl, by decide +kernel, rfl, by decide +kernel, by decide +kernel⟩
theorem ok_are_integers (T : Txt K mg a) : FnOk P w K mg base CX0 2 a.f_are_integers a.f_are_integers_d ["values"] spInts := by
  refine T.F_are_integers.ok sc_are_integers (fun vs H Q E h => ?_) (fun cdv A outer s H vs Q E hr h => ?_)
  · obtain ⟨p, r, rfl, _⟩ := h
    rfl
  obtain ⟨p, r, rfl, hp, hl, q⟩ := h
  refine ⟨_, (pss_one (ps_ret (pe_callB (cr_all rfl) (by rfl) T.all (by decide +kernel) (pa_cons (pe_lc (own := [("value", 1)]) (g := gName 1) (tt := tYes) (by rfl) sc_are_integers.nd (pi_tup (pv 0)) (blkOk_by (own := [("value", 1)]) (N := ["values", "value"]) (sc := defScope s_are_integers) (by decide +kernel)) (fun _ _ _ _ _ => pg_name (i := 1) sc_are_integers.nd rfl (Or.inl rfl)) (fun _ _ _ _ _ => pts_nil) (fun _ _ _ _ _ => (pe_call (ok_is_integer T) (hr.mono (by decide)) (by rfl) T.g_is_integer T.F_is_integer.kp T.b_is_integer .nil pass0 (pa_cons (pv 1) pa_nil)))) pa_nil)))), ?_⟩
  refine ⟨_, rfl, p, rfl, ⟨_, SqT.of hp⟩, fun D hD => ?_⟩
  refine lc_it (walk_tup (K := K) (a := p) (xs := r.map V.int)) (fun i H' => Same H H' ∧ H' D = some (.lst ((List.replicate i true).map V.bl))) ⟨same_upd hD, upd_same⟩ (fun i H' _ h => SqT.of (h.1 _ _ hp)) ?_ ?_
  · rintro i x H1 H2 hi ⟨s1, hD1⟩ ⟨rfl, hx⟩
    obtain ⟨n, hn, rfl⟩ := get_map hx
    rw [List.length_map] at hi
    refine ⟨rfl, _, rfl, n, rfl, _, hD1, ?_, same_mut s1 hD, ?_⟩
    · rw [List.length_map, List.length_replicate]
      exact bigLine (by omega)
    · rw [upd_same, List.replicate_succ', List.map_append]
      rfl
  · rintro H1 ⟨s1, hD1⟩
    refine ⟨D, _, rfl, SqL.of hD1, ?_⟩
    have e : (List.replicate (r.map V.int).length true).all id = true := by
      rw [List.all_eq_true]
      intro b hb
      rw [List.eq_of_mem_replicate hb]
      rfl
    rw [e]
    exact q H1 s1
theorem sc_is_row : FnScope ["value", "width"] ["value", "width"] (defScope s_is_row) := ⟨rfl, rfl, rfl, by decide +kernel, rfl, by decide +kernel, by decide +kernel⟩
theorem ok_is_row (T : Txt K mg a) : FnOk P w K mg base CX0 3 a.f_is_row a.f_is_row_d ["value", "width"] spIsRow := by
  refine T.F_is_row.ok sc_is_row (fun vs H Q E h => ?_) (fun cdv A outer s H vs Q E hr h => ?_)
  · obtain ⟨p, r, rfl, _⟩ := h
    rfl
  obtain ⟨p, r, rfl, hp, hl, q⟩ := h
  refine ⟨_, (pss_one (ps_ret (pe_and (pe_callB call_isi (by rfl) T.isinstance (by decide +kernel) (pa_cons (pv 0) (pa_cons (pe_bltn (v := .ty "tuple") (by rfl) T.tuple (by decide +kernel) rfl) pa_nil))) (pe_and (pe_cmpR op_eq (pe_callB call_len_seq (by rfl) T.len PySem.boot_len (pa_cons (pv 0) pa_nil)) (pv 1) (nomark _)) (pe_one (pe_call (ok_are_integers T) (hr.mono (by decide)) (by rfl) T.g_are_integers T.F_are_integers.kp T.b_are_integers .nil pass0 (pa_cons (pv 0) pa_nil))))))), ?_⟩
  refine ⟨_, rfl, .ref p, .ty "tuple", .type "tuple", .type "tuple", true, rfl, .ty "tuple", .base (.tup hp), kit_ty (by decide +kernel), _, rfl, ite2 (fun _ => ?_) (fun e => absurd rfl e)⟩
  refine ⟨_, rfl, p, _, rfl, .inr (SqT.of hp), _, rfl, rfl, _, rfl, ite2 (fun _ => ?_) (fun e => absurd (by rw [List.length_map]; exact decide_eq_true rfl) e)⟩
  exact ⟨_, rfl, p, r, rfl, hp, hl, q⟩
end
end K41
namespace K41
open PySem PySem.Spec PyProof.Rows L2 LA
theorem walk_enumT {K : PySem.W.Frag} {a : Addr} {xs : List V} : Walk (EnT.IteT K a) xs.length (fun H => SqT K H a xs) (YPair (fun i => some (.int (i : Nat))) (fun i => xs[i]?)) := by
  refine ⟨fun i _ hi q => ⟨xs, xs[i], q, List.getElem?_eq_getElem hi⟩, fun _ q => ⟨xs, q, rfl⟩, fun i H v H' _ q y => ?_⟩
  obtain ⟨T, x, h1, h2, h3, h4⟩ := y
  exact ⟨T, .int (i : Nat), x, h1, h2, h3, rfl, h4 xs q⟩
theorem walk_zipT {K : PySem.W.Frag} {a b : Addr} {xs ys : List V} (hl : xs.length = ys.length) : Walk (RZ.ItzT K a b) xs.length (fun H => SqT K H a xs ∧ SqT K H b ys) (YPair (fun i => xs[i]?) (fun i => ys[i]?)) := by
  refine ⟨fun i _ hi q => ⟨xs, ys, xs[i], ys[i], q.1, q.2, List.getElem?_eq_getElem hi, List.getElem?_eq_getElem (by omega)⟩, fun _ q => ⟨xs, ys, q.1, q.2, .inl (Nat.le_refl _)⟩, fun i H v H' _ q y => ?_⟩
  obtain ⟨T, x, z, h1, h2, h3, h4, h5⟩ := y
  exact ⟨T, x, z, h1, h2, h3, h4 xs q.1, h5 ys q.2⟩
theorem leadL_all {r : List Int} (h : ∀ p, p < r.length → co r p = 0) : leadL r = r.length := by
  rcases Nat.lt_or_ge (leadL r) r.length with q | q
  · exact absurd (h _ q) (leadL_at r q)
  · exact Nat.le_antisymm (leadL_le r) q
/-- the ints of a list or of a tuple, one after the other -/
theorem row_walk {K : PySem.W.Frag} {i : Nat} {σ : L2.St} {H : Hp} {p : Addr} {xs : List V} {o : HO} {R : It → Hp → Prop} (ho : o = .lst xs ∨ o = .tup xs) (hp : H p = some o) (hi : σ[i]? = some (some (.ref p)))
    (k : ∀ J, Walk J xs.length (fun H' => H' p = some o) (YAt xs) → R J H) : iList K (tVar i) σ H R ∨ iTup K (tVar i) σ H R := by
  rcases ho with rfl | rfl
  · exact .inl ⟨_, hi, p, rfl, ⟨_, SqL.of hp⟩, k _ (walk_list.mono (fun _ h => SqL.of h) fun _ _ _ _ _ _ y => y)⟩
  · exact .inr ⟨_, hi, p, rfl, ⟨_, SqT.of hp⟩, k _ (walk_tup.mono (fun _ h => SqT.of h) fun _ _ _ _ _ _ y => y)⟩
section
variable {P : Program} {w : World} {K : PySem.W.Frag} {mg : Str → Option Value} {base : Heap} {a : Ads}
theorem sc_lead_of : FnScope ["row", "at", "number"] ["row"] (defScope s_lead_of) := ⟨rfl, rfl, rfl, by decide +kernel, rfl, by decide +kernel, by decide +kernel⟩
theorem ok_lead_of (T : Txt K mg a) : FnOk P w K mg base CX0 1 a.f_lead_of a.f_lead_of_d ["row"] spLead := by
  refine T.F_lead_of.ok sc_lead_of (fun vs H Q E h => ?_) (fun cdv A outer s H vs Q E hr h => ?_)
  · obtain ⟨p, r, rfl, _⟩ := h
    rfl
  obtain ⟨p, r, rfl, hp, hl, q⟩ := h
  refine ⟨_, (pss_cons (ps_for PassesOwn.never rfl (EnT.pi_or (pi_enum (by rfl) T.enumerate (pa_cons (pv 0) pa_nil)) (EnT.pi_enumT (by rfl) T.enumerate (pa_cons (pv 0) pa_nil))) (pg_tup (by rfl) (pgs_cons (pg_name (i := 1) sc_lead_of.nd rfl (Or.inl rfl)) (pgs_cons (pg_name (i := 2) sc_lead_of.nd rfl (Or.inl rfl)) pgs_nil)))
      (pss_one (ps_if (pt_cmpR op_ne (pv 2) pe_int (nomark _))
        (pss_one (ps_ret (pv 1)))
        pss_nil)))
    (pss_one (ps_ret (pe_callB call_len_seq (by rfl) T.len PySem.boot_len (pa_cons (pv 0) pa_nil))))), ?_⟩
  have body : ∀ (i : Nat) (x : V) (σ : L2.St) (H1 H2 : Hp), i < (r.map V.int).length → (∃ v1 v2, σ = [some (.ref p), v1, v2] ∧ Same H H1 ∧ ∀ j, j < i → co r j = 0) → YPair (fun i => some (.int (i : Nat))) (fun i => (r.map V.int)[i]?) i H1 x H2 →
      ∃ T n, x = .ref T ∧ H2 T = some (.tup [.int (i : Nat), .int n]) ∧ co r i = n ∧ Same H H2 := fun i x σ H1 H2 hi ⟨_, _, _, s1, _⟩ ⟨T, y1, y2, e1, nT, e2, e3, e4⟩ => by
    obtain ⟨n, hn, rfl⟩ := get_map e4
    cases e3
    subst e1 e2
    exact ⟨T, n, rfl, upd_same, co_get hn, s1.trans (same_upd nT)⟩
  have loop : ∀ (i : Nat) (x : V) (σ : L2.St) (H1 H2 : Hp), i < (r.map V.int).length → (∃ v1 v2, σ = [some (.ref p), v1, v2] ∧ Same H H1 ∧ ∀ j, j < i → co r j = 0) → YPair (fun i => some (.int (i : Nat))) (fun i => (r.map V.int)[i]?) i H1 x H2 → True := fun _ _ _ _ _ _ _ _ => trivial
  rcases hp with hp | hp
  · refine .inl ⟨_, rfl, p, _, rfl, SqL.of hp, for_it (walk_enum (K := K) (a := p) (xs := r.map V.int)) (fun i σ H' => ∃ v1 v2, σ = [some (.ref p), v1, v2] ∧ Same H H' ∧ ∀ j, j < i → co r j = 0) ⟨_, _, rfl, Same.refl H, fun j hj => absurd hj (Nat.not_lt_zero _)⟩ (fun i σ H' _ ⟨_, _, _, s1, _⟩ => SqL.of (s1 _ _ hp)) ?_ ?_⟩
    · intro i x σ H1 H2 hi inv y
      obtain ⟨T, n, rfl, hT, hn, s2⟩ := body i x σ H1 H2 hi inv y
      obtain ⟨v1, v2, rfl, s1, hz⟩ := inv
      refine ⟨T, _, rfl, SqT.of hT, rfl, _, _, rfl, _, _, rfl, rfl, ?_⟩
      refine ⟨_, rfl, rfl, _, rfl, ite2 (fun e => ?_) (fun e => ?_)⟩
      · rw [dint] at e
        have e : n ≠ 0 := by simpa using e
        have : leadL r = i := leadL_of ⟨by rw [hn]; exact e, hz⟩
        refine ⟨_, rfl, ?_⟩
        rw [← this]
        exact q H2 s2
      · rw [dint] at e
        have e : n = 0 := by simpa using e
        refine ⟨_, _, rfl, s2, fun j hj => ?_⟩
        rcases Nat.lt_succ_iff_lt_or_eq.mp hj with z | z
        · exact hz j z
        · rw [z, hn, e]
    · rintro σ H1 ⟨v1, v2, rfl, s1, hz⟩
      rw [List.length_map] at hz
      refine ⟨_, rfl, p, _, rfl, .inl (SqL.of (s1 _ _ hp)), ?_⟩
      rw [List.length_map, ← leadL_all hz]
      exact q H1 s1
  · refine .inr ⟨_, rfl, p, _, rfl, SqT.of hp, for_it (walk_enumT (K := K) (a := p) (xs := r.map V.int)) (fun i σ H' => ∃ v1 v2, σ = [some (.ref p), v1, v2] ∧ Same H H' ∧ ∀ j, j < i → co r j = 0) ⟨_, _, rfl, Same.refl H, fun j hj => absurd hj (Nat.not_lt_zero _)⟩ (fun i σ H' _ ⟨_, _, _, s1, _⟩ => SqT.of (s1 _ _ hp)) ?_ ?_⟩
    · intro i x σ H1 H2 hi inv y
      obtain ⟨T, n, rfl, hT, hn, s2⟩ := body i x σ H1 H2 hi inv y
      obtain ⟨v1, v2, rfl, s1, hz⟩ := inv
      refine ⟨T, _, rfl, SqT.of hT, rfl, _, _, rfl, _, _, rfl, rfl, ?_⟩
      refine ⟨_, rfl, rfl, _, rfl, ite2 (fun e => ?_) (fun e => ?_)⟩
      · rw [dint] at e
        have e : n ≠ 0 := by simpa using e
        have : leadL r = i := leadL_of ⟨by rw [hn]; exact e, hz⟩
        refine ⟨_, rfl, ?_⟩
        rw [← this]
        exact q H2 s2
      · rw [dint] at e
        have e : n = 0 := by simpa using e
        refine ⟨_, _, rfl, s2, fun j hj => ?_⟩
        rcases Nat.lt_succ_iff_lt_or_eq.mp hj with z | z
        · exact hz j z
        · rw [z, hn, e]
    · rintro σ H1 ⟨v1, v2, rfl, s1, hz⟩
      rw [List.length_map] at hz
      refine ⟨_, rfl, p, _, rfl, .inr (SqT.of (s1 _ _ hp)), ?_⟩
      rw [List.length_map, ← leadL_all hz]
      exact q H1 s1
def gcdN (r : List Int) (i : Nat) : Nat := gcdL (r.take i)
theorem gcdN_succ {r : List Int} {i : Nat} {n : Int} (h : r[i]? = some n) : gcdN r (i + 1) = Nat.gcd (gcdN r i) n.natAbs := by
  unfold gcdN gcdL
  rw [List.take_add_one, h, List.foldl_append]
  rfl
theorem gcdN_all (r : List Int) : gcdN r r.length = gcdL r := by
  unfold gcdN
  rw [List.take_length]
theorem lead_lt {r : List Int} (h : gcdL r ≠ 0) : leadL r < r.length := by
  rcases Nat.lt_or_ge (leadL r) r.length with q | q
  · exact q
  · exfalso
    have hz := leadL_none (Nat.le_antisymm (leadL_le r) q)
    apply h
    refine Nat.eq_zero_of_zero_dvd (gcdF_great r 0 0 (Nat.dvd_refl _) fun n hn => ?_)
    obtain ⟨i, hi, e⟩ := List.getElem_of_mem hn
    rw [← e, ← co_lt hi, hz i]
    exact Nat.dvd_refl _
theorem sc_primitive : FnScope ["row", "common", "number"] ["row"] (defScope s_primitive) := ⟨rfl, rfl, rfl, by decide +kernel, rfl, by decide +kernel, by decide +kernel⟩
theorem ok_primitive (T : Txt K mg a) : FnOk P w K mg base CX0 2 a.f_primitive a.f_primitive_d ["row"] spPrim := by
  refine T.F_primitive.ok sc_primitive (fun vs H Q E h => ?_) (fun cdv A outer s H vs Q E hr h => ?_)
  · obtain ⟨p, r, rfl, _⟩ := h
    rfl
  obtain ⟨p, r, rfl, hp, hl, hb, q⟩ := h
  refine ⟨_, (pss_cons (ps_set (i := 1) sc_primitive.nd rfl (Or.inr rfl) pe_int)
    (pss_cons (ps_for PassesOwn.never rfl (EnT.pi_or (pi_list (pv 0)) (pi_tup (pv 0))) (pg_name (i := 2) sc_primitive.nd rfl (Or.inl rfl))
      (pss_one (ps_set (i := 1) sc_primitive.nd rfl (Or.inr rfl) (pe_callBfun cr_gcd (by rfl) T.g_gcd (pa_cons (pv 1) (pa_cons (pv 2) pa_nil))))))
    (pss_cons (ps_if (pt_cmpR op_eq (pv 1) pe_int (nomark _))
      (pss_one (ps_ret (pe_callTy call_tuple_of (by rfl) T.tuple (by decide +kernel) (pa_cons (pv 0) pa_nil))))
      pss_nil)
    (pss_cons (ps_if (pt_cmpR op_lt (pe_ix ix_seq (pv 0) (pe_call (ok_lead_of T) (hr.mono (by decide)) (by rfl) T.g_lead_of T.F_lead_of.kp T.b_lead_of .nil pass0 (pa_cons (pv 0) pa_nil)) (fun _ _ => rfl)) pe_int (nomark _))
      (pss_one (ps_set (i := 1) sc_primitive.nd rfl (Or.inr rfl) (pe_un un_neg (pv 1))))
      pss_nil)
    (pss_one (ps_ret (pe_callTy call_tuple_of (by rfl) T.tuple (by decide +kernel) (pa_cons (pe_lc (own := [("number", 2)]) (g := gName 2) (tt := tYes) (by rfl) sc_primitive.nd (EnT.pi_or (pi_list (pv 0)) (pi_tup (pv 0))) (blkOk_by (own := [("number", 2)]) (N := ["row", "common", "number"]) (sc := defScope s_primitive) (by decide +kernel)) (fun _ _ _ _ _ => pg_name (i := 2) sc_primitive.nd rfl (Or.inl rfl)) (fun _ _ _ _ _ => pts_nil) (fun _ _ _ _ _ => (pe_op EnT.op_fdivB (pv 2) (pv 1)))) pa_nil)))))))), ?_⟩
  obtain ⟨o, ho, hp'⟩ : ∃ o, (o = HO.lst (r.map V.int) ∨ o = HO.tup (r.map V.int)) ∧ H p = some o := hp.elim (fun z => ⟨_, .inl rfl, z⟩) fun z => ⟨_, .inr rfl, z⟩
  have at' : ∀ {H1}, Same H H1 → RowAt H1 p r := fun s1 => hp.same s1
  refine row_walk ho hp' rfl fun J wk => for_it wk (fun i σ H' => ∃ v2, σ = [some (.ref p), some (.int (gcdN r i : Nat)), v2] ∧ H' = H) ⟨_, rfl, rfl⟩ (fun i σ H' _ ⟨_, _, e⟩ => e ▸ hp') ?_ ?_
  · rintro i x σ H1 H2 hi ⟨v2, rfl, rfl⟩ ⟨rfl, hx⟩
    obtain ⟨n, hn, rfl⟩ := get_map hx
    refine ⟨_, rfl, _, rfl, _, n, rfl, ?_⟩
    refine ⟨some (.int n), ?_, rfl⟩
    rw [gcdN_succ hn]
    rfl
  rintro σ H1 ⟨v2, rfl, rfl⟩
  rw [List.length_map, gcdN_all]
  refine ⟨_, rfl, rfl, _, rfl, ite2 (fun e => ?_) (fun e => ?_)⟩
  · rw [dint] at e
    have e : gcdL r = 0 := by have := of_decide_eq_true e; omega
    have er : primL r = r := by unfold primL; rw [if_pos e]
    rw [er] at q
    rcases hp with hp | hp
    · exact ⟨_, rfl, p, _, rfl, .inl ⟨SqL.of hp, fun l nl => q _ l (same_upd nl) upd_same⟩⟩
    · exact ⟨_, rfl, p, _, rfl, .inr ⟨SqT.of hp, q _ p (Same.refl _) hp⟩⟩
  rw [dint] at e
  have e : gcdL r ≠ 0 := fun z => e (by rw [z]; rfl)
  have hll := lead_lt e
  have ix : ∀ {H2 : Hp} {Q2 : VK}, Same H1 H2 → Q2 (.int (co r (leadL r))) H2 → rIx K (.ref p) (.int (leadL r : Nat)) H2 Q2 := fun {H2 Q2} s2 z => by
    rcases hp with hp | hp
    · exact .inl ⟨p, _, _, _, rfl, rfl, SqL.of (s2 _ _ hp), atI_co hll, z⟩
    · exact .inr (.inl ⟨p, _, _, _, rfl, rfl, SqT.of (s2 _ _ hp), atI_co hll, z⟩)
  refine ⟨_, rfl, _, rfl, p, r, rfl, hp, hl, fun H2 s2 => ix s2 ⟨_, _, rfl, rfl, _, rfl, ?_⟩⟩
  -- the list of the parts
  have last : ∀ v2, tRet (tCB (fun xs H Q => ∃ p ys, xs = [.ref p] ∧ ((SqL K H p ys ∧ ∀ l, H l = none → Q (.ref l) (upd H l (.tup ys))) ∨ (SqT K H p ys ∧ Q (.ref p) H)))
      (tCons (tLc (fun σ H R => iList K (tVar 0) σ H R ∨ iTup K (tVar 0) σ H R) (gName 2) tYes (tOp (rI EnT.CDivB fun i j => .int (i.fdiv j)) (tVar 2) (tVar 1)) [2]) tNil))
      { nx := fun x H' => Q V.non H', rt := Q } [some (.ref p), some (.int (LA.signG r)), v2] H2 := fun v2 => by
    refine row_walk ho (s2 _ _ hp') rfl fun J wk D hD => ?_
    refine lc_it wk (fun i H' => Same H2 H' ∧ H' D = some (.lst ((((r.take i).map fun n => n.fdiv (LA.signG r))).map V.int))) ⟨same_upd hD, upd_same⟩ (fun i H' _ h => h.1 _ _ (s2 _ _ hp')) ?_ ?_
    · rintro i x H3 H4 hi ⟨s3, hD3⟩ ⟨rfl, hx⟩
      obtain ⟨n, hn, rfl⟩ := get_map hx
      rw [List.length_map] at hi
      refine ⟨rfl, _, rfl, _, rfl, n, _, rfl, rfl, ⟨signG_ne e, hb.sign⟩, _, hD3, ?_, same_mut s3 hD, ?_⟩
      · rw [List.length_map, List.length_map, List.length_take]
        exact bigLine (by omega)
      · rw [upd_same, List.take_add_one, hn, List.map_append, List.map_append]
        rfl
    · rintro H3 ⟨s3, hD3⟩
      rw [List.length_map, List.take_length] at hD3
      refine ⟨D, _, rfl, .inl ⟨SqL.of hD3, fun l nl => q _ l ((s2.trans s3).trans (same_upd nl)) ?_⟩⟩
      rw [upd_same]
      unfold primL
      rw [if_neg e]
  refine ite2 (fun e2 => ?_) (fun e2 => ?_)
  · have e2 : co r (leadL r) < 0 := of_decide_eq_true e2
    refine ⟨_, rfl, _, rfl, ?_⟩
    have es : LA.signG r = -(gcdL r : Int) := by unfold LA.signG; rw [if_pos e2]
    have := last v2
    rw [es] at this
    exact this
  · have e2 : ¬ co r (leadL r) < 0 := fun z => e2 (decide_eq_true z)
    have es : LA.signG r = (gcdL r : Int) := by unfold LA.signG; rw [if_neg e2]
    have := last v2
    rw [es] at this
    exact this
end
end K41
namespace K41
open PySem PySem.Spec PyProof.Rows L2 LA
/-- what a comprehension asks: a word for its turns -/
abbrev Turns (J : It) (g : TG) (tt : TT) (te : TE) (vs : List Nat) (σ : L2.St) (H0 : Hp) (D : Addr) (Qd : Hp → Prop) : Prop :=
  ∃ Wd : Nat → Nat → Hp → Prop, (∃ k, Wd 0 k (upd H0 D (.lst []))) ∧
    ∀ i k Hi, Wd i k Hi → (J.stop i Hi ∧ Qd Hi) ∨ (J.go i Hi ∧ ∃ Nt : Hp → Prop, (∀ Hj, Nt Hj → ∃ k', k' < k ∧ Wd (i + 1) k' Hj) ∧
      ∀ x Hj, J.yld i Hi x Hj → g x (wipe σ vs) Hj fun σ2 H2 => wipe σ2 vs = wipe σ vs ∧
        tt σ2 H2 fun b H3 => if b = true then te σ2 H3 fun y H4 => ∃ acc, H4 D = some (.lst acc) ∧ acc.length < sizeLine ∧ Nt (upd H4 D (.lst (acc ++ [y]))) else Nt H3)
/-- f of each pair of two rows, in a new list -/
theorem lc_zip {K : PySem.W.Frag} {i j : Nat} {p q D : Addr} {r s : List Int} {f : Int → Int → Int} {te : TE} {vs : List Nat} {σ : L2.St} {H : Hp} {Qd : Hp → Prop}
    (hp : H p = some (.tup (r.map V.int))) (hq : H q = some (.tup (s.map V.int))) (hl : r.length = s.length) (h1 : r.length ≤ 1000) (hD : H D = none) (hw : ∀ u v, wipe (((wipe σ vs).set i u).set j v) vs = wipe σ vs)
    (hs : ∀ (c : Nat) n t H' (Q' : VK), r[c]? = some n → s[c]? = some t → Q' (.int (f n t)) H' → te (((wipe σ vs).set i (some (.int n))).set j (some (.int t))) H' Q') (hd : ∀ H', Same H H' → H' D = some (.lst ((List.zipWith f r s).map V.int)) → Qd H') :
    Turns (RZ.ItzT K p q) (gTup K 2 (gCons (gName i) (gCons (gName j) gNil))) tYes te vs σ H D Qd := by
  refine lc_it (walk_zipT (K := K) (a := p) (b := q) (xs := r.map V.int) (ys := s.map V.int) (by rw [List.length_map, List.length_map]; exact hl)) (fun c H' => Same H H' ∧ H' D = some (.lst (((List.zipWith f r s).take c).map V.int)))
    ⟨same_upd hD, upd_same⟩ (fun c H' _ h => ⟨SqT.of (h.1 _ _ hp), SqT.of (h.1 _ _ hq)⟩) ?_ ?_
  · rintro c z H1 H2 hc ⟨s1, hD1⟩ ⟨T, y1, y2, rfl, nT, rfl, e1, e2⟩
    obtain ⟨n, hn, rfl⟩ := get_map e1
    obtain ⟨t, ht, rfl⟩ := get_map e2
    have hDT : D ≠ T := ne_of_none hD1 nT
    refine ⟨T, _, rfl, SqT.of upd_same, rfl, _, _, rfl, _, _, rfl, rfl, hw _ _, ?_⟩
    refine hs c n t _ _ hn ht ⟨_, by rw [upd_ne hDT]; exact hD1, ?_, same_mut (s1.trans (same_upd nT)) hD, ?_⟩
    · rw [List.length_map, List.length_take, List.length_zipWith]
      exact bigLine (by omega)
    · have hz : (List.zipWith f r s)[c]? = some (f n t) := by rw [List.getElem?_zipWith, hn, ht]
      rw [upd_same, List.take_add_one, hz, List.map_append]
      rfl
  · rintro H1 ⟨s1, hD1⟩
    have : (List.zipWith f r s).take (r.map V.int).length = List.zipWith f r s := List.take_of_length_le (by rw [List.length_zipWith, List.length_map]; omega)
    rw [this] at hD1
    exact hd H1 s1 hD1
def spClear : Sp := fun vs H Q _ => ∃ (p q : Addr) (l : Nat) (r o : List Int) (m n : Nat), vs = [.ref p, .ref q, .int (l : Nat)] ∧ H p = some (.tup (r.map V.int)) ∧ H q = some (.tup (o.map V.int)) ∧ r.length = o.length ∧ r.length ≤ 1000 ∧ l < r.length ∧
  Bd m r ∧ Bd n o ∧ m + n + 1 ≤ 9000 ∧ ∀ H' z, Same H H' → H' z = some (.tup ((clearL r o l).map V.int)) → Q (.ref z) H'
def spRest : Sp := fun vs H Q _ => ∃ (d p : Addr) (T : List (Nat × List Int)) (r : List Int) (m n : Nat), vs = [.ref d, .ref p] ∧ TabAt H d T ∧ H p = some (.tup (r.map V.int)) ∧ (∀ l o, (l, o) ∈ T → o.length = r.length ∧ l < r.length ∧ Bd n o) ∧ r.length ≤ 1000 ∧
  Bd m r ∧ m + T.length * (n + 1) ≤ 9000 ∧ ∀ H' z, Same H H' → H' z = some (.tup ((restL T r).map V.int)) → Q (.ref z) H'
def spJoin : Sp := fun vs H Q _ => ∃ (d p : Addr) (T : List (Nat × List Int)) (r : List Int) (m n : Nat), vs = [.ref d, .ref p] ∧ TabAt H d T ∧ Tab r.length T ∧ H p = some (.tup (r.map V.int)) ∧ (∀ l o, (l, o) ∈ T → Bd n o) ∧ r.length ≤ 1000 ∧
  Bd m r ∧ m + T.length * (n + 1) ≤ 9000 ∧ (T.length < r.length → n + (m + T.length * (n + 1)) + 1 ≤ 9000) ∧ ∀ H' z, Same H H' → TabAt H' z (joinL T r) → Q (.ref z) H'
theorem Bd.wide {n m : Nat} {r : List Int} (h : Bd n r) (k : n ≤ m) {x : Int} (hx : x ∈ r) : x.natAbs < 2 ^ (m + 1) := (h.mono (Nat.le_succ_of_le k)).mem hx
theorem mulOk {x y : Int} {m n : Nat} (hx : x.natAbs < 2 ^ m) (hy : y.natAbs < 2 ^ n) (h : m + n ≤ 900000) : CMulW x y :=
  wide_mul (a := m + 1) (b := n + 1) (Nat.lt_of_lt_of_le hx (Nat.pow_le_pow_right (by decide) (by omega))) (Nat.lt_of_lt_of_le hy (Nat.pow_le_pow_right (by decide) (by omega))) (by omega) (by omega) (by omega)
theorem mem_of_get {r : List Int} {c : Nat} {n : Int} (h : r[c]? = some n) : n ∈ r := List.mem_of_getElem? h
section
variable {P : Program} {w : World} {K : PySem.W.Frag} {mg : Str → Option Value} {base : Heap} {a : Ads}
theorem sc_cleared : FnScope ["row", "other", "lead", "factor", "times", "number", "taken"] ["row", "other", "lead"] (defScope s_cleared) := ⟨rfl, rfl, rfl, by decide +kernel, rfl, by decide +kernel, by decide +kernel⟩
theorem ok_cleared (T : Txt K mg a) : FnOk P w K mg base CX0 3 a.f_cleared a.f_cleared_d ["row", "other", "lead"] spClear := by
  refine T.F_cleared.ok sc_cleared (fun vs H Q E h => ?_) (fun cdv A outer s H vs Q E hr h => ?_)
  · obtain ⟨p, q, l, r, o, m, n, rfl, _⟩ := h
    rfl
  obtain ⟨p, z, l, r, o, m, n, rfl, hp, hz, hl, h1, hlt, hm, hn, hmn, q⟩ := h
  refine ⟨_, (pss_cons (ps_set (i := 3) sc_cleared.nd rfl (Or.inr rfl) (pe_ix ix_tup (pv 1) (pv 2) (fun _ _ => rfl)))
    (pss_cons (ps_set (i := 4) sc_cleared.nd rfl (Or.inr rfl) (pe_ix ix_tup (pv 0) (pv 2) (fun _ _ => rfl)))
    (pss_cons (ps_if (pt_cmpR op_eq (pv 3) pe_int (nomark _))
      (pss_one (ps_ret (pe_callTy call_tuple_of (by rfl) T.tuple (by decide +kernel) (pa_cons (pe_lc (own := [("number", 5), ("taken", 6)]) (g := gTup K 2 (gCons (gName 5) (gCons (gName 6) gNil))) (tt := tYes) (by rfl) sc_cleared.nd (RZ.pi_zipA (by rfl) T.zip (pa_cons (pv 0) (pa_cons (pv 1) pa_nil))) (blkOk_by (own := [("number", 5), ("taken", 6)]) (N := ["row", "other", "lead", "factor", "times", "number", "taken"]) (sc := defScope s_cleared) (by decide +kernel)) (fun _ _ _ _ _ => pg_tup (by rfl) (pgs_cons (pg_name (i := 5) sc_cleared.nd rfl (Or.inl rfl)) (pgs_cons (pg_name (i := 6) sc_cleared.nd rfl (Or.inl rfl)) pgs_nil))) (fun _ _ _ _ _ => pts_nil) (fun _ _ _ _ _ => (pe_op op_sub (pv 5) (pe_op op_mulW (pv 4) (pv 6))))) pa_nil))))
      pss_nil)
    (pss_one (ps_ret (pe_call (ok_primitive T) (hr.mono (by decide)) (by rfl) T.g_primitive T.F_primitive.kp T.b_primitive .nil pass0 (pa_cons (pe_lc (own := [("number", 5), ("taken", 6)]) (g := gTup K 2 (gCons (gName 5) (gCons (gName 6) gNil))) (tt := tYes) (by rfl) sc_cleared.nd (RZ.pi_zipA (by rfl) T.zip (pa_cons (pv 0) (pa_cons (pv 1) pa_nil))) (blkOk_by (own := [("number", 5), ("taken", 6)]) (N := ["row", "other", "lead", "factor", "times", "number", "taken"]) (sc := defScope s_cleared) (by decide +kernel)) (fun _ _ _ _ _ => pg_tup (by rfl) (pgs_cons (pg_name (i := 5) sc_cleared.nd rfl (Or.inl rfl)) (pgs_cons (pg_name (i := 6) sc_cleared.nd rfl (Or.inl rfl)) pgs_nil))) (fun _ _ _ _ _ => pts_nil) (fun _ _ _ _ _ => (pe_op op_sub (pe_op op_mulW (pv 3) (pv 5)) (pe_op op_mulW (pv 4) (pv 6))))) pa_nil))))))), ?_⟩
  refine ⟨_, rfl, _, rfl, z, _, _, _, rfl, rfl, SqT.of hz, atI_co (by omega), _, rfl, _, rfl, p, _, _, _, rfl, rfl, SqT.of hp, atI_co hlt, ?_⟩
  refine ⟨_, rfl, rfl, _, rfl, ite2 (fun e => ?_) (fun e => ?_)⟩
  · rw [dint] at e
    have e : co o l = 1 := of_decide_eq_true e
    refine ⟨_, rfl, _, rfl, p, z, _, _, rfl, .inr ⟨SqT.of hp, SqT.of hz, fun D nD => lc_zip (f := fun n t => n - co r l * t) hp hz hl h1 nD (fun _ _ => rfl) ?_ ?_⟩⟩
    · exact fun c n' t' H' Q' hn' ht' q' => ⟨_, rfl, _, rfl, _, rfl, _, _, rfl, rfl, mulOk (hm l) (hn.mem (mem_of_get ht')) (by omega), _, _, rfl, rfl, q'⟩
    intro H' s1 hD
    refine ⟨D, _, rfl, .inl ⟨SqL.of hD, fun l' nl => q _ l' (s1.trans (same_upd nl)) ?_⟩⟩
    rw [upd_same]
    unfold clearL
    rw [if_pos e]
  · rw [dint] at e
    have e : ¬ co o l = 1 := fun z => e (decide_eq_true z)
    refine ⟨_, rfl, _, rfl, p, z, _, _, rfl, .inr ⟨SqT.of hp, SqT.of hz, fun D nD => lc_zip (f := fun n t => co o l * n - co r l * t) hp hz hl h1 nD (fun _ _ => rfl) ?_ ?_⟩⟩
    · exact fun c n' t' H' Q' hn' ht' q' => ⟨_, rfl, _, rfl, _, _, rfl, rfl, mulOk (hn l) (hm.mem (mem_of_get hn')) (by omega), _, rfl, _, rfl, _, _, rfl, rfl, mulOk (hm l) (hn.mem (mem_of_get ht')) (by omega), _, _, rfl, rfl, q'⟩
    intro H' s1 hD
    refine ⟨D, clearP r o l, rfl, .inl hD, ?_, (Bd.clearP hl hm hn).mono hmn, fun H2 z2 s2 hz2 => q H2 z2 (s1.trans s2) ?_⟩
    · unfold clearP
      rw [List.length_zipWith]
      omega
    · rw [hz2]
      unfold clearL
      rw [if_neg e]
end
end K41
namespace K41
open PySem PySem.Spec PyProof.Rows L2 LA
/-- what a dict comprehension asks: a word for its turns -/
abbrev DTurns (J : It) (g : TG) (tt : TT) (tk tv : TE) (vs : List Nat) (σ : L2.St) (H0 : Hp) (D : Addr) (Qd : Hp → Prop) : Prop :=
  ∃ Wd : Nat → Nat → Hp → Prop, (∃ k, Wd 0 k (upd H0 D (.dK []))) ∧
    ∀ i k Hi, Wd i k Hi → (J.stop i Hi ∧ Qd Hi) ∨ (J.go i Hi ∧ ∃ Nt : Hp → Prop, (∀ Hj, Nt Hj → ∃ k', k' < k ∧ Wd (i + 1) k' Hj) ∧
      ∀ x Hj, J.yld i Hi x Hj → g x (wipe σ vs) Hj fun σ2 H2 => wipe σ2 vs = wipe σ vs ∧
        tt σ2 H2 fun b H3 => if b = true then tk σ2 H3 fun y H4 => tv σ2 H4 fun z H5 => ∃ kvs k, y = kV k ∧ H5 D = some (.dK kvs) ∧ kvs.length < sizeLine ∧ Nt (upd H5 D (.dK (putK kvs k z))) else Nt H3)
theorem dc_it {J : It} {n : Nat} {G : Hp → Prop} {Y : Nat → Hp → V → Hp → Prop} (wk : Walk J n G Y) {g : TG} {tk tv : TE} {vs : List Nat} {σ : L2.St} {H0 : Hp} {D : Addr} {Qd : Hp → Prop} (Pv : Nat → Hp → Prop) (start : Pv 0 (upd H0 D (.dK []))) (stays : ∀ i Hi, Pv i Hi → G Hi)
    (turn : ∀ i x Hi Hj, i < n → Pv i Hi → Y i Hi x Hj → g x (wipe σ vs) Hj fun σ2 H2 => wipe σ2 vs = wipe σ vs ∧
      tk σ2 H2 fun y H4 => tv σ2 H4 fun z H5 => ∃ kvs k, y = kV k ∧ H5 D = some (.dK kvs) ∧ kvs.length < sizeLine ∧ Pv (i + 1) (upd H5 D (.dK (putK kvs k z)))) (after : ∀ Hi, Pv n Hi → Qd Hi) :
    DTurns J g tYes tk tv vs σ H0 D Qd := by
  refine ⟨fun i k Hi => k = n - i ∧ i ≤ n ∧ Pv i Hi, ⟨n, by simp, Nat.zero_le _, start⟩, ?_⟩
  rintro i k Hi ⟨rfl, le, pv⟩
  rcases Nat.lt_or_ge i n with lt | ge
  · exact .inr ⟨wk.goes i Hi lt (stays i Hi pv), Pv (i + 1), fun Hj pj => ⟨n - (i + 1), by omega, rfl, lt, pj⟩, fun x Hj y => turn i x Hi Hj lt pv (wk.yields i Hi x Hj lt (stays i Hi pv) y)⟩
  · obtain rfl : i = n := by omega
    exact .inl ⟨wk.stops Hi (stays i Hi pv), after Hi pv⟩
theorem same_lock {H H1 : Hp} {d : Addr} {od : Obj} {u : HO} (hd : H d = some u) (s : Same (upd H d (.frz od u)) H1) : Same H (upd H1 d u) := fun b x e => by
  by_cases z : b = d
  · subst z
    rw [upd_same, ← e, hd]
  · rw [upd_ne z]
    exact s b x (by rw [upd_ne z]; exact e)
theorem lock_keep {H : Hp} {d b : Addr} {od : Obj} {u x : HO} (hd : H d = some u) (hb : H b = some x) (ne : x ≠ u) : (upd H d (.frz od u)) b = some x := by
  rw [upd_ne (fun z => ne (by
    subst z
    exact Option.some.inj (hb.symm.trans hd)))]
  exact hb
theorem unlock_keep {H1 : Hp} {d b : Addr} {od : Obj} {u x : HO} (hd : H1 d = some (.frz od u)) (hb : H1 b = some x) (ne : ∀ o' u', x ≠ .frz o' u') : (upd H1 d u) b = some x := by
  rw [upd_ne (fun z => ne _ _ (by
    subst z
    exact Option.some.inj (hb.symm.trans hd)))]
  exact hb
theorem RowsAt.imp {H H' : Hp} (k : ∀ b r, H b = some (.tup r) → H' b = some (.tup r)) : ∀ {as : List Addr} {rs : List (List Int)}, RowsAt H as rs → RowsAt H' as rs
  | [], [], _ => trivial
  | _ :: _, _ :: _, h => ⟨k _ _ h.1, RowsAt.imp k h.2⟩
  | [], _ :: _, h => h.elim
  | _ :: _, [], h => h.elim
theorem kvs_put {T : List (Nat × List Int)} {as : List Addr} {p : Nat} (hl : as.length = T.length) (hp : p ∉ keysOf T) (v : V) : putK (kvsOf T as) (Sum.inl (p : Int)) v = kvsOf T as ++ [(Sum.inl (p : Int), v)] := by
  have h := kvs_val p hl
  rw [decide_eq_false hp] at h
  unfold putK
  rw [valV_any, if_neg (by rw [h]; exact Bool.false_ne_true)]
theorem rows_len (T : List (Nat × List Int)) : (rowsOf T).length = T.length := List.length_map _
theorem restL_succ {T : List (Nat × List Int)} {i : Nat} {x : Nat × List Int} (h : T[i]? = some x) (r : List Int) : restL (T.take (i + 1)) r = restS (restL (T.take i) r) x := by
  unfold restL
  rw [List.take_add_one, h, List.foldl_append]
  rfl
section
variable {P : Program} {w : World} {K : PySem.W.Frag} {mg : Str → Option Value} {base : Heap} {a : Ads}
theorem sc_rest_of : FnScope ["table", "row", "rest", "lead", "other"] ["table", "row"] (defScope s_rest_of) := ⟨rfl, rfl, rfl, by decide +kernel, rfl, by decide +kernel, by decide +kernel⟩
theorem ok_rest_of (T : Txt K mg a) : FnOk P w K mg base CX0 4 a.f_rest_of a.f_rest_of_d ["table", "row"] spRest := by
  refine T.F_rest_of.ok sc_rest_of (fun vs H Q E h => ?_) (fun cdv A outer s H vs Q E hr h => ?_)
  · obtain ⟨d, p, T, r, m, n, rfl, _⟩ := h
    rfl
  obtain ⟨d, p, Tb, r, m, n, rfl, ⟨as, hRs, hd⟩, hp, hT, h1, hm, hmn, q⟩ := h
  have hal : as.length = Tb.length := by rw [hRs.len, rows_len]
  refine ⟨_, (pss_cons (ps_set (i := 2) sc_rest_of.nd rfl (Or.inl rfl) (pv 1))
    (pss_cons (ps_lock (ps_for PassesOwn.never rfl (pi_items (pv 0)) (pg_tup (by rfl) (pgs_cons (pg_name (i := 3) sc_rest_of.nd rfl (Or.inl rfl)) (pgs_cons (pg_name (i := 4) sc_rest_of.nd rfl (Or.inl rfl)) pgs_nil)))
      (pss_one (ps_if (pt_cmpR op_ne (pe_ix ix_tup (pv 2) (pv 3) (fun _ _ => rfl)) pe_int (nomark _))
        (pss_one (ps_set (i := 2) sc_rest_of.nd rfl (Or.inl rfl) (pe_call (ok_cleared T) (hr.mono (by decide)) (by rfl) T.g_cleared T.F_cleared.kp T.b_cleared .nil pass0 (pa_cons (pv 2) (pa_cons (pv 4) (pa_cons (pv 3) pa_nil))))))
        pss_nil))))
    (pss_one (ps_ret (pv 2))))), ?_⟩
  refine ⟨_, rfl, d, _, hd, True.intro, fun od => ⟨_, rfl, d, od, _, rfl, upd_same, ?_⟩⟩
  refine for_it walk_items (fun i σ H' => ∃ v3 v4 z, σ = [some (.ref d), some (.ref p), some (.ref z), v3, v4] ∧ Same (upd H d (.frz od (.dK (kvsOf Tb as)))) H' ∧ H' z = some (.tup ((restL (Tb.take i) r).map V.int)))
    ⟨_, _, p, rfl, Same.refl _, lock_keep hd hp (by intro z; cases z)⟩ (fun i σ H' _ ⟨_, _, _, _, s1, _⟩ => s1 _ _ upd_same) ?_ ?_
  · rintro i x σ H1 H2 hi ⟨v3, v4, z, rfl, s1, hz⟩ ⟨T, y1, y2, rfl, nT, rfl, e1, e2⟩
    rw [kvs_len hal] at hi
    obtain ⟨l, o, b, ht, hb, hk⟩ := kvs_get hal hi
    dsimp only at e1 e2
    rw [hk] at e1 e2
    obtain rfl : V.int (l : Int) = y1 := Option.some.inj e1
    obtain rfl : V.ref b = y2 := Option.some.inj e2
    have hmem : (l, o) ∈ Tb := List.mem_of_getElem? ht
    obtain ⟨hol, hlr, hob⟩ := hT l o hmem
    obtain ⟨o', ho', hbt⟩ := hRs.get hb
    have eo : o' = o := by
      unfold rowsOf at ho'
      rw [List.getElem?_map, ht] at ho'
      exact (Option.some.inj ho').symm
    subst eo
    have hb2 : (upd H1 T (.tup [.int (l : Int), .ref b])) b = some (.tup (o'.map V.int)) := same_upd nT _ _ (s1 _ _ (lock_keep hd hbt (by intro z; cases z)))
    have hz2 : (upd H1 T (.tup [.int (l : Int), .ref b])) z = some (.tup ((restL (Tb.take i) r).map V.int)) := same_upd nT _ _ hz
    have hlen : (restL (Tb.take i) r).length = r.length := restL_len (w := r.length) (fun l r m => (hT l r (List.mem_of_mem_take m)).1) rfl
    have hbd : Bd (m + Tb.length * (n + 1)) (restL (Tb.take i) r) := (restL_bd (w := r.length) (T := Tb.take i) (fun l r m => ⟨(hT l r (List.mem_of_mem_take m)).1, (hT l r (List.mem_of_mem_take m)).2.2⟩) rfl hm).mono (by
      have : (Tb.take i).length * (n + 1) ≤ Tb.length * (n + 1) := Nat.mul_le_mul_right _ (by rw [List.length_take]; omega)
      omega)
    have hbi : Bd (m + i * (n + 1)) (restL (Tb.take i) r) := (restL_bd (w := r.length) (T := Tb.take i) (fun l r m => ⟨(hT l r (List.mem_of_mem_take m)).1, (hT l r (List.mem_of_mem_take m)).2.2⟩) rfl hm).mono (by
      have : (Tb.take i).length * (n + 1) ≤ i * (n + 1) := Nat.mul_le_mul_right _ (by rw [List.length_take]; omega)
      omega)
    have hin : m + i * (n + 1) + n + 1 ≤ 9000 := by
      have : (i + 1) * (n + 1) ≤ Tb.length * (n + 1) := Nat.mul_le_mul_right _ hi
      rw [Nat.add_mul] at this
      omega
    have s2 : Same (upd H d (.frz od (.dK (kvsOf Tb as)))) (upd H1 T (.tup [.int (l : Int), .ref b])) := s1.trans (same_upd nT)
    refine ⟨T, _, rfl, SqT.of upd_same, rfl, _, _, rfl, _, _, rfl, rfl, ?_⟩
    refine ⟨_, rfl, _, rfl, z, _, _, _, rfl, rfl, SqT.of hz2, atI_co (by omega), rfl, _, rfl, ite2 (fun e => ?_) (fun e => ?_)⟩
    · rw [dint] at e
      have e : co (restL (Tb.take i) r) l ≠ 0 := by simpa using e
      refine ⟨_, rfl, _, rfl, _, rfl, z, b, l, _, o', m + i * (n + 1), n, rfl, hz2, hb2, by omega, by omega, by omega, hbi, hob, hin, fun H3 z3 s3 hz3 => ⟨_, _, z3, rfl, s2.trans s3, ?_⟩⟩
      rw [hz3, restL_succ ht]
      unfold restS
      rw [if_pos e]
    · rw [dint] at e
      have e : ¬ co (restL (Tb.take i) r) l ≠ 0 := by simpa using e
      refine ⟨_, _, z, rfl, s2, ?_⟩
      rw [hz2, restL_succ ht]
      unfold restS
      rw [if_neg e]
  · rintro σ H1 ⟨v3, v4, z, rfl, s1, hz⟩
    rw [kvs_len hal, List.take_length] at hz
    have hdl := s1 _ _ upd_same
    exact ⟨hdl, _, rfl, q _ z (same_lock hd s1) (unlock_keep hdl hz (by intro _ _ z; cases z))⟩
end
end K41
namespace K41
open PySem PySem.Spec PyProof.Rows L2 LA
def spTab : Sp := fun vs H Q _ => ∃ (p : Addr) (wd : Nat) (as : List Addr) (rows : List (List Int)) (m : Nat), vs = [.ref p, .int (wd : Nat)] ∧ H p = some (.lst (as.map V.ref)) ∧ RowsAt H as rows ∧ (∀ r ∈ rows, r.length = wd ∧ Bd m r) ∧ wd ≤ 1000 ∧ rows.length ≤ 1000 ∧
  bits m (min rows.length wd) ≤ 9000 ∧ m + min rows.length wd * (bits m (min rows.length wd) + 1) ≤ 9000 ∧ ∀ H' z, Same H H' → TabAt H' z (tabL rows) → Q (.ref z) H'
theorem bits_mono (m : Nat) {s t : Nat} (h : s ≤ t) : bits m s ≤ bits m t := by
  induction t with
  | zero => rw [Nat.le_zero.mp h]; exact Nat.le_refl _
  | succ t ih =>
    rcases Nat.lt_or_ge s (t + 1) with z | z
    · have := ih (Nat.le_of_lt_succ z)
      show bits m s ≤ bits m t + (m + t * (bits m t + 1)) + 1
      omega
    · rw [Nat.le_antisymm h z]
      exact Nat.le_refl _
theorem tab_len_n (rows : List (List Int)) (T : List (Nat × List Int)) : (rows.foldl joinL T).length ≤ T.length + rows.length := by
  induction rows generalizing T with
  | nil => exact Nat.le_refl _
  | cons r rs ih =>
    have h := ih (joinL T r)
    rw [List.foldl_cons, List.length_cons]
    rcases join_len T r with e | e <;> omega
theorem tabF_bits {w m : Nat} (rows : List (List Int)) (T : List (Nat × List Int)) (hT : Tab w T) (hb : Bits m T) (hr : ∀ r ∈ rows, r.length = w ∧ Bd m r) : Bits m (rows.foldl joinL T) := by
  induction rows generalizing T with
  | nil => exact hb
  | cons r rs ih => exact ih _ (join_ok hT (hr r (List.mem_cons_self ..)).1).1 (hb.join hT (hr r (List.mem_cons_self ..)).1 (hr r (List.mem_cons_self ..)).2) fun x hx => hr x (List.mem_cons_of_mem _ hx)
theorem tabL_succ {rows : List (List Int)} {i : Nat} {r : List Int} (h : rows[i]? = some r) : tabL (rows.take (i + 1)) = joinL (tabL (rows.take i)) r := by
  unfold tabL
  rw [List.take_add_one, h, List.foldl_append]
  rfl
section
variable {P : Program} {w : World} {K : PySem.W.Frag} {mg : Str → Option Value} {base : Heap} {a : Ads}
theorem sc_joined : FnScope ["table", "row", "rest", "lead", "found", "at", "other"] ["table", "row"] (defScope s_joined) := ⟨rfl, rfl, rfl, by decide +kernel, rfl, by decide +kernel, by decide +kernel⟩
theorem ok_joined (T : Txt K mg a) : FnOk P w K mg base CX0 5 a.f_joined a.f_joined_d ["table", "row"] spJoin := by
  refine T.F_joined.ok sc_joined (fun vs H Q E h => ?_) (fun cdv A outer s H vs Q E hr h => ?_)
  · obtain ⟨d, p, T, r, m, n, rfl, _⟩ := h
    rfl
  obtain ⟨d, p, Tb, r, m, n, rfl, hTab, hT, hp, hn, h1, hm, hm1, hmn, q⟩ := h
  refine ⟨_, (pss_cons (ps_set (i := 2) sc_joined.nd rfl (Or.inr rfl) (pe_call (ok_primitive T) (hr.mono (by decide)) (by rfl) T.g_primitive T.F_primitive.kp T.b_primitive .nil pass0 (pa_cons (pe_call (ok_rest_of T) (hr.mono (by decide)) (by rfl) T.g_rest_of T.F_rest_of.kp T.b_rest_of .nil pass0 (pa_cons (pv 0) (pa_cons (pv 1) pa_nil))) pa_nil)))
    (pss_cons (ps_set (i := 3) sc_joined.nd rfl (Or.inr rfl) (pe_call (ok_lead_of T) (hr.mono (by decide)) (by rfl) T.g_lead_of T.F_lead_of.kp T.b_lead_of .nil pass0 (pa_cons (pv 2) pa_nil)))
    (pss_cons (ps_if (pt_cmpR op_eq (pv 3) (pe_callB call_len_seq (by rfl) T.len PySem.boot_len (pa_cons (pv 2) pa_nil)) (nomark _))
      (pss_one (ps_ret (pv 0)))
      pss_nil)
    (pss_cons (ps_lock (EnT.ps_setDc (i := 4) (own := [("at", 5), ("other", 6)]) (g := gTup K 2 (gCons (gName 5) (gCons (gName 6) gNil))) (tt := tYes) (by rfl) sc_joined.nd rfl rfl (EnT.sw_dict rfl rfl rfl (by decide +kernel)) (pi_items (pv 0)) (blkOk_by (own := [("at", 5), ("other", 6)]) (N := ["table", "row", "rest", "lead", "found", "at", "other"]) (sc := defScope s_joined) (by decide +kernel)) (fun _ _ _ _ _ => pg_tup (by rfl) (pgs_cons (pg_name (i := 5) sc_joined.nd rfl (Or.inl rfl)) (pgs_cons (pg_name (i := 6) sc_joined.nd rfl (Or.inl rfl)) pgs_nil))) (fun _ _ _ _ _ => pts_nil) (fun _ _ _ _ _ => (pv 5)) (fun _ _ _ _ _ => (pe_ifExp (pt_cmpR op_eq (pe_ix (show IxR _ (rIxT K) from ix_tup) (pv 6) (pv 3) (fun _ _ => rfl)) pe_int (nomark _)) (pv 6) (pe_call (ok_primitive T) (hr.mono (by decide)) (by rfl) T.g_primitive T.F_primitive.kp T.b_primitive .nil pass0 (pa_cons (pe_call (ok_cleared T) (hr.mono (by decide)) (by rfl) T.g_cleared T.F_cleared.kp T.b_cleared .nil pass0 (pa_cons (pv 6) (pa_cons (pv 2) (pa_cons (pv 3) pa_nil)))) pa_nil))))))
    (pss_cons (ps_dput (hu_of hr) (pv 4) (pv 3) (pv 2) rfl)
    (pss_one (ps_ret (pv 4)))))))), ?_⟩
  refine ⟨_, rfl, _, rfl, d, p, Tb, r, m, n, rfl, hTab, hp, fun l o mm => ⟨hT.len l o mm, hT.lt mm, hn l o mm⟩, h1, hm, by omega, fun H1 z1 s1 hz1 => ?_⟩
  have hbR : Bd (m + Tb.length * (n + 1)) (restL Tb r) := restL_bd (w := r.length) (fun l o mm => ⟨hT.len l o mm, hn l o mm⟩) rfl hm
  have hlR : (restL Tb r).length = r.length := restL_len (w := r.length) hT.len rfl
  refine ⟨z1, restL Tb r, rfl, .inr hz1, by omega, hbR.mono (by omega), fun H2 z2 s2 hz2 => ?_⟩
  have hlP : (primL (restL Tb r)).length = r.length := (primL_len _).trans hlR
  have hbP : Bd (m + Tb.length * (n + 1)) (primL (restL Tb r)) := hbR.prim
  refine ⟨_, rfl, z2, _, rfl, .inr hz2, by omega, fun H3 s3 => ?_⟩
  have hz3 := s3 _ _ hz2
  have s13 := (s1.trans s2).trans s3
  refine ⟨_, rfl, _, rfl, z2, _, rfl, .inr (SqT.of hz3), rfl, _, rfl, ite2 (fun e => ?_) (fun e => ?_)⟩
  · rw [dint, List.length_map] at e
    have e : leadL (primL (restL Tb r)) = (primL (restL Tb r)).length := by have := of_decide_eq_true e; omega
    have ej : joinL Tb r = Tb := by unfold joinL; rw [if_pos e]
    rw [ej] at q
    exact ⟨_, rfl, q H3 d s13 (hTab.same s13)⟩
  rw [dint, List.length_map] at e
  have e : ¬ leadL (primL (restL Tb r)) = (primL (restL Tb r)).length := fun z => e (decide_eq_true (by rw [z]))
  have hLt : leadL (primL (restL Tb r)) < r.length := by have := leadL_le (primL (restL Tb r)); omega
  have hLk : leadL (primL (restL Tb r)) ∉ keysOf Tb := fun hm => by
    obtain ⟨⟨l, o⟩, m', e'⟩ := List.mem_map.mp hm
    have e' : l = leadL (primL (restL Tb r)) := e'
    obtain ⟨c, hc, ec⟩ := primL_mul (restL Tb r)
    have z := (restL_ok hT rfl).2.2 l o m'
    rw [ec, e'] at z
    exact leadL_at _ (by omega) (mul_zero_or z hc)
  have hmn : n + (m + Tb.length * (n + 1)) + 1 ≤ 9000 := hmn (by
    have h := frees_len hT
    have hm : leadL (primL (restL Tb r)) ∈ freesOf r.length Tb := List.mem_filter.mpr ⟨List.mem_range.mpr hLt, by rw [decide_eq_false hLk]; rfl⟩
    have := List.length_pos_of_mem hm
    omega)
  have ej : joinL Tb r = Tb.map (putS (primL (restL Tb r)) (leadL (primL (restL Tb r)))) ++ [(leadL (primL (restL Tb r)), primL (restL Tb r))] := by unfold joinL; rw [if_neg e]
  rw [ej] at q
  clear ej e
  generalize primL (restL Tb r) = R at *
  generalize leadL R = L at *
  obtain ⟨as, hRs, hd⟩ := hTab.same s13
  have hal : as.length = Tb.length := by rw [hRs.len, rows_len]
  have hbn : n + (m + Tb.length * (n + 1)) + 1 ≤ 9000 := hmn
  refine ⟨d, _, hd, True.intro, fun od => ⟨_, rfl, d, od, _, rfl, upd_same, fun D nD => ?_⟩⟩
  refine dc_it walk_items (fun i H' => ∃ bs, Same (upd H3 d (.frz od (.dK (kvsOf Tb as)))) H' ∧ RowsAt H' bs (rowsOf ((Tb.take i).map (putS R L))) ∧ H' D = some (.dK (kvsOf ((Tb.take i).map (putS R L)) bs)))
    ⟨[], same_upd nD, trivial, upd_same⟩ (fun i H' ⟨_, s, _⟩ => s _ _ upd_same) ?_ ?_
  · rintro i x H4 H5 hi ⟨bs, s4, hbs, hD⟩ ⟨T, y1, y2, rfl, nT, rfl, e1, e2⟩
    rw [kvs_len hal] at hi
    obtain ⟨l, o, b, ht, hb, hk⟩ := kvs_get hal hi
    dsimp only at e1 e2
    rw [hk] at e1 e2
    obtain rfl : V.int (l : Int) = y1 := Option.some.inj e1
    obtain rfl : V.ref b = y2 := Option.some.inj e2
    have hmem : (l, o) ∈ Tb := List.mem_of_getElem? ht
    obtain ⟨o', ho', hbt⟩ := hRs.get hb
    have eo : o' = o := by
      unfold rowsOf at ho'
      rw [List.getElem?_map, ht] at ho'
      exact (Option.some.inj ho').symm
    subst eo
    have s5 : Same H4 (upd H4 T (.tup [.int (l : Int), .ref b])) := same_upd nT
    have s35 : Same (upd H3 d (.frz od (.dK (kvsOf Tb as)))) (upd H4 T (.tup [.int (l : Int), .ref b])) := s4.trans s5
    have hb2 := s35 _ _ (lock_keep hd hbt (by intro z; cases z))
    have hz5 := s35 _ _ (lock_keep (od := od) hd hz3 (by intro z; cases z))
    have hlen := hT.len l o' hmem
    have hbl : bs.length = ((Tb.take i).map (putS R L)).length := by rw [hbs.len, rows_len]
    have hnk : l ∉ keysOf ((Tb.take i).map (putS R L)) := fun hm => by
      obtain ⟨y, my, ey⟩ := List.mem_map.mp hm
      obtain ⟨⟨l', o''⟩, mz, ez⟩ := List.mem_map.mp my
      obtain ⟨j, hj, ej⟩ := List.getElem_of_mem mz
      rw [List.length_take] at hj
      have ej2 : Tb[j]? = some (l', o'') := by
        rw [List.getElem_take] at ej
        rw [List.getElem?_eq_getElem (by omega), ej]
      have el : l' = l := by
        rw [← ey, ← ez]
        rfl
      have h1 : (keysOf Tb)[j]? = some l := by unfold keysOf; rw [List.getElem?_map, ej2, ← el]; rfl
      have h2 : (keysOf Tb)[i]? = some l := by unfold keysOf; rw [List.getElem?_map, ht]; rfl
      have := (List.getElem?_inj (List.getElem?_eq_some_iff.mp h1).1 hT.nodup).mp (h1.trans h2.symm)
      omega
    have next : ∀ (H6 : Hp) (c : Addr), Same (upd H4 T (.tup [.int (l : Int), .ref b])) H6 → H6 c = some (.tup ((putS R L (l, o')).2.map V.int)) → ∃ kvs k, V.int (l : Int) = kV k ∧ H6 D = some (.dK kvs) ∧ kvs.length < sizeLine ∧
        ∃ bs, Same (upd H3 d (.frz od (.dK (kvsOf Tb as)))) (upd H6 D (.dK (putK kvs k (.ref c)))) ∧ RowsAt (upd H6 D (.dK (putK kvs k (.ref c)))) bs (rowsOf ((Tb.take (i + 1)).map (putS R L))) ∧
          (upd H6 D (.dK (putK kvs k (.ref c)))) D = some (.dK (kvsOf ((Tb.take (i + 1)).map (putS R L)) bs)) := fun H6 c s6 hc => by
      have hD6 := s6 _ _ (s5 _ _ hD)
      refine ⟨_, Sum.inl (l : Int), rfl, hD6, ?_, bs ++ [c], same_mut (s35.trans s6) nD, ?_, ?_⟩
      · rw [kvs_len hbl, List.length_map, List.length_take]
        exact bigLine (by have := tab_len_le hT; omega)
      · rw [List.take_add_one, ht, List.map_append]
        unfold rowsOf
        rw [List.map_append]
        refine RowsAt.app (by rw [upd_ne (ne_of hc hD6 (by intro z; cases z))]; exact hc) ?_
        exact ((hbs.same (s5.trans s6)).off hD6 (fun _ z => by cases z))
      · rw [upd_same, kvs_put hbl hnk, List.take_add_one, ht, List.map_append]
        show _ = some (HO.dK (kvsOf (List.map (putS R L) (List.take i Tb) ++ [putS R L (l, o')]) (bs ++ [c])))
        rw [show putS R L (l, o') = (l, (putS R L (l, o')).2) from rfl, kvs_app l _ c hbl]
    refine ⟨T, _, rfl, SqT.of upd_same, rfl, _, _, rfl, _, _, rfl, rfl, rfl, _, rfl, ?_⟩
    refine ⟨_, rfl, _, rfl, b, _, _, _, rfl, rfl, SqT.of hb2, atI_co (by omega), rfl, _, rfl, ite2 (fun e => ?_) (fun e => ?_)⟩
    · rw [dint] at e
      have e : co o' L = 0 := of_decide_eq_true e
      refine ⟨_, rfl, next _ b (Same.refl _) ?_⟩
      rw [hb2]
      unfold putS
      rw [if_pos e]
    · rw [dint] at e
      have e : ¬ co o' L = 0 := fun z => e (decide_eq_true z)
      refine ⟨_, rfl, _, rfl, _, rfl, b, z2, L, o', R, n, m + Tb.length * (n + 1), rfl, hb2, hz5, by omega, by omega, by omega, hn l o' hmem, hbP, hbn, fun H6 z6 s6 hz6 => ?_⟩
      refine ⟨z6, _, rfl, .inr hz6, ?_, ((hn l o' hmem).clear (by omega) hbP).mono hbn, fun H7 z7 s7 hz7 => next H7 z7 (s6.trans s7) ?_⟩
      · rw [clearL_len (by omega)]
        omega
      · rw [hz7]
        unfold putS
        rw [if_neg e]
  · rintro H4 ⟨bs, s4, hbs, hD⟩
    rw [kvs_len hal, List.take_length] at hbs hD
    have hdl := s4 _ _ upd_same
    have hbl : bs.length = (Tb.map (putS R L)).length := by rw [hbs.len, rows_len]
    have hD2 := unlock_keep hdl hD (by intro _ _ z; cases z)
    have hbs2 : RowsAt (upd H4 d (.dK (kvsOf Tb as))) bs (rowsOf (Tb.map (putS R L))) := hbs.imp fun b r hb => unlock_keep hdl hb (by intro _ _ z; cases z)
    have s34 : Same H3 (upd H4 d (.dK (kvsOf Tb as))) := same_lock hd s4
    have nDH : H3 D = none := by
      by_cases z : D = d
      · rw [z, upd_same] at nD
        cases nD
      · rwa [upd_ne z] at nD
    have hLk2 : L ∉ keysOf (Tb.map (putS R L)) := fun hm => by
      obtain ⟨y, my, ey⟩ := List.mem_map.mp hm
      obtain ⟨⟨l', o''⟩, mz, ez⟩ := List.mem_map.mp my
      have el : l' = L := by
        rw [← ey, ← ez]
        rfl
      exact hLk (el ▸ List.mem_map_of_mem (f := (·.1)) mz)
    refine ⟨hdl, ?_⟩
    refine ⟨_, rfl, _, rfl, _, rfl, D, _, rfl, DPut.k (k := Sum.inl (L : Int)) hD2 ?_, ?_⟩
    · rw [kvs_len hbl, List.length_map]
      exact bigLine (by have := tab_len_le hT; omega)
    refine ⟨_, rfl, q _ D (s13.trans (same_mut s34 nDH)) ⟨bs ++ [z2], ?_, ?_⟩⟩
    · unfold rowsOf
      rw [List.map_append]
      have hzz := s34 _ _ hz3
      exact RowsAt.app (by rw [upd_ne (ne_of hzz hD2 (by intro z; cases z))]; exact hzz) (hbs2.off hD2 (fun _ z => by cases z))
    · rw [upd_same, kvs_put hbl hLk2, kvs_app L R z2 hbl]
theorem sc_table_of : FnScope ["rows", "width", "row", "table"] ["rows", "width"] (defScope s_table_of) := ⟨rfl, rfl, rfl, by decide +kernel, rfl, by decide +kernel, by decide +kernel⟩
theorem ok_table_of (T : Txt K mg a) : FnOk P w K mg base CX0 6 a.f_table_of a.f_table_of_d ["rows", "width"] spTab := by
  refine T.F_table_of.ok sc_table_of (fun vs H Q E h => ?_) (fun cdv A outer s H vs Q E hr h => ?_)
  · obtain ⟨p, wd, as, rows, m, rfl, _⟩ := h
    rfl
  obtain ⟨p, wd, as, rows, m, rfl, hp, hRs, hr', hw1, hn1, hbits, hbits2, q⟩ := h
  have hal := hRs.len
  refine ⟨_, (pss_cons (ps_for PassesOwn.never rfl (pi_list (pv 0)) (pg_name (i := 2) sc_table_of.nd rfl (Or.inl rfl))
      (pss_one (ps_if (pt_not (pt_val (pe_call (ok_is_row T) (hr.mono (by decide)) (by rfl) T.g_is_row T.F_is_row.kp T.b_is_row .nil pass0 (pa_cons (pv 2) (pa_cons (pv 1) pa_nil)))))
        (pss_one ps_never)
        pss_nil)))
    (pss_cons (ps_set (i := 3) sc_table_of.nd rfl (Or.inl rfl) pe_dnewK)
    (pss_cons (ps_for PassesOwn.never rfl (pi_list (pv 0)) (pg_name (i := 2) sc_table_of.nd rfl (Or.inl rfl))
      (pss_one (ps_set (i := 3) sc_table_of.nd rfl (Or.inl rfl) (pe_call (ok_joined T) (hr.mono (by decide)) (by rfl) T.g_joined T.F_joined.kp T.b_joined .nil pass0 (pa_cons (pv 3) (pa_cons (pv 2) pa_nil))))))
    (pss_one (ps_ret (pv 3)))))), ?_⟩
  refine ⟨_, rfl, p, rfl, ⟨_, SqL.of hp⟩, for_it (walk_list (K := K) (a := p) (xs := as.map V.ref)) (fun i σ H' => ∃ v2, σ = [some (.ref p), some (.int (wd : Nat)), v2, none] ∧ Same H H') ⟨none, rfl, Same.refl _⟩ (fun i σ H' _ ⟨_, _, s1⟩ => SqL.of (s1 _ _ hp)) ?_ ?_⟩
  · rintro i x σ H1 H2 hi ⟨v2, rfl, s1⟩ ⟨rfl, hx⟩
    obtain ⟨b, hb, rfl⟩ := get_map hx
    obtain ⟨r, hrr, hbt⟩ := hRs.get hb
    obtain ⟨hrl, hrb⟩ := hr' r (List.mem_of_getElem? hrr)
    refine ⟨_, rfl, _, rfl, b, r, by rw [hrl]; rfl, s1 _ _ hbt, by omega, fun H3 s3 => ⟨_, rfl, iteF ?_⟩⟩
    exact ⟨_, rfl, s1.trans s3⟩
  rintro σ H1 ⟨v2, rfl, s1⟩
  intro d0 hd0
  have sd := same_upd (o := .dK []) hd0
  refine ⟨_, rfl, p, rfl, ⟨_, SqL.of (sd _ _ (s1 _ _ hp))⟩, for_it (walk_list (K := K) (a := p) (xs := as.map V.ref)) (fun i σ H' => ∃ v2 d, σ = [some (.ref p), some (.int (wd : Nat)), v2, some (.ref d)] ∧ Same H H' ∧ TabAt H' d (tabL (rows.take i)))
    ⟨v2, d0, rfl, s1.trans sd, [], trivial, upd_same⟩ (fun i σ H' _ ⟨_, _, _, s1, _⟩ => SqL.of (s1 _ _ hp)) ?_ ?_⟩
  · rintro i x σ H1 H2 hi ⟨v2, d, rfl, s1, ht⟩ ⟨rfl, hx⟩
    obtain ⟨b, hb, rfl⟩ := get_map hx
    obtain ⟨r, hrr, hbt⟩ := hRs.get hb
    obtain ⟨hrl, hrb⟩ := hr' r (List.mem_of_getElem? hrr)
    have hpre : ∀ x ∈ rows.take i, x.length = wd ∧ Bd m x := fun x hx => hr' x (List.mem_of_mem_take hx)
    have hT := (tab_ok (w := wd) fun x hx => (hpre x hx).1).1
    have hBt : Bits m (tabL (rows.take i)) := tabF_bits (w := wd) _ _ (.nil wd) (.nil m) hpre
    have hil : i < rows.length := (List.getElem?_eq_some_iff.mp hrr).1
    have hle : (tabL (rows.take i)).length ≤ i := by
      have h := tab_len_n (rows.take i) []
      rw [List.length_take] at h
      have h : (tabL (rows.take i)).length ≤ 0 + min i rows.length := h
      omega
    have hlw := tab_len_le hT
    have hle2 : (tabL (rows.take i)).length ≤ min rows.length wd := by omega
    have hb1 : m + (tabL (rows.take i)).length * (bits m (tabL (rows.take i)).length + 1) ≤ 9000 := by
      have h1 : bits m (tabL (rows.take i)).length + 1 ≤ bits m (min rows.length wd) + 1 := Nat.succ_le_succ (bits_mono m hle2)
      have h2 := Nat.mul_le_mul hle2 h1
      omega
    have hbb : (tabL (rows.take i)).length < r.length → bits m ((tabL (rows.take i)).length + 1) ≤ 9000 := fun h => Nat.le_trans (bits_mono m (by omega)) hbits
    refine ⟨_, rfl, _, rfl, d, b, tabL (rows.take i), r, m, bits m (tabL (rows.take i)).length, rfl, ht, hrl ▸ hT, s1 _ _ hbt, hBt, by omega, hrb, hb1, hbb, fun H3 z3 s3 hz3 => ⟨_, z3, rfl, s1.trans s3, ?_⟩⟩
    rw [tabL_succ hrr]
    exact hz3
  · rintro σ H1 ⟨v2, d, rfl, s1, ht⟩
    rw [List.length_map, hal, List.take_length] at ht
    exact ⟨_, rfl, q H1 d s1 ht⟩
end
end K41
namespace K41
open PySem PySem.Spec PyProof.Rows L2 LA
theorem kvs_keys : ∀ {T : List (Nat × List Int)} {as : List Addr}, as.length = T.length → (kvsOf T as).map (·.1) = ((keysOf T).map fun l => ((l : Nat) : Int)).map Sum.inl
  | [], [], _ => rfl
  | x :: _, _ :: _, h => congrArg (_ :: ·) (kvs_keys (Nat.succ.inj h))
  | [], _ :: _, h => by cases h
  | _ :: _, [], h => by cases h
theorem ints_sorted {T : List (Nat × List Int)} {ys : List Int} (h : ys.Perm ((keysOf T).map fun l => ((l : Nat) : Int))) (s : ys.Pairwise (· ≤ ·)) : ys = (sKeys T).map fun l => ((l : Nat) : Int) := by
  refine List.Perm.eq_of_pairwise (fun a b _ _ x y => Int.le_antisymm x y) s ?_ (h.trans ((sKeys_perm T).map _).symm)
  rw [List.pairwise_map]
  exact (sKeys_sorted T).imp fun h => Int.ofNat_le.mpr h
theorem kvs_row {H : Hp} {l : Nat} : ∀ {T : List (Nat × List Int)} {as : List Addr}, RowsAt H as (rowsOf T) → l ∈ keysOf T → ∃ b, valV (kvsOf T as) (Sum.inl (l : Int)) = some (.ref b) ∧ H b = some (.tup ((getRow T l).map V.int))
  | x :: T, a :: as, h, m => by
    have ih := kvs_row (l := l) (T := T) (as := as) h.2
    unfold valV getRow at ih ⊢
    unfold kvsOf
    rw [List.find?_cons, List.find?_cons]
    by_cases e : x.1 = l
    · have h1 : decide ((Sum.inl (x.1 : Int) : Key) = Sum.inl (l : Int)) = true := decide_eq_true (by rw [e])
      have h2 : (x.1 == l) = true := beq_iff_eq.mpr e
      rw [h1, h2]
      exact ⟨a, rfl, h.1⟩
    · have h1 : decide ((Sum.inl (x.1 : Int) : Key) = Sum.inl (l : Int)) = false := decide_eq_false fun z => e (Int.ofNat.inj (Sum.inl.inj z))
      have h2 : (x.1 == l) = false := beq_eq_false_iff_ne.mpr e
      rw [h1, h2]
      exact ih ((List.mem_cons.mp m).resolve_left fun z => e z.symm)
  | [], _, _, m => by cases m
  | _ :: _, [], h, _ => h.elim
def spRowsOf : Sp := fun vs H Q _ => ∃ (d : Addr) (T : List (Nat × List Int)), vs = [.ref d] ∧ TabAt H d T ∧ T.length < 64 ∧ ∀ H' z as, Same H H' → H z = none → H' z = some (.lst (as.map V.ref)) → RowsAt H' as (sRows T) → Q (.ref z) H'
/-- rows in a list, small enough -/
def RIn (H : Hp) (p : Addr) (wd : Nat) (rows : List (List Int)) (m : Nat) : Prop := ∃ as : List Addr, H p = some (.lst (as.map V.ref)) ∧ RowsAt H as rows ∧ (∀ r ∈ rows, r.length = wd ∧ Bd m r) ∧ wd ≤ 60 ∧ rows.length ≤ 1000 ∧
  bits m (min rows.length wd) ≤ 9000 ∧ m + min rows.length wd * (bits m (min rows.length wd) + 1) ≤ 9000
theorem RIn.tab {H : Hp} {p : Addr} {wd m : Nat} {rows : List (List Int)} (h : RIn H p wd rows m) : Tab wd (tabL rows) := by
  obtain ⟨as, _, _, hr, _⟩ := h
  exact (tab_ok (w := wd) fun x hx => (hr x hx).1).1
def spReduced : Sp := fun vs H Q _ => ∃ (p : Addr) (wd : Nat) (rows : List (List Int)) (m : Nat), vs = [.ref p, .int (wd : Nat)] ∧ RIn H p wd rows m ∧ ∀ H' z as, Same H H' → H z = none → H' z = some (.lst (as.map V.ref)) → RowsAt H' as (sRows (tabL rows)) → Q (.ref z) H'
/-! ### what is no integer, what is no row -/
def Odd (H : Hp) (v : V) : Prop := (∃ x, v = .bl x) ∨ (∃ x, v = .str x) ∨ ∃ a xs, v = .ref a ∧ H a = some (.tup xs)
theorem Odd.same {H H' : Hp} {v : V} (s : Same H H') (h : Odd H v) : Odd H' v := by
  rcases h with h | h | ⟨a, xs, e, h⟩
  · exact .inl h
  · exact .inr (.inl h)
  · exact .inr (.inr ⟨a, xs, e, s _ _ h⟩)
def BadRow (H : Hp) (x : V) (wd : Nat) : Prop := x = .non ∨ (∃ i, x = .int i) ∨ (∃ a xs, x = .ref a ∧ H a = some (.lst xs)) ∨ (∃ a xs, x = .ref a ∧ H a = some (.tup xs) ∧ xs.length ≠ wd ∧ xs.length ≤ 1000) ∨
  ∃ a v, x = .ref a ∧ H a = some (.tup (List.replicate wd v)) ∧ 1 ≤ wd ∧ wd ≤ 1000 ∧ Odd H v
def spIsIntN : Sp := fun vs H Q _ => ∃ v, vs = [v] ∧ Odd H v ∧ Q (.bl false) H
def spIntsN : Sp := fun vs H Q _ => ∃ (p : Addr) (v : V) (n : Nat), vs = [.ref p] ∧ H p = some (.tup (List.replicate n v)) ∧ 1 ≤ n ∧ n ≤ 1000 ∧ Odd H v ∧ ∀ H', Same H H' → Q (.bl false) H'
def spIsRowN : Sp := fun vs H Q _ => ∃ (x : V) (wd : Nat), vs = [x, .int (wd : Nat)] ∧ BadRow H x wd ∧ ∀ H', Same H H' → Q (.bl false) H'
section
variable {P : Program} {w : World} {K : PySem.W.Frag} {mg : Str → Option Value} {base : Heap} {a : Ads}
theorem sc_rows_of_table : FnScope ["table", "lead"] ["table"] (defScope s_rows_of_table) := ⟨rfl, rfl, rfl, by decide +kernel, rfl, by decide +kernel, by decide +kernel⟩
theorem ok_rows_of_table (T : Txt K mg a) : FnOk P w K mg base CX0 1 a.f_rows_of_table a.f_rows_of_table_d ["table"] spRowsOf := by
  refine T.F_rows_of_table.ok sc_rows_of_table (fun vs H Q E h => ?_) (fun cdv A outer s H vs Q E hr h => ?_)
  · obtain ⟨d, T, rfl, _⟩ := h
    rfl
  obtain ⟨d, Tb, rfl, ⟨as, hRs, hd⟩, h64, q⟩ := h
  have hal : as.length = Tb.length := by rw [hRs.len, rows_len]
  refine ⟨_, (pss_one (ps_ret (pe_lc (own := [("lead", 1)]) (g := gName 1) (tt := tYes) (by rfl) sc_rows_of_table.nd (pi_list (pe_callB (call_sortedDI rfl) (by rfl) T.sorted (by decide +kernel) (pa_cons (pv 0) pa_nil))) (blkOk_by (own := [("lead", 1)]) (N := ["table", "lead"]) (sc := defScope s_rows_of_table) (by decide +kernel)) (fun _ _ _ _ _ => pg_name (i := 1) sc_rows_of_table.nd rfl (Or.inl rfl)) (fun _ _ _ _ _ => pts_nil) (fun _ _ _ _ _ => (pe_dget (hu_of hr) (pv 0) (pv 1) (fun _ _ => rfl)))))), ?_⟩
  refine ⟨_, rfl, d, _, _, rfl, .inl hd, kvs_keys hal, by rw [List.length_map]; unfold keysOf; rw [List.length_map]; exact h64, fun ys p hperm hsort np => ?_⟩
  obtain rfl := ints_sorted hperm hsort
  have s1 : Same H (upd H p (.lst (((sKeys Tb).map fun l => ((l : Nat) : Int)).map V.int))) := same_upd np
  have hp : (upd H p (.lst (((sKeys Tb).map fun l => ((l : Nat) : Int)).map V.int))) p = some (.lst (((sKeys Tb).map fun l => ((l : Nat) : Int)).map V.int)) := upd_same
  refine ⟨p, rfl, ⟨_, SqL.of hp⟩, fun D nD => ?_⟩
  generalize (upd H p (.lst (((sKeys Tb).map fun l => ((l : Nat) : Int)).map V.int))) = H1 at s1 hp nD ⊢
  refine lc_it (walk_list (K := K) (a := p) (xs := ((sKeys Tb).map fun l => ((l : Nat) : Int)).map V.int)) (fun i H' => ∃ bs : List Addr, Same H1 H' ∧ H' D = some (.lst (bs.map V.ref)) ∧ RowsAt H' bs (((sKeys Tb).take i).map (getRow Tb)))
    ⟨[], same_upd nD, upd_same, trivial⟩ (fun i H' _ ⟨_, s, _⟩ => SqL.of (s _ _ hp)) ?_ ?_
  · rintro i x H2 H3 hi ⟨bs, s2, hD, hbs⟩ ⟨rfl, hx⟩
    obtain ⟨n, hn, rfl⟩ := get_map hx
    obtain ⟨l, hl, rfl⟩ := get_map hn
    have hlk : l ∈ keysOf Tb := (sKeys_perm Tb).mem_iff.mp (List.mem_of_getElem? hl)
    obtain ⟨b, hv, hb⟩ := kvs_row (hRs.same (s1.trans s2)) hlk
    have hbl : bs.length = min i (sKeys Tb).length := by rw [hbs.len, List.length_map, List.length_take]
    refine ⟨rfl, _, rfl, _, rfl, ?_⟩
    refine ⟨d, .ref b, rfl, hv ▸ DGet.k (k := Sum.inl (l : Int)) (s2 _ _ (s1 _ _ hd)), ?_⟩
    refine ⟨_, hD, ?_, bs ++ [b], same_mut s2 nD, by rw [upd_same, List.map_append]; rfl, ?_⟩
    · rw [List.length_map, hbl]
      exact bigLine (by have := sKeys_len Tb; omega)
    · rw [List.take_add_one, hl, List.map_append]
      exact RowsAt.app (by rw [upd_ne (ne_of hb hD (by intro z; cases z))]; exact hb) (hbs.off hD (fun _ z => by cases z))
  · rintro H2 ⟨bs, s2, hD, hbs⟩
    rw [List.length_map, List.length_map, List.take_length] at hbs
    exact q _ D bs (s1.trans s2) (s1.free nD) hD hbs
theorem sc_reduced : FnScope ["rows", "width"] ["rows", "width"] (defScope s_reduced) := ⟨rfl, rfl, rfl, by decide +kernel, rfl, by decide +kernel, by decide +kernel⟩
theorem ok_reduced (T : Txt K mg a) : FnOk P w K mg base CX0 7 a.f_reduced a.f_reduced_d ["rows", "width"] spReduced := by
  refine T.F_reduced.ok sc_reduced (fun vs H Q E h => ?_) (fun cdv A outer s H vs Q E hr h => ?_)
  · obtain ⟨p, wd, rows, m, rfl, _⟩ := h
    rfl
  obtain ⟨p, wd, rows, m, rfl, hR, q⟩ := h
  have hT := hR.tab
  obtain ⟨as, hp, hRs, hr', hw, hn, hb1, hb2⟩ := hR
  have hlw := tab_len_le hT
  refine ⟨_, (pss_one (ps_ret (pe_call (ok_rows_of_table T) (hr.mono (by decide)) (by rfl) T.g_rows_of_table T.F_rows_of_table.kp T.b_rows_of_table .nil pass0 (pa_cons (pe_call (ok_table_of T) (hr.mono (by decide)) (by rfl) T.g_table_of T.F_table_of.kp T.b_table_of .nil pass0 (pa_cons (pv 0) (pa_cons (pv 1) pa_nil))) pa_nil)))), ?_⟩
  refine ⟨_, rfl, _, rfl, p, wd, as, rows, m, rfl, hp, hRs, hr', by omega, hn, hb1, hb2, fun H1 d s1 hd => ?_⟩
  exact ⟨d, tabL rows, rfl, hd, by omega, fun H2 z as2 s2 nz hz hzs => q H2 z as2 (s1.trans s2) (s1.free nz) hz hzs⟩
theorem sc_is_integer' : True := trivial
theorem ok_is_integerN (T : Txt K mg a) : FnOk P w K mg base CX0 1 a.f_is_integer a.f_is_integer_d ["value"] spIsIntN := by
  refine T.F_is_integer.ok sc_is_integer (fun vs H Q E h => ?_) (fun cdv A outer s H vs Q E hr h => ?_)
  · obtain ⟨v, rfl, _⟩ := h
    rfl
  obtain ⟨v, rfl, ho, q⟩ := h
  refine ⟨_, (pss_one (ps_ret (pe_and (pe_callB call_isi (by rfl) T.isinstance (by decide +kernel) (pa_cons (pv 0) (pa_cons (pe_bltn (v := .ty "int") (by rfl) T.int (by decide +kernel) rfl) pa_nil))) (pe_one (pe_not (pe_callB call_isi (by rfl) T.isinstance (by decide +kernel) (pa_cons (pv 0) (pa_cons (pe_bltn (v := .ty "bool") (by rfl) T.bool (by decide +kernel) rfl) pa_nil)))))))), ?_⟩
  rcases ho with ⟨x, rfl⟩ | ⟨x, rfl⟩ | ⟨p, xs, rfl, hp⟩
  · refine ⟨_, rfl, .bl x, .ty "int", .type "bool", .type "int", true, rfl, .ty "int", .base (.bl x), kit_ty (by decide +kernel), _, rfl, ite2 (fun _ => ?_) (fun e => absurd rfl e)⟩
    exact ⟨_, rfl, .bl x, .ty "bool", .type "bool", .type "bool", true, rfl, .ty "bool", .base (.bl x), kit_ty (by decide +kernel), _, rfl, q⟩
  · exact ⟨_, rfl, .str x, .ty "int", .type "str", .type "int", false, rfl, .ty "int", .base (.str x), kit_ty (by decide +kernel), _, rfl, ite2 (fun e => absurd e (by decide)) (fun _ => q)⟩
  · exact ⟨_, rfl, .ref p, .ty "int", .type "tuple", .type "int", false, rfl, .ty "int", .base (.tup hp), kit_ty (by decide +kernel), _, rfl, ite2 (fun e => absurd e (by decide)) (fun _ => q)⟩
theorem ok_are_integersN (T : Txt K mg a) : FnOk P w K mg base CX0 2 a.f_are_integers a.f_are_integers_d ["values"] spIntsN := by
  refine T.F_are_integers.ok sc_are_integers (fun vs H Q E h => ?_) (fun cdv A outer s H vs Q E hr h => ?_)
  · obtain ⟨p, v, n, rfl, _⟩ := h
    rfl
  obtain ⟨p, v, n, rfl, hp, hn, hl, ho, q⟩ := h
  refine ⟨_, (pss_one (ps_ret (pe_callB (cr_all rfl) (by rfl) T.all (by decide +kernel) (pa_cons (pe_lc (own := [("value", 1)]) (g := gName 1) (tt := tYes) (by rfl) sc_are_integers.nd (pi_tup (pv 0)) (blkOk_by (own := [("value", 1)]) (N := ["values", "value"]) (sc := defScope s_are_integers) (by decide +kernel)) (fun _ _ _ _ _ => pg_name (i := 1) sc_are_integers.nd rfl (Or.inl rfl)) (fun _ _ _ _ _ => pts_nil) (fun _ _ _ _ _ => (pe_call (ok_is_integerN T) (hr.mono (by decide)) (by rfl) T.g_is_integer T.F_is_integer.kp T.b_is_integer .nil pass0 (pa_cons (pv 1) pa_nil)))) pa_nil)))), ?_⟩
  refine ⟨_, rfl, p, rfl, ⟨_, SqT.of hp⟩, fun D hD => ?_⟩
  refine lc_it (walk_tup (K := K) (a := p) (xs := List.replicate n v)) (fun i H' => Same H H' ∧ H' D = some (.lst ((List.replicate i false).map V.bl))) ⟨same_upd hD, upd_same⟩ (fun i H' _ h => SqT.of (h.1 _ _ hp)) ?_ ?_
  · rintro i x H1 H2 hi ⟨s1, hD1⟩ ⟨rfl, hx⟩
    rw [List.length_replicate] at hi
    obtain rfl : v = x := by
      rw [List.getElem?_replicate, if_pos hi] at hx
      exact Option.some.inj hx
    refine ⟨rfl, _, rfl, v, rfl, ho.same s1, _, hD1, ?_, same_mut s1 hD, ?_⟩
    · rw [List.length_map, List.length_replicate]
      exact bigLine (by omega)
    · rw [upd_same, List.replicate_succ', List.map_append]
      rfl
  · rintro H1 ⟨s1, hD1⟩
    refine ⟨D, _, rfl, SqL.of hD1, ?_⟩
    have e : (List.replicate (List.replicate n v).length false).all id = false := by
      rw [List.length_replicate]
      obtain ⟨n, rfl⟩ : ∃ n', n = n' + 1 := ⟨n - 1, by omega⟩
      rfl
    rw [e]
    exact q H1 s1
theorem ok_is_rowN (T : Txt K mg a) : FnOk P w K mg base CX0 3 a.f_is_row a.f_is_row_d ["value", "width"] spIsRowN := by
  refine T.F_is_row.ok sc_is_row (fun vs H Q E h => ?_) (fun cdv A outer s H vs Q E hr h => ?_)
  · obtain ⟨x, wd, rfl, _⟩ := h
    rfl
  obtain ⟨x, wd, rfl, ho, q⟩ := h
  refine ⟨_, (pss_one (ps_ret (pe_and (pe_callB call_isi (by rfl) T.isinstance (by decide +kernel) (pa_cons (pv 0) (pa_cons (pe_bltn (v := .ty "tuple") (by rfl) T.tuple (by decide +kernel) rfl) pa_nil))) (pe_and (pe_cmpR op_eq (pe_callB call_len_seq (by rfl) T.len PySem.boot_len (pa_cons (pv 0) pa_nil)) (pv 1) (nomark _)) (pe_one (pe_call (ok_are_integersN T) (hr.mono (by decide)) (by rfl) T.g_are_integers T.F_are_integers.kp T.b_are_integers .nil pass0 (pa_cons (pv 0) pa_nil))))))), ?_⟩
  rcases ho with rfl | ⟨i, rfl⟩ | ⟨p, xs, rfl, hp⟩ | ⟨p, xs, rfl, hp, hne, hl⟩ | ⟨p, v, rfl, hp, hn, hl, ho⟩
  · exact ⟨_, rfl, .non, .ty "tuple", .type "NoneType", .type "tuple", false, rfl, .ty "tuple", .base .non, kit_ty (by decide +kernel), _, rfl, ite2 (fun e => absurd e (by decide)) (fun _ => q _ (Same.refl _))⟩
  · exact ⟨_, rfl, .int i, .ty "tuple", .type "int", .type "tuple", false, rfl, .ty "tuple", .base (.int i), kit_ty (by decide +kernel), _, rfl, ite2 (fun e => absurd e (by decide)) (fun _ => q _ (Same.refl _))⟩
  · exact ⟨_, rfl, .ref p, .ty "tuple", .type "list", .type "tuple", false, rfl, .ty "tuple", .base (.lst hp), kit_ty (by decide +kernel), _, rfl, ite2 (fun e => absurd e (by decide)) (fun _ => q _ (Same.refl _))⟩
  · refine ⟨_, rfl, .ref p, .ty "tuple", .type "tuple", .type "tuple", true, rfl, .ty "tuple", .base (.tup hp), kit_ty (by decide +kernel), _, rfl, ite2 (fun _ => ?_) (fun e => absurd rfl e)⟩
    refine ⟨_, rfl, p, _, rfl, .inr (SqT.of hp), _, rfl, rfl, _, rfl, ite2 (fun e => ?_) (fun e => ?_)⟩
    · rw [dint] at e
      have := of_decide_eq_true e
      omega
    · exact q _ (Same.refl _)
  · refine ⟨_, rfl, .ref p, .ty "tuple", .type "tuple", .type "tuple", true, rfl, .ty "tuple", .base (.tup hp), kit_ty (by decide +kernel), _, rfl, ite2 (fun _ => ?_) (fun e => absurd rfl e)⟩
    refine ⟨_, rfl, p, _, rfl, .inr (SqT.of hp), _, rfl, rfl, _, rfl, ite2 (fun _ => ?_) (fun e => absurd (by rw [List.length_replicate]; exact decide_eq_true rfl) e)⟩
    exact ⟨_, rfl, p, v, wd, rfl, hp, hn, hl, ho, q⟩
end
end K41
namespace K41
open PySem PySem.Spec PyProof.Rows L2 LA
/-! ### rows as data -/
def dRow (r : List Int) : PyData := .tuple (r.map PyData.int)
def dRows (rs : List (List Int)) : PyData := .list (rs.map dRow)
theorem lay_ints : ∀ r : List Int, PyData.canLayAll0 (r.map PyData.int) = true
  | [] => by simp only [List.map_nil, PyData.canLayAll0]
  | x :: xs => by simp only [List.map_cons, PyData.canLayAll0, PyData.canLay0, lay_ints xs, Bool.and_self]
theorem depth_ints : ∀ r : List Int, PyData.depthAll (r.map PyData.int) = 0
  | [] => by simp only [List.map_nil, PyData.depthAll]
  | x :: xs => by simp only [List.map_cons, PyData.depthAll, PyData.depth, depth_ints xs, Nat.max_self]
theorem shaped_row (r : List Int) : SeqAt.shaped (dRow r) = true := by
  unfold SeqAt.shaped dRow
  have h2 : PyData.depth (.tuple (r.map PyData.int)) ≤ 64 := by simp only [PyData.depth, depth_ints]; omega
  rw [decide_eq_true h2, Bool.and_true]
  simp only [PyData.canLay0]
  exact lay_ints r
theorem dp_ints {K : PySem.W.Frag} {H : Hp} : ∀ r : List Int, DpAll K H (r.map V.int) (r.map PyData.int)
  | [] => .nil
  | x :: xs => .cons (.int x) (dp_ints xs)
theorem eqv_ints : ∀ r s : List Int, PyData.eqvAll (r.map PyData.int) (s.map PyData.int) = decide (r = s)
  | [], [] => by simp only [List.map_nil, PyData.eqvAll, decide_true]
  | [], y :: ys => by simp [PyData.eqvAll]
  | x :: xs, [] => by simp [PyData.eqvAll]
  | x :: xs, y :: ys => by
    simp only [List.map_cons, PyData.eqvAll, PyData.eqv, eqv_ints xs ys]
    by_cases h : x = y <;> by_cases k : xs = ys <;> simp [h, k]
theorem eqv_row (r s : List Int) : PyData.eqv (dRow r) (dRow s) = decide (r = s) := by
  unfold dRow
  simp only [PyData.eqv]
  exact eqv_ints r s
theorem getRow_mem {w : Nat} {T : List (Nat × List Int)} (hT : Tab w T) {l : Nat} (h : l ∈ keysOf T) (r : List Int) : decide (r = getRow T l) = decide ((l, r) ∈ T) := by
  obtain ⟨s, m⟩ := mem_key h
  rw [getRow_of hT m]
  by_cases e : r = s
  · subst e
    rw [decide_eq_true rfl, decide_eq_true m]
  · rw [decide_eq_false e, decide_eq_false fun z => e (hT.same z m)]
/-- the two dicts, key by key -/
theorem hits_tab {K : PySem.W.Frag} {H : Hp} {w : Nat} {T' : List (Nat × List Int)} {as' : List Addr} (hT' : Tab w T') (hR' : RowsAt H as' (rowsOf T')) : ∀ {T : List (Nat × List Int)} {as : List Addr}, RowsAt H as (rowsOf T) →
    OwT.HitV K H (kvsOf T' as') (kvsOf T as) (T.all fun x => decide (x ∈ T'))
  | [], [], _ => .nil
  | x :: T, a :: as, h => by
    have hal : as'.length = T'.length := by rw [hR'.len, rows_len]
    have ih := hits_tab (K := K) hT' hR' (T := T) (as := as) h.2
    obtain ⟨l, r⟩ := x
    rw [List.all_cons]
    by_cases hm : l ∈ keysOf T'
    · obtain ⟨b, hv, hb⟩ := kvs_row hR' hm
      have e := eqv_row r (getRow T' l)
      rw [getRow_mem hT' hm] at e
      rw [← e]
      exact .hit hv (.tup (SqT.of h.1) (dp_ints _)) (.tup (SqT.of hb) (dp_ints _)) (shaped_row _) (shaped_row _) ih
    · have hv := kvs_val l hal
      rw [decide_eq_false hm] at hv
      have hx : decide ((l, r) ∈ T') = false := decide_eq_false fun z => hm (key_mem z)
      rw [hx, Bool.false_and]
      refine .miss ?_
      cases z : valV (kvsOf T' as') (Sum.inl (l : Int)) with
      | none => rfl
      | some y => rw [z] at hv; cases hv
  | [], _ :: _, h => h.elim
  | _ :: _, [], h => h.elim
/-! ### spaces -/
def SpAt (a : Ads) (H : Hp) (x : Addr) (wd : Nat) (T : List (Nat × List Int)) : Prop := ∃ dx d, H x = some (.ins a.c_Space dx [("_width", .int (wd : Nat)), ("_table", .ref d)]) ∧ TabAt H d T
theorem SpAt.same {a : Ads} {H H' : Hp} (s : Same H H') {x : Addr} {wd : Nat} {T : List (Nat × List Int)} (h : SpAt a H x wd T) : SpAt a H' x wd T := by
  obtain ⟨dx, d, e, t⟩ := h
  exact ⟨dx, d, s _ _ e, t.same s⟩
def TB (n : Nat) (T : List (Nat × List Int)) : Prop := ∀ l o, (l, o) ∈ T → Bd n o
def spInit (a : Ads) : Sp := fun vs H Q _ => ∃ (x dx p : Addr) (wd : Nat) (rows : List (List Int)) (m : Nat), vs = [.ref x, .int (wd : Nat), .ref p] ∧ 1 ≤ wd ∧ H x = some (.ins a.c_Space dx []) ∧ RIn H p wd rows m ∧
  ∀ H', (∀ b o, H b = some o → b ≠ x → H' b = some o) → SpAt a H' x wd (tabL rows) → Q .non H'
def spWidth (a : Ads) : Sp := fun vs H Q _ => ∃ (x : Addr) (wd : Nat) (T : List (Nat × List Int)), vs = [.ref x] ∧ SpAt a H x wd T ∧ Q (.int (wd : Nat)) H
def spRowsP (a : Ads) : Sp := fun vs H Q _ => ∃ (x : Addr) (wd : Nat) (T : List (Nat × List Int)), vs = [.ref x] ∧ SpAt a H x wd T ∧ T.length < 64 ∧ ∀ H' z as, Same H H' → H z = none → H' z = some (.lst (as.map V.ref)) → RowsAt H' as (sRows T) → Q (.ref z) H'
def spSpan : Sp := fun vs H Q _ => ∃ (d p : Addr) (T : List (Nat × List Int)) (r : List Int) (m n : Nat), vs = [.ref d, .ref p] ∧ TabAt H d T ∧ H p = some (.tup (r.map V.int)) ∧ (∀ l o, (l, o) ∈ T → o.length = r.length ∧ l < r.length ∧ Bd n o) ∧ r.length ≤ 1000 ∧
  Bd m r ∧ m + T.length * (n + 1) ≤ 9000 ∧ ∀ H', Same H H' → Q (.bl (decide (leadL (restL T r) = r.length))) H'
def spHas (a : Ads) : Sp := fun vs H Q _ => ∃ (x p : Addr) (wd : Nat) (T : List (Nat × List Int)) (r : List Int) (m n : Nat), vs = [.ref x, .ref p] ∧ SpAt a H x wd T ∧ Tab wd T ∧ H p = some (.tup (r.map V.int)) ∧ r.length = wd ∧ wd ≤ 1000 ∧ Bd m r ∧ TB n T ∧ m + T.length * (n + 1) ≤ 9000 ∧
  ∀ H', Same H H' → Q (.bl (decide (leadL (restL T r) = wd))) H'
def spHasN (a : Ads) : Sp := fun vs H Q _ => ∃ (x : Addr) (y : V) (wd : Nat) (T : List (Nat × List Int)), vs = [.ref x, y] ∧ SpAt a H x wd T ∧ BadRow H y wd ∧ ∀ H', Same H H' → Q (.bl false) H'
def spLenS (a : Ads) : Sp := fun vs H Q _ => ∃ (x : Addr) (wd : Nat) (T : List (Nat × List Int)), vs = [.ref x] ∧ SpAt a H x wd T ∧ Q (.int (T.length : Nat)) H
def spBoolS (a : Ads) : Sp := fun vs H Q _ => ∃ (x : Addr) (wd : Nat) (T : List (Nat × List Int)), vs = [.ref x] ∧ SpAt a H x wd T ∧ Q (.bl (!T.isEmpty)) H
def spEqS (a : Ads) : Sp := fun vs H Q _ => ∃ (x y : Addr) (wd wd' : Nat) (T T' : List (Nat × List Int)), vs = [.ref x, .ref y] ∧ SpAt a H x wd T ∧ SpAt a H y wd' T' ∧ Tab wd' T' ∧ Q (.bl (decide (wd = wd') && eqTab T T')) H
def NoSp (H : Hp) (y : V) : Prop := y = .non ∨ (∃ i, y = .int i) ∨ (∃ p xs, y = .ref p ∧ H p = some (.lst xs)) ∨ ∃ p xs, y = .ref p ∧ H p = some (.tup xs)
def spEqN (a : Ads) : Sp := fun vs H Q _ => ∃ (x : Addr) (y : V), vs = [.ref x, y] ∧ NoSp H y ∧ Q (.bl false) H
def spFits (a : Ads) : Sp := fun vs H Q _ => ∃ (x y : Addr) (wd : Nat) (T T' : List (Nat × List Int)), vs = [.ref x, .ref y] ∧ SpAt a H x wd T ∧ SpAt a H y wd T' ∧ Q (.bl true) H
def spOr (a : Ads) : Sp := fun vs H Q _ => ∃ (x y : Addr) (wd : Nat) (T T' : List (Nat × List Int)) (m : Nat), vs = [.ref x, .ref y] ∧ SpAt a H x wd T ∧ SpAt a H y wd T' ∧ Tab wd T ∧ Tab wd T' ∧ TB m T ∧ TB m T' ∧ 1 ≤ wd ∧ wd ≤ 60 ∧
  bits m (min (T.length + T'.length) wd) ≤ 9000 ∧ m + min (T.length + T'.length) wd * (bits m (min (T.length + T'.length) wd) + 1) ≤ 9000 ∧
  ∀ H' z, Same H H' → H z = none → SpAt a H' z wd (tabL (sRows T ++ sRows T')) → Q (.ref z) H'
def spWithin (a : Ads) : Sp := fun vs H Q _ => ∃ (x y : Addr) (wd : Nat) (T T' : List (Nat × List Int)) (m n : Nat), vs = [.ref x, .ref y] ∧ SpAt a H x wd T ∧ SpAt a H y wd T' ∧ Tab wd T ∧ Tab wd T' ∧ TB m T ∧ TB n T' ∧ wd ≤ 60 ∧ m + T'.length * (n + 1) ≤ 9000 ∧
  ∀ H', Same H H' → Q (.bl ((sRows T).all fun r => decide (leadL (restL T' r) = wd))) H'
theorem isEmpty_kvs {T : List (Nat × List Int)} {as : List Addr} (h : as.length = T.length) : (kvsOf T as).isEmpty = T.isEmpty := by
  have := kvs_len h
  cases T with
  | nil => cases as with
    | nil => rfl
    | cons => cases h
  | cons x xs => cases as with
    | nil => cases h
    | cons => rfl
theorem tyS {K : PySem.W.Frag} {mg : Str → Option Value} {a : Ads} (T : Txt K mg a) {H : Hp} {x dx : Addr} {fs : List (Str × V)} (h : H x = some (.ins a.c_Space dx fs)) : TyX K H (.ref x) (.ref a.c_Space) := .base (.ins h T.cl_Space T.ca T.cg T.ck T.mo)
theorem app_len (T T' : List (Nat × List Int)) : (sRows T ++ sRows T').length = T.length + T'.length := by rw [List.length_append, sRows_len, sRows_len]
theorem row_facts {wd n : Nat} {T : List (Nat × List Int)} (hT : Tab wd T) (hn : TB n T) {r : List Int} (h : r ∈ sRows T) : r.length = wd ∧ Bd n r := by
  obtain ⟨⟨l, s⟩, m, e⟩ := List.mem_map.mp ((sRows_mem hT r).mp h)
  have e : s = r := e
  subst e
  exact ⟨hT.len l s m, hn l s m⟩
theorem RowsAt.append {H : Hp} : ∀ {as bs : List Addr} {rs ss : List (List Int)}, RowsAt H as rs → RowsAt H bs ss → RowsAt H (as ++ bs) (rs ++ ss)
  | [], _, [], _, _, h => h
  | _ :: _, _, _ :: _, _, h, k => ⟨h.1, RowsAt.append h.2 k⟩
  | [], _, _ :: _, _, h, _ => h.elim
  | _ :: _, _, [], _, h, _ => h.elim
section
variable {P : Program} {w : World} {K : PySem.W.Frag} {mg : Str → Option Value} {base : Heap} {a : Ads}
theorem sc_is_spanned : FnScope ["table", "row"] ["table", "row"] (defScope s_is_spanned) := ⟨rfl, rfl, rfl, by decide +kernel, rfl, by decide +kernel, by decide +kernel⟩
theorem ok_is_spanned (T : Txt K mg a) : FnOk P w K mg base CX0 5 a.f_is_spanned a.f_is_spanned_d ["table", "row"] spSpan := by
  refine T.F_is_spanned.ok sc_is_spanned (fun vs H Q E h => ?_) (fun cdv A outer s H vs Q E hr h => ?_)
  · obtain ⟨d, p, T, r, m, n, rfl, _⟩ := h
    rfl
  obtain ⟨d, p, Tb, r, m, n, rfl, ht, hp, hT, hw, hm, hb, q⟩ := h
  refine ⟨_, (pss_one (ps_ret (pe_cmpR op_eq (pe_call (ok_lead_of T) (hr.mono (by decide)) (by rfl) T.g_lead_of T.F_lead_of.kp T.b_lead_of .nil pass0 (pa_cons (pe_call (ok_rest_of T) (hr.mono (by decide)) (by rfl) T.g_rest_of T.F_rest_of.kp T.b_rest_of .nil pass0 (pa_cons (pv 0) (pa_cons (pv 1) pa_nil))) pa_nil)) (pe_callB call_len_seq (by rfl) T.len PySem.boot_len (pa_cons (pv 1) pa_nil)) (nomark _)))), ?_⟩
  refine ⟨_, rfl, _, rfl, d, p, Tb, r, m, n, rfl, ht, hp, hT, hw, hm, hb, fun H2 z s2 hz => ?_⟩
  have hlR : (restL Tb r).length = r.length := restL_len (w := r.length) (fun l o mm => (hT l o mm).1) rfl
  refine ⟨z, restL Tb r, rfl, .inr hz, by omega, fun H3 s3 => ?_⟩
  refine ⟨_, rfl, p, _, rfl, .inr (SqT.of (s3 _ _ (s2 _ _ hp))), rfl, ?_⟩
  rw [dint]
  have e : decide ((leadL (restL Tb r) : Int) = ((r.map V.int).length : Int)) = decide (leadL (restL Tb r) = r.length) := by
    rw [List.length_map]
    by_cases z : leadL (restL Tb r) = r.length
    · rw [decide_eq_true z, decide_eq_true (by omega)]
    · rw [decide_eq_false z, decide_eq_false (by omega)]
  rw [e]
  exact q H3 (s2.trans s3)
theorem sc_Space___init__ : FnScope ["self", "width", "rows"] ["self", "width", "rows"] (defScope s_Space___init__) := ⟨rfl, rfl, rfl, by decide +kernel, rfl, by decide +kernel, by decide +kernel⟩
theorem ok_Space___init__ (T : Txt K mg a) : FnOk P w K mg base CX0 7 a.f_Space___init__ a.f_Space___init___d ["self", "width", "rows"] (spInit a) := by
  refine T.F_Space___init__.ok sc_Space___init__ (fun vs H Q E h => ?_) (fun cdv A outer s H vs Q E hr h => ?_)
  · obtain ⟨x, dx, p, wd, rows, m, rfl, _⟩ := h
    rfl
  obtain ⟨x, dx, p, wd, rows, m, rfl, hw1, hx, ⟨as, hp, hRs, hr', hw, hn, hb1, hb2⟩, q⟩ := h
  refine ⟨_, (pss_cons (ps_if (PW.pt (pw_or (pt_not (pt_val (pe_call (ok_is_integer T) (hr.mono (by decide)) (by rfl) T.g_is_integer T.F_is_integer.kp T.b_is_integer .nil pass0 (pa_cons (pv 1) pa_nil)))) (pw_or1 (pt_cmpR op_lt (pv 1) pe_int (nomark _)))))
      (pss_one ps_never)
      pss_nil)
    (pss_cons (ps_fld (pv 0) (pv 1) rfl)
    (pss_one (ps_fld (pv 0) (pe_call (ok_table_of T) (hr.mono (by decide)) (by rfl) T.g_table_of T.F_table_of.kp T.b_table_of .nil pass0 (pa_cons (pv 2) (pa_cons (pv 1) pa_nil))) rfl)))), ?_⟩
  have hpx : p ≠ x := ne_of hp hx (by intro z; cases z)
  refine ⟨_, rfl, (wd : Int), rfl, ⟨_, rfl, iteF ⟨_, rfl, _, _, rfl, rfl, _, rfl, ite2 (fun e => ?_) (fun _ => ?_)⟩⟩⟩
  · exfalso
    have := of_decide_eq_true e
    omega
  refine ⟨_, rfl, _, rfl, x, _, dx, [], rfl, hx, T.cl_Space, T.n_Space__width, by decide, ?_⟩
  have hx2 : (upd H x (.ins a.c_Space dx (putF "_width" (.int (wd : Nat)) []))) x = some (.ins a.c_Space dx (putF "_width" (.int (wd : Nat)) [])) := upd_same
  have k1 : ∀ b o, H b = some o → b ≠ x → (upd H x (.ins a.c_Space dx (putF "_width" (.int (wd : Nat)) []))) b = some o := fun b o e n => by rw [upd_ne n]; exact e
  have hRs2 : RowsAt (upd H x (.ins a.c_Space dx (putF "_width" (.int (wd : Nat)) []))) as rows := hRs.off hx (fun _ z => by cases z)
  refine ⟨_, rfl, _, rfl, p, wd, as, rows, m, rfl, by rw [upd_ne hpx]; exact hp, hRs2, hr', by omega, hn, hb1, hb2, fun H1 d s1 hd => ⟨_, rfl, x, _, dx, _, rfl, s1 _ _ hx2, T.cl_Space, T.n_Space__table, (show 1 < 1000 by decide), ?_⟩⟩
  have hx3 := s1 _ _ hx2
  refine q _ (fun b o e n => by rw [upd_ne n]; exact s1 _ _ (k1 b o e n)) ⟨dx, d, upd_same, ?_⟩
  obtain ⟨bs, hbs, hdd⟩ := hd
  exact ⟨bs, hbs.off hx3 (fun _ z => by cases z), by rw [upd_ne (ne_of hdd hx3 (by intro z; cases z))]; exact hdd⟩
theorem sc_Space_width : FnScope ["self"] ["self"] (defScope s_Space_width) := ⟨rfl, rfl, rfl, by decide +kernel, rfl, by decide +kernel, by decide +kernel⟩
theorem ok_Space_width (T : Txt K mg a) : FnOk P w K mg base CX0 1 a.f_Space_width a.f_Space_width_d ["self"] (spWidth a) := by
  refine T.F_Space_width.ok sc_Space_width (fun vs H Q E h => ?_) (fun cdv A outer s H vs Q E hr h => ?_)
  · obtain ⟨x, wd, T, rfl, _⟩ := h
    rfl
  obtain ⟨x, wd, Tb, rfl, ⟨dx, d, hx, ht⟩, q⟩ := h
  refine ⟨_, (pss_one (ps_ret (pe_fld (pv 0) rfl))), ?_⟩
  exact ⟨_, rfl, x, _, dx, _, _, rfl, hx, T.cl_Space, T.n_Space__width, rfl, q⟩
theorem sc_Space_rows : FnScope ["self"] ["self"] (defScope s_Space_rows) := ⟨rfl, rfl, rfl, by decide +kernel, rfl, by decide +kernel, by decide +kernel⟩
theorem ok_Space_rows (T : Txt K mg a) : FnOk P w K mg base CX0 2 a.f_Space_rows a.f_Space_rows_d ["self"] (spRowsP a) := by
  refine T.F_Space_rows.ok sc_Space_rows (fun vs H Q E h => ?_) (fun cdv A outer s H vs Q E hr h => ?_)
  · obtain ⟨x, wd, T, rfl, _⟩ := h
    rfl
  obtain ⟨x, wd, Tb, rfl, ⟨dx, d, hx, ht⟩, h64, q⟩ := h
  refine ⟨_, (pss_one (ps_ret (pe_call (ok_rows_of_table T) (hr.mono (by decide)) (by rfl) T.g_rows_of_table T.F_rows_of_table.kp T.b_rows_of_table .nil pass0 (pa_cons (pe_fld (pv 0) rfl) pa_nil)))), ?_⟩
  exact ⟨_, rfl, x, _, dx, _, _, rfl, hx, T.cl_Space, T.n_Space__table, rfl, d, Tb, rfl, ht, h64, q⟩
theorem sc_Space___contains__ : FnScope ["self", "x"] ["self", "x"] (defScope s_Space___contains__) := ⟨rfl, rfl, rfl, by decide +kernel, rfl, by decide +kernel, by decide +kernel⟩
theorem ok_Space___contains__ (T : Txt K mg a) : FnOk P w K mg base CX0 6 a.f_Space___contains__ a.f_Space___contains___d ["self", "x"] (spHas a) := by
  refine T.F_Space___contains__.ok sc_Space___contains__ (fun vs H Q E h => ?_) (fun cdv A outer s H vs Q E hr h => ?_)
  · obtain ⟨x, p, wd, T, r, m, n, rfl, _⟩ := h
    rfl
  obtain ⟨x, p, wd, Tb, r, m, n, rfl, ⟨dx, d, hx, ht⟩, hT, hp, hrw, hw, hm, hn, hb, q⟩ := h
  refine ⟨_, (pss_one (ps_ret (pe_and (pe_call (ok_is_row T) (hr.mono (by decide)) (by rfl) T.g_is_row T.F_is_row.kp T.b_is_row .nil pass0 (pa_cons (pv 1) (pa_cons (pe_fld (pv 0) rfl) pa_nil))) (pe_one (pe_call (ok_is_spanned T) (hr.mono (by decide)) (by rfl) T.g_is_spanned T.F_is_spanned.kp T.b_is_spanned .nil pass0 (pa_cons (pe_fld (pv 0) rfl) (pa_cons (pv 1) pa_nil))))))), ?_⟩
  refine ⟨_, rfl, _, rfl, x, _, dx, _, _, rfl, hx, T.cl_Space, T.n_Space__width, rfl, p, r, by rw [hrw]; rfl, hp, by omega, fun H1 s1 => ⟨_, rfl, ite2 (fun _ => ?_) (fun e => absurd rfl e)⟩⟩
  refine ⟨_, rfl, x, _, dx, _, _, rfl, s1 _ _ hx, T.cl_Space, T.n_Space__table, rfl, _, rfl, d, p, Tb, r, m, n, rfl, ht.same s1, s1 _ _ hp, fun l o mm => ⟨by rw [hT.len l o mm, hrw], by rw [hrw]; exact hT.lt mm, hn l o mm⟩, by omega, hm, hb, fun H2 s2 => ?_⟩
  rw [hrw]
  exact q H2 (s1.trans s2)
theorem ok_Space___contains__N (T : Txt K mg a) : FnOk P w K mg base CX0 6 a.f_Space___contains__ a.f_Space___contains___d ["self", "x"] (spHasN a) := by
  refine T.F_Space___contains__.ok sc_Space___contains__ (fun vs H Q E h => ?_) (fun cdv A outer s H vs Q E hr h => ?_)
  · obtain ⟨x, y, wd, T, rfl, _⟩ := h
    rfl
  obtain ⟨x, y, wd, Tb, rfl, ⟨dx, d, hx, ht⟩, hy, q⟩ := h
  refine ⟨_, (pss_one (ps_ret (pe_and (pe_call (ok_is_rowN T) (hr.mono (by decide)) (by rfl) T.g_is_row T.F_is_row.kp T.b_is_row .nil pass0 (pa_cons (pv 1) (pa_cons (pe_fld (pv 0) rfl) pa_nil))) (pe_one (pe_call (ok_is_spanned T) (hr.mono (by decide)) (by rfl) T.g_is_spanned T.F_is_spanned.kp T.b_is_spanned .nil pass0 (pa_cons (pe_fld (pv 0) rfl) (pa_cons (pv 1) pa_nil))))))), ?_⟩
  exact ⟨_, rfl, _, rfl, x, _, dx, _, _, rfl, hx, T.cl_Space, T.n_Space__width, rfl, y, wd, rfl, hy, fun H1 s1 => ⟨_, rfl, ite2 (fun e => absurd e (by decide)) (fun _ => q H1 s1)⟩⟩
theorem sc_Space___len__ : FnScope ["self"] ["self"] (defScope s_Space___len__) := ⟨rfl, rfl, rfl, by decide +kernel, rfl, by decide +kernel, by decide +kernel⟩
theorem ok_Space___len__ (T : Txt K mg a) : FnOk P w K mg base CX0 1 a.f_Space___len__ a.f_Space___len___d ["self"] (spLenS a) := by
  refine T.F_Space___len__.ok sc_Space___len__ (fun vs H Q E h => ?_) (fun cdv A outer s H vs Q E hr h => ?_)
  · obtain ⟨x, wd, T, rfl, _⟩ := h
    rfl
  obtain ⟨x, wd, Tb, rfl, ⟨dx, d, hx, as, hRs, hd⟩, q⟩ := h
  refine ⟨_, (pss_one (ps_ret (pe_callB call_lenD (by rfl) T.len (by decide +kernel) (pa_cons (pe_fld (pv 0) rfl) pa_nil)))), ?_⟩
  refine ⟨_, rfl, x, _, dx, _, _, rfl, hx, T.cl_Space, T.n_Space__table, rfl, d, _, rfl, hd, ?_⟩
  rw [kvs_len (by rw [hRs.len, rows_len])]
  exact q
theorem sc_Space___bool__ : FnScope ["self"] ["self"] (defScope s_Space___bool__) := ⟨rfl, rfl, rfl, by decide +kernel, rfl, by decide +kernel, by decide +kernel⟩
theorem ok_Space___bool__ (T : Txt K mg a) : FnOk P w K mg base CX0 1 a.f_Space___bool__ a.f_Space___bool___d ["self"] (spBoolS a) := by
  refine T.F_Space___bool__.ok sc_Space___bool__ (fun vs H Q E h => ?_) (fun cdv A outer s H vs Q E hr h => ?_)
  · obtain ⟨x, wd, T, rfl, _⟩ := h
    rfl
  obtain ⟨x, wd, Tb, rfl, ⟨dx, d, hx, as, hRs, hd⟩, q⟩ := h
  refine ⟨_, (pss_one (ps_ret (pe_callTy OwT.cr_boolD (by rfl) T.bool (by decide +kernel) (pa_cons (pe_fld (pv 0) rfl) pa_nil)))), ?_⟩
  refine ⟨_, rfl, x, _, dx, _, _, rfl, hx, T.cl_Space, T.n_Space__table, rfl, d, _, rfl, hd, ?_⟩
  rw [isEmpty_kvs (by rw [hRs.len, rows_len])]
  exact q
theorem sc_Space___eq__ : FnScope ["self", "other"] ["self", "other"] (defScope s_Space___eq__) := ⟨rfl, rfl, rfl, by decide +kernel, rfl, by decide +kernel, by decide +kernel⟩
theorem ok_Space___eq__ (T : Txt K mg a) : FnOk P w K mg base CX0 1 a.f_Space___eq__ a.f_Space___eq___d ["self", "other"] (spEqS a) := by
  refine T.F_Space___eq__.ok sc_Space___eq__ (fun vs H Q E h => ?_) (fun cdv A outer s H vs Q E hr h => ?_)
  · obtain ⟨x, y, wd, wd', T, T', rfl, _⟩ := h
    rfl
  obtain ⟨x, y, wd, wd', Tb, Tc, rfl, ⟨dx, d, hx, as, hRs, hd⟩, ⟨dy, e, hy, bs, hRs', he⟩, hT', q⟩ := h
  refine ⟨_, (pss_one (ps_ret (pe_and (pe_callB call_isi (by rfl) T.isinstance (by decide +kernel) (pa_cons (pv 1) (pa_cons (pe_glob (v := .ref a.c_Space) rfl T.mg_Space rfl) pa_nil))) (pe_and (pe_cmpR op_eq (pe_fld (pv 0) rfl) (pe_fld (pv 1) rfl) (nomark _)) (pe_one (pe_cmpR (OwT.op_eqDD (OwT.hu66 hr)) (pe_fld (pv 0) rfl) (pe_fld (pv 1) rfl) (nomark _))))))), ?_⟩
  refine ⟨_, rfl, .ref y, .ref a.c_Space, .ref a.c_Space, .ref a.c_Space, true, rfl, .own _, tyS T hy, OwT.kit_self, _, rfl, ite2 (fun _ => ?_) (fun e => absurd rfl e)⟩
  refine ⟨_, rfl, x, _, dx, _, _, rfl, hx, T.cl_Space, T.n_Space__width, rfl, _, rfl, y, _, dy, _, _, rfl, hy, T.cl_Space, T.n_Space__width, rfl, rfl, _, rfl, ite2 (fun e => ?_) (fun e => ?_)⟩
  · rw [dint] at e
    have e : wd = wd' := by have := of_decide_eq_true e; omega
    rw [decide_eq_true e, Bool.true_and] at q
    refine ⟨_, rfl, x, _, dx, _, _, rfl, hx, T.cl_Space, T.n_Space__table, rfl, _, rfl, y, _, dy, _, _, rfl, hy, T.cl_Space, T.n_Space__table, rfl, ?_⟩
    refine ⟨_, _, _, _, _, rfl, rfl, hd, he, hits_tab hT' hRs' hRs, ?_⟩
    rw [kvs_len (by rw [hRs.len, rows_len]), kvs_len (by rw [hRs'.len, rows_len])]
    exact q
  · rw [dint] at e
    have e : ¬ wd = wd' := fun z => e (decide_eq_true (by rw [z]))
    rw [decide_eq_false e, Bool.false_and] at q
    exact q
theorem ok_Space___eq__N (T : Txt K mg a) : FnOk P w K mg base CX0 1 a.f_Space___eq__ a.f_Space___eq___d ["self", "other"] (spEqN a) := by
  refine T.F_Space___eq__.ok sc_Space___eq__ (fun vs H Q E h => ?_) (fun cdv A outer s H vs Q E hr h => ?_)
  · obtain ⟨x, y, rfl, _⟩ := h
    rfl
  obtain ⟨x, y, rfl, hy, q⟩ := h
  refine ⟨_, (pss_one (ps_ret (pe_and (pe_callB call_isi (by rfl) T.isinstance (by decide +kernel) (pa_cons (pv 1) (pa_cons (pe_glob (v := .ref a.c_Space) rfl T.mg_Space rfl) pa_nil))) (pe_and (pe_cmpR op_eq (pe_fld (pv 0) rfl) (pe_fld (pv 1) rfl) (nomark _)) (pe_one (pe_cmpR (OwT.op_eqDD (OwT.hu66 hr)) (pe_fld (pv 0) rfl) (pe_fld (pv 1) rfl) (nomark _))))))), ?_⟩
  have ic : OwT.IsCls K a.c_Space := ⟨by obtain ⟨cd, hc, _⟩ := PySem.W.any_some T.cl_Space.hd; rw [hc]; rfl, T.ct⟩
  rcases hy with rfl | ⟨i, rfl⟩ | ⟨p, xs, rfl, hp⟩ | ⟨p, xs, rfl, hp⟩
  · exact ⟨_, rfl, .non, .ref a.c_Space, .type "NoneType", .ref a.c_Space, false, rfl, .own _, .base .non, OwT.kit_no ic OwT.mro_non rfl, _, rfl, ite2 (fun e => absurd e (by decide)) (fun _ => q)⟩
  · exact ⟨_, rfl, .int i, .ref a.c_Space, .type "int", .ref a.c_Space, false, rfl, .own _, .base (.int i), OwT.kit_no ic OwT.mro_int rfl, _, rfl, ite2 (fun e => absurd e (by decide)) (fun _ => q)⟩
  · exact ⟨_, rfl, .ref p, .ref a.c_Space, .type "list", .ref a.c_Space, false, rfl, .own _, .base (.lst hp), OwT.kit_no ic OwT.mro_list rfl, _, rfl, ite2 (fun e => absurd e (by decide)) (fun _ => q)⟩
  · exact ⟨_, rfl, .ref p, .ref a.c_Space, .type "tuple", .ref a.c_Space, false, rfl, .own _, .base (.tup hp), OwT.kit_no ic OwT.mro_tuple rfl, _, rfl, ite2 (fun e => absurd e (by decide)) (fun _ => q)⟩
theorem sc_Space__fits : FnScope ["self", "other"] ["self", "other"] (defScope s_Space__fits) := ⟨rfl, rfl, rfl, by decide +kernel, rfl, by decide +kernel, by decide +kernel⟩
theorem ok_Space__fits (T : Txt K mg a) : FnOk P w K mg base CX0 1 a.f_Space__fits a.f_Space__fits_d ["self", "other"] (spFits a) := by
  refine T.F_Space__fits.ok sc_Space__fits (fun vs H Q E h => ?_) (fun cdv A outer s H vs Q E hr h => ?_)
  · obtain ⟨x, y, wd, T, T', rfl, _⟩ := h
    rfl
  obtain ⟨x, y, wd, Tb, Tc, rfl, ⟨dx, d, hx, ht⟩, ⟨dy, e, hy, ht'⟩, q⟩ := h
  refine ⟨_, (pss_one (ps_ret (pe_and (pe_callB call_isi (by rfl) T.isinstance (by decide +kernel) (pa_cons (pv 1) (pa_cons (pe_glob (v := .ref a.c_Space) rfl T.mg_Space rfl) pa_nil))) (pe_one (pe_cmpR op_eq (pe_fld (pv 0) rfl) (pe_fld (pv 1) rfl) (nomark _)))))), ?_⟩
  refine ⟨_, rfl, .ref y, .ref a.c_Space, .ref a.c_Space, .ref a.c_Space, true, rfl, .own _, tyS T hy, OwT.kit_self, _, rfl, ite2 (fun _ => ?_) (fun e => absurd rfl e)⟩
  refine ⟨_, rfl, x, _, dx, _, _, rfl, hx, T.cl_Space, T.n_Space__width, rfl, _, rfl, y, _, dy, _, _, rfl, hy, T.cl_Space, T.n_Space__width, rfl, rfl, ?_⟩
  rw [decide_eq_true rfl]
  exact q
theorem sc_Space___or__ : FnScope ["self", "other"] ["self", "other"] (defScope s_Space___or__) := ⟨rfl, rfl, rfl, by decide +kernel, rfl, by decide +kernel, by decide +kernel⟩
theorem ok_Space___or__ (T : Txt K mg a) : FnOk P w K mg base CX0 9 a.f_Space___or__ a.f_Space___or___d ["self", "other"] (spOr a) := by
  refine T.F_Space___or__.ok sc_Space___or__ (fun vs H Q E h => ?_) (fun cdv A outer s H vs Q E hr h => ?_)
  · obtain ⟨x, y, wd, T, T', m, rfl, _⟩ := h
    rfl
  obtain ⟨x, y, wd, Tb, Tc, m, rfl, hX, hY, hT, hT', hn, hn', hw1, hw, hb1, hb2, q⟩ := h
  have hlw := tab_len_le hT
  have hlw' := tab_len_le hT'
  obtain ⟨dx, d, hx, ht⟩ := id hX
  obtain ⟨dy, e, hy, ht'⟩ := id hY
  refine ⟨_, (pss_cons (ps_if (pt_not (pt_val (pe_meth (pv 0) T.cl_Space T.m_Space__fits (ok_Space__fits T) (hr.mono (by decide)) T.b_Space__fits .nil pass0 (pa_cons (pv 1) pa_nil))))
      (pss_one ps_never)
      pss_nil)
    (pss_one (ps_ret (pe_make T.mk_Space (ok_Space___init__ T) (hr.mono (by decide)) (by rfl) T.mg_Space T.b_Space___init__ .nil pass0 (pa_cons (pe_fld (pv 0) rfl) (pa_cons (pe_op op_cat (pe_call (ok_rows_of_table T) (hr.mono (by decide)) (by rfl) T.g_rows_of_table T.F_rows_of_table.kp T.b_rows_of_table .nil pass0 (pa_cons (pe_fld (pv 0) rfl) pa_nil)) (pe_call (ok_rows_of_table T) (hr.mono (by decide)) (by rfl) T.g_rows_of_table T.F_rows_of_table.kp T.b_rows_of_table .nil pass0 (pa_cons (pe_fld (pv 1) rfl) pa_nil))) pa_nil)))))), ?_⟩
  refine ⟨_, rfl, x, dx, _, rfl, hx, rfl, _, rfl, x, y, wd, Tb, Tc, rfl, hX, hY, ⟨_, rfl, iteF ?_⟩⟩
  refine ⟨_, rfl, x, _, dx, _, _, rfl, hx, T.cl_Space, T.n_Space__width, rfl, ?_⟩
  refine ⟨_, rfl, x, _, dx, _, _, rfl, hx, T.cl_Space, T.n_Space__table, rfl, d, Tb, rfl, ht, by omega, fun H1 z1 as s1 nz1 hz1 hr1 => ?_⟩
  refine ⟨_, rfl, y, _, dy, _, _, rfl, s1 _ _ hy, T.cl_Space, T.n_Space__table, rfl, e, Tc, rfl, ht'.same s1, by omega, fun H2 z2 bs s2 nz2 hz2 hr2 => ?_⟩
  have hz1' := s2 _ _ hz1
  have hra := hr1.same s2
  refine ⟨z1, z2, _, _, rfl, rfl, hz1', hz2, ?_, fun z3 nz3 => ?_⟩
  · rw [List.length_map, List.length_map, hra.len, hr2.len, sRows_len, sRows_len]
    exact Nat.le_of_lt (bigLine (by omega))
  rw [← List.map_append]
  have s3 : Same H2 (upd H2 z3 (.lst ((as ++ bs).map V.ref))) := same_upd nz3
  have hz3 : (upd H2 z3 (.lst ((as ++ bs).map V.ref))) z3 = some (.lst ((as ++ bs).map V.ref)) := upd_same
  generalize (upd H2 z3 (.lst ((as ++ bs).map V.ref))) = H3 at s3 hz3 ⊢
  intro x' dx' nx' nd' hne
  have s4 : Same H3 (upd (upd H3 dx' (.own x')) x' (.ins a.c_Space dx' [])) := (same_upd nd').trans (same_upd (by rw [upd_ne (Ne.symm hne)]; exact nx'))
  have s13 := (s1.trans s2).trans s3
  refine ⟨x', dx', z3, wd, sRows Tb ++ sRows Tc, m, rfl, hw1, upd_same, ⟨as ++ bs, s4 _ _ hz3, ((hra.same s3).append (hr2.same s3)).same s4, fun r hr => ?_, hw, by rw [app_len]; omega, by rw [app_len]; exact hb1, by rw [app_len]; exact hb2⟩, fun H5 k5 hS5 => ⟨rfl, q H5 x' (fun b o eb => k5 b o (s4 _ _ (s13 _ _ eb)) (ne_of_none eb (s13.free nx'))) (s13.free nx') hS5⟩⟩
  rcases List.mem_append.mp hr with hr | hr
  · exact row_facts hT hn hr
  · exact row_facts hT' hn' hr
theorem sc_Space_is_within : FnScope ["self", "other", "row"] ["self", "other"] (defScope s_Space_is_within) := ⟨rfl, rfl, rfl, by decide +kernel, rfl, by decide +kernel, by decide +kernel⟩
theorem ok_Space_is_within (T : Txt K mg a) : FnOk P w K mg base CX0 8 a.f_Space_is_within a.f_Space_is_within_d ["self", "other"] (spWithin a) := by
  refine T.F_Space_is_within.ok sc_Space_is_within (fun vs H Q E h => ?_) (fun cdv A outer s H vs Q E hr h => ?_)
  · obtain ⟨x, y, wd, T, T', m, n, rfl, _⟩ := h
    rfl
  obtain ⟨x, y, wd, Tb, Tc, m, n, rfl, hX, hY, hT, hT', hn, hn', hw, hb, q⟩ := h
  have hlw := tab_len_le hT
  obtain ⟨dx, d, hx, ht⟩ := id hX
  obtain ⟨dy, e, hy, ht'⟩ := id hY
  refine ⟨_, (pss_cons (ps_if (pt_not (pt_val (pe_meth (pv 0) T.cl_Space T.m_Space__fits (ok_Space__fits T) (hr.mono (by decide)) T.b_Space__fits .nil pass0 (pa_cons (pv 1) pa_nil))))
      (pss_one ps_never)
      pss_nil)
    (pss_one (ps_ret (pe_callB (cr_all rfl) (by rfl) T.all (by decide +kernel) (pa_cons (pe_lc (own := [("row", 2)]) (g := gName 2) (tt := tYes) (by rfl) sc_Space_is_within.nd (pi_list (pe_call (ok_rows_of_table T) (hr.mono (by decide)) (by rfl) T.g_rows_of_table T.F_rows_of_table.kp T.b_rows_of_table .nil pass0 (pa_cons (pe_fld (pv 0) rfl) pa_nil))) (blkOk_by (own := [("row", 2)]) (N := ["self", "other", "row"]) (sc := defScope s_Space_is_within) (by decide +kernel)) (fun _ _ _ _ _ => pg_name (i := 2) sc_Space_is_within.nd rfl (Or.inl rfl)) (fun _ _ _ _ _ => pts_nil) (fun _ _ _ _ _ => (pe_cmpR (OwT.op_in T.m_Space___contains__.own (ok_Space___contains__ T) (hr.mono (by decide)) T.b_Space___contains__ pass0) (pv 2) (pv 1) (by rfl)))) pa_nil))))), ?_⟩
  refine ⟨_, rfl, x, dx, _, rfl, hx, rfl, _, rfl, x, y, wd, Tb, Tc, rfl, hX, hY, ⟨_, rfl, iteF ?_⟩⟩
  refine ⟨_, rfl, x, _, dx, _, _, rfl, hx, T.cl_Space, T.n_Space__table, rfl, d, Tb, rfl, ht, by omega, fun H1 z1 as s1 nz1 hz1 hr1 => ?_⟩
  refine ⟨z1, rfl, ⟨_, SqL.of hz1⟩, fun D nD => ?_⟩
  refine lc_it (walk_list (K := K) (a := z1) (xs := as.map V.ref)) (fun i H' => Same H1 H' ∧ H' D = some (.lst ((((sRows Tb).take i).map fun r => decide (leadL (restL Tc r) = wd)).map V.bl))) ⟨same_upd nD, upd_same⟩ (fun i H' _ h => SqL.of (h.1 _ _ hz1)) ?_ ?_
  · rintro i x' H2 H3 hi ⟨s2, hD2⟩ ⟨rfl, hx'⟩
    obtain ⟨b, hbb, rfl⟩ := get_map hx'
    obtain ⟨r, hrr, hbt⟩ := (hr1.same s2).get hbb
    obtain ⟨hrl, hrb⟩ := row_facts hT hn (List.mem_of_getElem? hrr)
    have s12 := s1.trans s2
    refine ⟨rfl, _, rfl, _, rfl, y, dy, _, rfl, s12 _ _ hy, y, b, wd, Tc, r, m, n, rfl, hY.same s12, hT', hbt, hrl, by omega, hrb, hn', hb, fun H4 s4 => ⟨_, rfl, _, s4 _ _ hD2, ?_, same_mut (s2.trans s4) nD, ?_⟩⟩
    · rw [List.length_map, List.length_map, List.length_take, sRows_len]
      exact bigLine (by omega)
    · rw [upd_same, List.take_add_one, hrr, List.map_append, List.map_append]
      rfl
  · rintro H2 ⟨s2, hD2⟩
    rw [List.length_map, hr1.len, List.take_length] at hD2
    refine ⟨D, _, rfl, SqL.of hD2, ?_⟩
    rw [List.all_map]
    exact q H2 (s1.trans s2)
end
end K41
namespace K41
open PySem PySem.Spec PyProof.Rows L2 LA
/-! ### rows as data -/
theorem lay_rows : ∀ rs : List (List Int), PyData.canLayAll0 (rs.map dRow) = true
  | [] => by simp only [List.map_nil, PyData.canLayAll0]
  | x :: xs => by simp only [List.map_cons, PyData.canLayAll0, dRow, PyData.canLay0, lay_ints x, lay_rows xs, Bool.and_self]
theorem depth_rows : ∀ rs : List (List Int), PyData.depthAll (rs.map dRow) ≤ 1
  | [] => by simp only [List.map_nil, PyData.depthAll]; omega
  | x :: xs => by
    have := depth_rows xs
    simp only [List.map_cons, PyData.depthAll, dRow, PyData.depth, depth_ints x]
    omega
theorem shaped_rows (rs : List (List Int)) : SeqAt.shaped (dRows rs) = true := by
  unfold SeqAt.shaped dRows
  have h1 := depth_rows rs
  have h2 : PyData.depth (.list (rs.map dRow)) ≤ 64 := by simp only [PyData.depth]; omega
  rw [decide_eq_true h2, Bool.and_true]
  simp only [PyData.canLay0]
  exact lay_rows rs
theorem shaped_ints (r : List Int) : SeqAt.shaped (.list (r.map PyData.int)) = true := by
  unfold SeqAt.shaped
  have h2 : PyData.depth (.list (r.map PyData.int)) ≤ 64 := by simp only [PyData.depth, depth_ints]; omega
  rw [decide_eq_true h2, Bool.and_true]
  simp only [PyData.canLay0]
  exact lay_ints r
theorem dp_rows {K : PySem.W.Frag} {H : Hp} : ∀ {as : List Addr} {rs : List (List Int)}, RowsAt H as rs → DpAll K H (as.map V.ref) (rs.map dRow)
  | [], [], _ => .nil
  | _ :: _, _ :: _, h => .cons (.tup (SqT.of h.1) (dp_ints _)) (dp_rows h.2)
  | [], _ :: _, h => h.elim
  | _ :: _, [], h => h.elim
theorem eqv_nil (ds : List PyData) : PyData.eqv (.list ds) (.list []) = ds.isEmpty := by
  cases ds with
  | nil => simp only [PyData.eqv, PyData.eqvAll, List.isEmpty_nil]
  | cons x xs => simp only [PyData.eqv, PyData.eqvAll, List.isEmpty_cons]
/-! ### the law's pool -/
def PoolAt (H : Hp) (q : Addr) : Prop := ∃ h s : Int, H q = some (.lst [.int h, .int s]) ∧ 0 ≤ h ∧ 0 ≤ s ∧ s < 2147483647
theorem PoolAt.same {H H' : Hp} {q : Addr} (s : Same H H') (h : PoolAt H q) : PoolAt H' q := by
  obtain ⟨x, y, a, b⟩ := h
  exact ⟨x, y, s _ _ a, b⟩
def spPool (K : PySem.W.Frag) : Sp := fun vs H Q _ => ∃ (p : Addr) (k : Nat) (ns : List Int), vs = [.ref p, .int (k : Nat)] ∧ SqL K H p (ns.map V.int) ∧ k ≤ 63 ∧ ns.length ≤ 63 ∧ ∀ H' q, Same H H' → H q = none → PoolAt H' q → Q (.ref q) H'
def spTake : Sp := fun vs H Q _ => ∃ (p : Addr) (m : Int), vs = [.ref p, .int m] ∧ PoolAt H p ∧ 0 < m ∧ m < 1000 ∧ ∀ (r : Int) (H' : Hp), 0 ≤ r → r < m → PoolAt H' p → (∀ b, b ≠ p → H' b = H b) → Q (.int r) H'
def spThin : Sp := fun vs H Q _ => ∃ (p : Addr) (r : List Int), vs = [.ref p] ∧ H p = some (.lst (r.map V.int)) ∧ r.length ≤ 1000 ∧ Bd 9000 r ∧ ∀ H' q, Same H H' → (q = p ∨ H q = none) → H' q = some (.lst ((thinL r).map V.int)) → Q (.ref q) H'
theorem while_ans {c : TT} {tb : TS} {D : Ends} {σ : L2.St} {H : Hp} (Pv : Nat → L2.St → Hp → Prop) (m : Nat) (start : Pv m σ H)
    (turn : ∀ m σ H, Pv m σ H → ∃ b, Ans c σ H b ∧ (b = true → tb { D with nx := fun σ' H' => ∃ m', m' < m ∧ Pv m' σ' H', ct := fun σ' H' => ∃ m', m' < m ∧ Pv m' σ' H', bk := D.nx } σ H) ∧ (b = false → D.nx σ H)) : tWhile c tb D σ H := by
  refine ⟨Pv, ⟨m, start⟩, fun m σ H p => ?_⟩
  obtain ⟨b, ha, ht, hf⟩ := turn m σ H p
  refine ha _ ?_
  cases b with
  | true => exact ⟨_, fun σ' H' h => h, ht rfl⟩
  | false => exact hf rfl
section
variable {P : Program} {w : World} {K : PySem.W.Frag} {mg : Str → Option Value} {base : Heap} {a : Ads}
theorem sc__law_pool : FnScope ["_law_script", "_law_k", "_law_cell", "_law_heavy", "_law_blend", "_law_seed"] ["_law_script", "_law_k"] (defScope s__law_pool) := ⟨rfl, rfl, rfl, by decide +kernel, rfl, by decide +kernel, by decide +kernel⟩
theorem ok__law_pool (T : Txt K mg a) : FnOk P w K mg base CX0 1 a.f__law_pool a.f__law_pool_d ["_law_script", "_law_k"] (spPool K) := by
  refine T.F__law_pool.ok sc__law_pool (fun vs H Q E h => ?_) (fun cdv A outer s H vs Q E hr h => ?_)
  · obtain ⟨p, k, ns, rfl, _⟩ := h
    rfl
  obtain ⟨p, k, ns, rfl, hS, hk, hn, q⟩ := h
  refine ⟨_, (pss_cons (ps_set (i := 2) sc__law_pool.nd rfl (Or.inl rfl) pe_int)
    (pss_cons (ps_if (pt_cmpR op_lt (pv 1) (pe_callB call_len_seq (by rfl) T.len PySem.boot_len (pa_cons (pv 0) pa_nil)) (nomark _))
      (pss_one (ps_set (i := 2) sc__law_pool.nd rfl (Or.inl rfl) (pe_ix ix_list (pv 0) (pv 1) (fun _ _ => rfl))))
      pss_nil)
    (pss_cons (ps_set (i := 3) sc__law_pool.nd rfl (Or.inl rfl) (pe_callB call_abs (by rfl) T.abs (by decide +kernel) (pa_cons (pv 2) pa_nil)))
    (pss_cons (ps_set (i := 4) sc__law_pool.nd rfl (Or.inl rfl) (pe_op op_mod (pe_op op_mul (pe_callTy call_int1 (by rfl) T.int (by decide +kernel) (pa_cons (pe_op op_add (pe_op op_mod (pe_callTy call_int1 (by rfl) T.int (by decide +kernel) (pa_cons (pv 2) pa_nil)) pe_int) (pe_op op_mul pe_int (pe_op op_add (pv 1) pe_int))) pa_nil)) (pe_op op_add (pv 1) pe_int)) pe_int))
    (pss_cons (ps_set (i := 5) sc__law_pool.nd rfl (Or.inl rfl) (pe_op op_mod (pe_op op_mul (pe_op op_mod (pe_callTy call_int1 (by rfl) T.int (by decide +kernel) (pa_cons (pe_op op_mul (pv 4) (pv 4)) pa_nil)) pe_int) pe_int) pe_int))
    (pss_one (ps_ret (pe_lst (pa_cons (pe_op op_mul (pv 3) (pe_callTy call_int1 (by rfl) T.int (by decide +kernel) (pa_cons (pe_cmpR op_ge (pv 3) (pe_op op_pow pe_int pe_int) (nomark _)) pa_nil))) (pa_cons (pv 5) pa_nil)))))))))), ?_⟩
  have one : ∀ b : Bool, -(2 ^ 64) < (if b = true then (1 : Int) else 0) ∧ (if b = true then (1 : Int) else 0) < 2 ^ 64 ∧ 0 ≤ (if b = true then (1 : Int) else 0) := by decide
  have mod0 : ∀ x : Int, 0 ≤ x % 2147483629 ∧ x % 2147483629 < 2147483629 := fun x => ⟨Int.emod_nonneg _ (by decide), Int.emod_lt_of_pos _ (by decide)⟩
  have mod1 : ∀ x : Int, 0 ≤ x % 2147483647 ∧ x % 2147483647 < 2147483647 := fun x => ⟨Int.emod_nonneg _ (by decide), Int.emod_lt_of_pos _ (by decide)⟩
  refine ⟨_, rfl, _, rfl, p, _, rfl, .inl hS, _, _, rfl, rfl, _, rfl, ite2 (fun e => ?yes) (fun e => ?no)⟩
  case' yes =>
    have hk2 : k < ns.length := by
      have := of_decide_eq_true e
      rw [List.length_map] at this
      omega
    refine ⟨_, rfl, _, rfl, p, _, _, _, rfl, rfl, hS, atI_co hk2, ?_⟩
  all_goals
    refine ⟨_, rfl, _, rfl, ?_⟩
    refine ⟨_, rfl, .inl ⟨_, rfl, _, _, rfl, rfl, (by show (0 : Int) < 2147483629; decide), _, rfl, _, _, rfl, rfl, _, _, rfl, rfl, .inl ⟨by decide, by decide⟩, _, _, rfl, rfl, .inl ⟨_, rfl, ?_⟩⟩⟩
    refine ⟨_, rfl, _, _, rfl, rfl, _, _, rfl, rfl, .inr ⟨by omega, by omega⟩, _, _, rfl, rfl, (by show (0 : Int) < 2147483629; decide), ?_⟩
    refine ⟨_, rfl, _, rfl, _, _, rfl, rfl, .inl ⟨Int.lt_of_lt_of_le (by decide) (mod0 _).1, Int.lt_trans (mod0 _).2 (by decide)⟩, .inl ⟨_, rfl, ?_⟩⟩
    refine ⟨_, _, rfl, rfl, (by show (0 : Int) < 2147483629; decide), _, _, rfl, rfl, .inl ⟨Int.lt_of_lt_of_le (by decide) (mod0 _).1, Int.lt_trans (mod0 _).2 (by decide)⟩, _, _, rfl, rfl, (by show (0 : Int) < 2147483647; decide), ?_⟩
    refine ⟨_, rfl, _, rfl, _, _, rfl, rfl, ⟨by decide, by decide, by decide⟩, _, _, rfl, rfl, .inr ⟨_, rfl, ?_⟩⟩
    refine ⟨_, _, rfl, rfl, .inr ⟨(one _).1, (one _).2.1⟩, _, rfl, (by show 2 ≤ sizeLine; decide), fun r nr => ?_⟩
    refine q _ r (same_upd nr) nr ⟨_, _, upd_same, Int.mul_nonneg ?_ (one _).2.2, (mod1 _).1, (mod1 _).2⟩
    split <;> omega
theorem sc__law_take : FnScope ["_law_pool_here", "_law_wide", "_law_result"] ["_law_pool_here", "_law_wide"] (defScope s__law_take) := ⟨rfl, rfl, rfl, by decide +kernel, rfl, by decide +kernel, by decide +kernel⟩
theorem ok__law_take (T : Txt K mg a) : FnOk P w K mg base CX0 1 a.f__law_take a.f__law_take_d ["_law_pool_here", "_law_wide"] spTake := by
  refine T.F__law_take.ok sc__law_take (fun vs H Q E h => ?_) (fun cdv A outer s H vs Q E hr h => ?_)
  · obtain ⟨p, m, rfl, _⟩ := h
    rfl
  obtain ⟨p, m, rfl, ⟨hv, sd, hp, h0, h1, h2⟩, hm0, hm1, q⟩ := h
  refine ⟨_, (pss_cons (ps_if (pt_cmpR op_gt (pe_ix ix_list (pv 0) pe_int (fun _ _ => rfl)) pe_int (nomark _))
      (pss_cons (ps_set (i := 2) sc__law_take.nd rfl (Or.inl rfl) (pe_op op_modN (pe_callTy call_int1 (by rfl) T.int (by decide +kernel) (pa_cons (pe_ix ix_list (pv 0) pe_int (fun _ _ => rfl)) pa_nil)) (pv 1)))
      (pss_cons (ps_asg (pe_op op_fdiv (pe_ix ix_list (pv 0) pe_int (fun _ _ => rfl)) (pv 1)) (pg_sub (pv 0) pe_int set_list))
      (pss_one (ps_ret (pv 2)))))
      pss_nil)
    (pss_cons (ps_asg (pe_op op_mod (pe_callTy call_int1 (by rfl) T.int (by decide +kernel) (pa_cons (pe_op op_add (pe_op op_mul (pe_ix ix_list (pv 0) pe_int (fun _ _ => rfl)) pe_int) pe_int) pa_nil)) pe_int) (pg_sub (pv 0) pe_int set_list))
    (pss_one (ps_ret (pe_op op_mod (pe_op op_fdiv (pe_op op_mod (pe_callTy call_int1 (by rfl) T.int (by decide +kernel) (pa_cons (pe_op op_mul (pe_ix ix_list (pv 0) pe_int (fun _ _ => rfl)) (pe_ix ix_list (pv 0) pe_int (fun _ _ => rfl))) pa_nil)) pe_int) pe_int) (pv 1)))))), ?_⟩
  refine ⟨_, rfl, p, _, _, _, rfl, rfl, SqL.of hp, atI_nat (j := 0) rfl, _, _, rfl, rfl, _, rfl, ite2 (fun e => ?_) (fun e => ?_)⟩
  · refine ⟨_, rfl, p, _, _, _, rfl, rfl, SqL.of hp, atI_nat (j := 0) rfl, .inl ⟨_, rfl, _, rfl, _, _, rfl, rfl, by omega, ?_⟩⟩
    refine ⟨_, rfl, p, _, _, _, rfl, rfl, SqL.of hp, atI_nat (j := 0) rfl, _, rfl, _, _, rfl, rfl, ⟨hm0, by omega⟩, _, rfl, p, _, _, 0, rfl, rfl, hp, rfl, ?_⟩
    refine ⟨_, rfl, ?_⟩
    refine q _ _ (Int.fmod_nonneg_of_pos _ hm0) (Int.fmod_lt_of_pos _ hm0) ⟨_, _, upd_same, Int.ediv_nonneg h0 (by omega), h1, h2⟩ fun b hb => upd_ne hb
  · refine ⟨_, rfl, p, _, _, _, rfl, rfl, SqL.of hp, atI_nat (j := 1) rfl, _, _, rfl, rfl, .inl ⟨by omega, by omega⟩, _, _, rfl, rfl, .inl ⟨_, rfl, _, _, rfl, rfl, (by show (0 : Int) < 2147483647; decide), ?_⟩⟩
    have hs0 : 0 ≤ (sd * 48271 + 12345) % 2147483647 := Int.emod_nonneg _ (by decide)
    have hs1 : (sd * 48271 + 12345) % 2147483647 < 2147483647 := Int.emod_lt_of_pos _ (by decide)
    refine ⟨_, rfl, p, _, _, 1, rfl, rfl, hp, rfl, ?_⟩
    refine ⟨_, rfl, p, _, _, _, rfl, rfl, SqL.of upd_same, atI_nat (j := 1) rfl, ?_⟩
    refine ⟨_, rfl, p, _, _, _, rfl, rfl, SqL.of upd_same, atI_nat (j := 1) rfl, _, _, rfl, rfl, .inl ⟨Int.lt_of_lt_of_le (by decide) hs0, Int.lt_trans hs1 (by decide)⟩, .inl ⟨_, rfl, ?_⟩⟩
    refine ⟨_, _, rfl, rfl, (by show (0 : Int) < 2147483629; decide), _, _, rfl, rfl, ⟨by decide, by decide⟩, _, rfl, _, _, rfl, rfl, hm0, ?_⟩
    exact q _ _ (Int.emod_nonneg _ (by omega)) (Int.emod_lt_of_pos _ hm0) ⟨_, _, upd_same, h0, hs0, hs1⟩ fun b hb => upd_ne hb
end
end K41
namespace K41
open PySem PySem.Spec PyProof.Rows L2 LA
theorem ixN_at {n j : Nat} (hj : j < n) : ixN n (j : Int) = some j := by
  unfold ixN
  rw [if_pos (by omega), if_pos (by omega)]
  exact congrArg some (by omega)
theorem abs_nat (n : Int) : (if n < 0 then -n else n) = ((n.natAbs : Nat) : Int) := by split <;> omega
theorem fmod_nat (x y : Nat) : ((x : Int)).fmod (y : Int) = ((x % y : Nat) : Int) := by
  rw [Int.fmod_eq_emod_of_nonneg _ (Int.natCast_nonneg y)]
  exact (Int.natCast_emod x y).symm
theorem gcd_step {x y : Nat} : Nat.gcd y (x % y) = Nat.gcd x y := by
  rw [Nat.gcd_comm y (x % y), Nat.gcd_comm x y, ← Nat.gcd_rec]
/-- rows as lists, none at L -/
def RowsL (H : Hp) (L : Addr) : List Addr → List (List Int) → Prop
  | [], [] => True
  | b :: bs, r :: rs => (H b = some (.lst (r.map V.int)) ∧ b ≠ L) ∧ RowsL H L bs rs
  | _, _ => False
theorem RowsL.imp {H H' : Hp} {L : Addr} (k : ∀ (b : Addr) (r : List Int), b ≠ L → H b = some (.lst (r.map V.int)) → H' b = some (.lst (r.map V.int))) : ∀ {bs : List Addr} {rs : List (List Int)}, RowsL H L bs rs → RowsL H' L bs rs
  | [], [], _ => trivial
  | _ :: _, _ :: _, h => ⟨⟨k _ _ h.1.2 h.1.1, h.1.2⟩, RowsL.imp k h.2⟩
  | [], _ :: _, h => h.elim
  | _ :: _, [], h => h.elim
theorem RowsL.same {H H' : Hp} {L : Addr} (s : Same H H') {bs : List Addr} {rs : List (List Int)} (h : RowsL H L bs rs) : RowsL H' L bs rs := h.imp fun b r _ e => s _ _ e
theorem RowsL.upd {H : Hp} {L : Addr} {o : HO} {bs : List Addr} {rs : List (List Int)} (h : RowsL H L bs rs) : RowsL (upd H L o) L bs rs := h.imp fun b r n e => by rw [upd_ne n]; exact e
theorem RowsL.app {H : Hp} {L b : Addr} {r : List Int} (hb : H b = some (.lst (r.map V.int))) (n : b ≠ L) : ∀ {bs : List Addr} {rs : List (List Int)}, RowsL H L bs rs → RowsL H L (bs ++ [b]) (rs ++ [r])
  | [], [], _ => ⟨⟨hb, n⟩, trivial⟩
  | _ :: _, _ :: _, h => ⟨h.1, RowsL.app hb n h.2⟩
  | [], _ :: _, h => h.elim
  | _ :: _, [], h => h.elim
theorem RowsL.len {H : Hp} {L : Addr} : ∀ {bs : List Addr} {rs : List (List Int)}, RowsL H L bs rs → bs.length = rs.length
  | [], [], _ => rfl
  | _ :: _, _ :: _, h => congrArg (· + 1) (RowsL.len h.2)
  | [], _ :: _, h => h.elim
  | _ :: _, [], h => h.elim
theorem RowsL.get {H : Hp} {L : Addr} : ∀ {bs : List Addr} {rs : List (List Int)} {i : Nat} {r : List Int}, RowsL H L bs rs → rs[i]? = some r → ∃ b, bs[i]? = some b ∧ H b = some (.lst (r.map V.int)) ∧ b ≠ L
  | b :: _, _ :: _, 0, r, h, e => ⟨b, rfl, by rw [← Option.some.inj (show some _ = some r from e)]; exact h.1.1, h.1.2⟩
  | _ :: _, _ :: _, i + 1, _, h, e => RowsL.get (i := i) h.2 e
  | [], [], _, _, _, e => by cases e
  | [], _ :: _, _, _, h, _ => h.elim
  | _ :: _, [], _, _, h, _ => h.elim
theorem RowsL.set {H : Hp} {L c : Addr} {x : List Int} (hc : H c = some (.lst (x.map V.int))) (n : c ≠ L) : ∀ {bs : List Addr} {rs : List (List Int)} {i : Nat}, RowsL H L bs rs → RowsL H L (bs.set i c) (rs.set i x)
  | _ :: _, _ :: _, 0, h => ⟨⟨hc, n⟩, h.2⟩
  | _ :: _, _ :: _, i + 1, h => ⟨h.1, RowsL.set hc n (i := i) h.2⟩
  | [], [], _, _ => trivial
  | [], _ :: _, _, h => h.elim
  | _ :: _, [], _, h => h.elim
def LAt (H : Hp) (L : Addr) (left : List (List Int)) : Prop := ∃ bs, H L = some (.lst (bs.map V.ref)) ∧ RowsL H L bs left
theorem LAt.same {H H' : Hp} {L : Addr} {left : List (List Int)} (s : Same H H') (h : LAt H L left) : LAt H' L left := by
  obtain ⟨bs, a, b⟩ := h
  exact ⟨bs, s _ _ a, b.same s⟩
/-- bits behind so many steps -/
def be (e : Nat) : Nat → Nat
  | 0 => e
  | k + 1 => be e k + be e k + 1
theorem be_mono (e : Nat) {s t : Nat} (h : s ≤ t) : be e s ≤ be e t := by
  induction t with
  | zero => rw [Nat.le_zero.mp h]; exact Nat.le_refl _
  | succ t ih =>
    rcases Nat.lt_or_ge s (t + 1) with z | z
    · have := ih (Nat.le_of_lt_succ z)
      show be e s ≤ be e t + be e t + 1
      omega
    · rw [Nat.le_antisymm h z]
      exact Nat.le_refl _
theorem at_int {xs : List V} {j : Nat} {z : Int} {v : V} (e : z = (j : Int)) (h : xs[j]? = some v) : atI xs z = some v := by
  rw [e]
  exact atI_nat h
theorem ixN_int {n j : Nat} {z : Int} (e : z = (j : Int)) (h : j < n) : ixN n z = some j := by
  rw [e]
  exact ixN_at h
theorem ref_set {bs : List Addr} {i : Nat} {b : Addr} : (bs.map V.ref).set i (.ref b) = (bs.set i b).map V.ref := by rw [List.map_set]
theorem ref_get {bs : List Addr} {i : Nat} {b : Addr} (h : bs[i]? = some b) : (bs.map V.ref)[i]? = some (.ref b) := by
  rw [List.getElem?_map, h]
  rfl
theorem int_get {r : List Int} {c : Nat} (h : c < r.length) : (r.map V.int)[c]? = some (.int (co r c)) := by
  rw [List.getElem?_map, get_co h]
  rfl
def spRank : Sp := fun vs H Q _ => ∃ (p : Addr) (wd : Nat) (as : List Addr) (rows : List (List Int)) (e : Nat), vs = [.ref p] ∧ H p = some (.lst (as.map V.ref)) ∧ RowsAt H as rows ∧ (∀ r ∈ rows, r.length = wd ∧ Bd e r) ∧ wd ≤ 1000 ∧ rows.length ≤ 1000 ∧
  be e (rows.length - 1) ≤ 8999 ∧ ∀ (n : Nat) H', Same H H' → n ≤ rows.length → IsRank rows n → Q (.int (n : Nat)) H'
/-- the places of the rows that have a number there -/
def goods (left : List (List Int)) (total at' i : Nat) : List Nat := ((List.range i).filter fun j => !decide (co (left.getD (total + j) []) at' = 0)).map (total + ·)
theorem goods_succ (left : List (List Int)) (total at' i : Nat) : goods left total at' (i + 1) = goods left total at' i ++ if (!decide (co (left.getD (total + i) []) at' = 0)) = true then [total + i] else [] := by
  unfold goods
  rw [List.range_succ, List.filter_append, List.map_append]
  congr 1
  rw [List.filter_cons]
  split <;> rfl
theorem goods_nil {left : List (List Int)} {total at' i : Nat} (h : goods left total at' i = []) {j : Nat} {r : List Int} (e : left[j]? = some r) (h1 : total ≤ j) (h2 : j < total + i) : co r at' = 0 := by
  unfold goods at h
  have h := List.map_eq_nil_iff.mp h
  by_cases q : co r at' = 0
  · exact q
  · exfalso
    have : j - total ∈ (List.range i).filter fun j => !decide (co (left.getD (total + j) []) at' = 0) := by
      rw [List.mem_filter, List.mem_range]
      refine ⟨by omega, ?_⟩
      rw [show total + (j - total) = j by omega, List.getD_eq_getElem?_getD, e]
      simpa using q
    rw [h] at this
    cases this
theorem goods_mem {left : List (List Int)} {total at' i g : Nat} (h : g ∈ goods left total at' i) : total ≤ g ∧ g < total + i ∧ ∀ r, left[g]? = some r → co r at' ≠ 0 := by
  obtain ⟨j, hj, rfl⟩ := List.mem_map.mp h
  rw [List.mem_filter, List.mem_range] at hj
  refine ⟨by omega, by omega, fun r e => ?_⟩
  have h2 := hj.2
  rw [List.getD_eq_getElem?_getD, e] at h2
  simpa using h2
section
variable {P : Program} {w : World} {K : PySem.W.Frag} {mg : Str → Option Value} {base : Heap} {a : Ads}
theorem sc__law_thin : FnScope ["_law_row", "_law_most", "_law_value", "_law_one", "_law_other"] ["_law_row"] (defScope s__law_thin) := ⟨rfl, rfl, rfl, by decide +kernel, rfl, by decide +kernel, by decide +kernel⟩
theorem ok__law_thin (T : Txt K mg a) : FnOk P w K mg base CX0 1 a.f__law_thin a.f__law_thin_d ["_law_row"] spThin := by
  refine T.F__law_thin.ok sc__law_thin (fun vs H Q E h => ?_) (fun cdv A outer s H vs Q E hr h => ?_)
  · obtain ⟨p, r, rfl, _⟩ := h
    rfl
  obtain ⟨p, r, rfl, hp, hl, hb, q⟩ := h
  refine ⟨_, (pss_cons (ps_set (i := 1) sc__law_thin.nd rfl (Or.inr rfl) pe_int)
    (pss_cons (ps_for PassesOwn.never rfl (pi_list (pv 0)) (pg_name (i := 2) sc__law_thin.nd rfl (Or.inl rfl))
      (pss_cons (ps_par (i := 3) (j := 4) (by rfl) sc__law_thin.nd rfl rfl (by decide) rfl rfl (pa_cons (pv 1) (pa_cons (pe_callB call_abs (by rfl) T.abs (by decide +kernel) (pa_cons (pv 2) pa_nil)) pa_nil)) (by rfl))
      (pss_cons (ps_while PassesOwn.never (pt_cmpR op_ne (pv 4) pe_int (nomark _))
        (pss_one (ps_par (i := 3) (j := 4) (by rfl) sc__law_thin.nd rfl rfl (by decide) rfl rfl (pa_cons (pv 4) (pa_cons (pe_op op_modN (pe_callTy call_int1 (by rfl) T.int (by decide +kernel) (pa_cons (pv 3) pa_nil)) (pv 4)) pa_nil)) (by rfl))))
      (pss_one (ps_set (i := 1) sc__law_thin.nd rfl (Or.inr rfl) (pv 3))))))
    (pss_one (ps_ret (pe_ifExp (pt_cmpR op_gt (pv 1) pe_int (nomark _)) (pe_lc (own := [("_law_value", 2)]) (g := gName 2) (tt := tYes) (by rfl) sc__law_thin.nd (pi_list (pv 0)) (blkOk_by (own := [("_law_value", 2)]) (N := ["_law_row", "_law_most", "_law_value", "_law_one", "_law_other"]) (sc := defScope s__law_thin) (by decide +kernel)) (fun _ _ _ _ _ => pg_name (i := 2) sc__law_thin.nd rfl (Or.inl rfl)) (fun _ _ _ _ _ => pts_nil) (fun _ _ _ _ _ => (pe_op EnT.op_fdivB (pv 2) (pv 1)))) (pv 0)))))), ?_⟩
  refine ⟨_, rfl, p, rfl, ⟨_, SqL.of hp⟩, for_it (walk_list (K := K) (a := p) (xs := r.map V.int)) (fun i σ H' => ∃ v2 v3 v4, σ = [some (.ref p), some (.int (gcdN r i : Nat)), v2, v3, v4] ∧ Same H H') ⟨_, _, _, rfl, Same.refl _⟩ (fun i σ H' _ ⟨_, _, _, _, s1⟩ => SqL.of (s1 _ _ hp)) ?_ ?_⟩
  · rintro i x σ H1 H2 hi ⟨v2, v3, v4, rfl, s1⟩ ⟨rfl, hx⟩
    obtain ⟨n, hn, rfl⟩ := get_map hx
    refine ⟨_, rfl, _, rfl, _, rfl, _, _, rfl, ?_⟩
    rw [abs_nat]
    dsimp only [gName]
    refine st_seq (while_ans (fun m σ H' => ∃ x y : Nat, σ = [some (.ref p), some (.int (gcdN r i : Nat)), some (.int n), some (.int (x : Nat)), some (.int (y : Nat))] ∧ Nat.gcd x y = gcdN r (i + 1) ∧ m = y ∧ Same H H') n.natAbs
      ⟨gcdN r i, n.natAbs, rfl, (gcdN_succ hn).symm, rfl, s1⟩ ?_)
    rintro m σ H3 ⟨x, y, rfl, hg, rfl, s3⟩
    refine ⟨!decide (V.int (m : Nat) = V.int 0), fun Q q => ⟨_, rfl, rfl, _, rfl, q⟩, fun e => ?_, fun e => ?_⟩
    · rw [dint] at e
      have hm : m ≠ 0 := by
        intro z
        rw [z] at e
        simp at e
      refine ⟨_, rfl, _, rfl, .inl ⟨_, rfl, _, rfl, _, _, rfl, rfl, by omega, _, _, rfl, ?_⟩⟩
      exact ⟨x % m, Nat.mod_lt _ (by omega), m, x % m, by rw [← fmod_nat]; rfl, by rw [gcd_step]; exact hg, rfl, s3⟩
    · rw [dint] at e
      have hm : m = 0 := by
        have : (m : Int) = 0 := by simpa using e
        omega
      subst hm
      rw [Nat.gcd_zero_right] at hg
      refine ⟨_, rfl, ?_⟩
      rw [hg]
      exact ⟨_, _, _, rfl, s3⟩
  · rintro σ H1 ⟨v2, v3, v4, rfl, s1⟩
    rw [List.length_map, gcdN_all]
    refine ⟨_, rfl, _, _, rfl, rfl, _, rfl, ite2 (fun e => ?_) (fun e => ?_)⟩
    · have e : 1 < gcdL r := by have := of_decide_eq_true e; omega
      refine ⟨_, rfl, p, rfl, ⟨_, SqL.of (s1 _ _ hp)⟩, fun D hD => ?_⟩
      refine lc_it (walk_list (K := K) (a := p) (xs := r.map V.int)) (fun i H' => Same H1 H' ∧ H' D = some (.lst ((((r.take i).map fun n => n.fdiv (gcdL r : Int))).map V.int))) ⟨same_upd hD, upd_same⟩ (fun i H' _ h => SqL.of (h.1 _ _ (s1 _ _ hp))) ?_ ?_
      · rintro i x H3 H4 hi ⟨s3, hD3⟩ ⟨rfl, hx⟩
        obtain ⟨n, hn, rfl⟩ := get_map hx
        rw [List.length_map] at hi
        refine ⟨rfl, _, rfl, _, rfl, n, _, rfl, rfl, ⟨by omega, hb.gcd⟩, _, hD3, ?_, same_mut s3 hD, ?_⟩
        · rw [List.length_map, List.length_map, List.length_take]
          exact bigLine (by omega)
        · rw [upd_same, List.take_add_one, hn, List.map_append, List.map_append]
          rfl
      · rintro H3 ⟨s3, hD3⟩
        rw [List.length_map, List.take_length] at hD3
        refine q _ D (s1.trans s3) (.inr (s1.free hD)) ?_
        unfold thinL
        rw [if_pos e]
        exact hD3
    · have e : ¬ 1 < gcdL r := fun z => e (decide_eq_true (by omega))
      refine ⟨_, rfl, q _ p s1 (.inl rfl) ?_⟩
      unfold thinL
      rw [if_neg e]
      exact s1 _ _ hp
theorem sc__law_rank : FnScope ["_law_rows_here", "_law_left", "_law_wide", "_law_total", "_law_at", "_law_good", "_law_row", "_law_first", "_law_one", "_law_times", "_law_other", "_law_lower", "_law_value", "_law_to"] ["_law_rows_here"] (defScope s__law_rank) := ⟨rfl, rfl, rfl, by decide +kernel, rfl, by decide +kernel, by decide +kernel⟩
theorem ok__law_rank (T : Txt K mg a) : FnOk P w K mg base CX0 2 a.f__law_rank a.f__law_rank_d ["_law_rows_here"] spRank := by
  refine T.F__law_rank.ok sc__law_rank (fun vs H Q E h => ?_) (fun cdv A outer s H vs Q E hr h => ?_)
  · obtain ⟨p, wd, as, rows, e, rfl, _⟩ := h
    rfl
  obtain ⟨p, wd, as, rows, e, rfl, hp, hRs, hrw, hw1, hn1, hbe, q⟩ := h
  have hal := hRs.len
  refine ⟨_, (pss_cons (ps_set (i := 1) sc__law_rank.nd rfl (Or.inr rfl) (pe_lc (own := [("_law_row", 6)]) (g := gName 6) (tt := tYes) (by rfl) sc__law_rank.nd (pi_list (pv 0)) (blkOk_by (own := [("_law_row", 6)]) (N := ["_law_rows_here", "_law_left", "_law_wide", "_law_total", "_law_at", "_law_good", "_law_row", "_law_first", "_law_one", "_law_times", "_law_other", "_law_lower", "_law_value", "_law_to"]) (sc := defScope s__law_rank) (by decide +kernel)) (fun _ _ _ _ _ => pg_name (i := 6) sc__law_rank.nd rfl (Or.inl rfl)) (fun _ _ _ _ _ => pts_nil) (fun _ _ _ _ _ => (pe_callTy (show CallR _ (.type "list") (rListOf K) from call_list_of) (by rfl) T.list (by decide +kernel) (pa_cons (pv 6) pa_nil)))))
    (pss_cons (ps_asg (pe_tup (pa_cons pe_int (pa_cons pe_int pa_nil))) (pg_tup (by rfl) (pgs_cons (pg_name (i := 3) sc__law_rank.nd rfl (Or.inl rfl)) (pgs_cons (pg_name (i := 4) sc__law_rank.nd rfl (Or.inr rfl)) pgs_nil))))
    (pss_cons (ps_set (i := 2) sc__law_rank.nd rfl (Or.inl rfl) (pe_ifExp (pt_cmpR (op_neD hr.units) (pv 0) (pe_lst pa_nil) (nomark _)) (pe_callB call_len_seq (by rfl) T.len PySem.boot_len (pa_cons (pe_ix ix_list (pv 0) pe_int (fun _ _ => rfl)) pa_nil)) pe_int))
    (pss_cons (ps_while PassesOwn.never (PW.pt (pw_and (pt_cmpR op_lt (pv 4) (pv 2) (nomark _)) (pw_and1 (pt_cmpR op_lt (pv 3) (pe_callB call_len_seq (by rfl) T.len PySem.boot_len (pa_cons (pv 1) pa_nil)) (nomark _)))))
      (pss_cons (ps_setLc (i := 5) (own := [("_law_one", 8)]) (g := gName 8) (tt := _) (by rfl) sc__law_rank.nd rfl rfl (sw_true rfl rfl rfl (by decide +kernel)) (pi_range2 (by rfl) T.range (pa_cons (pv 3) (pa_cons (pe_callB call_len_seq (by rfl) T.len PySem.boot_len (pa_cons (pv 1) pa_nil)) pa_nil))) (blkOk_by (own := [("_law_one", 8)]) (N := ["_law_rows_here", "_law_left", "_law_wide", "_law_total", "_law_at", "_law_good", "_law_row", "_law_first", "_law_one", "_law_times", "_law_other", "_law_lower", "_law_value", "_law_to"]) (sc := defScope s__law_rank) (by decide +kernel)) (fun _ _ _ _ _ => pg_name (i := 8) sc__law_rank.nd rfl (Or.inl rfl)) (fun _ _ _ _ _ => (pts_one (pt_cmpR op_ne (pe_ix (show IxR _ (rIxL K) from ix_list) (pe_ix (show IxR _ (rIxL K) from ix_list) (pv 1) (pv 8) (fun _ _ => rfl)) (pv 4) (fun _ _ => rfl)) pe_int (nomark _)))) (fun _ _ _ _ _ => (pv 8)))
      (pss_cons (ps_if (pt_cmpR (op_neD hr.units) (pv 5) (pe_lst pa_nil) (nomark _))
        (pss_cons (ps_asg (pe_tup (pa_cons (pe_ix ix_list (pv 1) (pe_ix ix_list (pv 5) pe_int (fun _ _ => rfl)) (fun _ _ => rfl)) (pa_cons (pe_ix ix_list (pv 1) (pv 3) (fun _ _ => rfl)) pa_nil))) (pg_tup (by rfl) (pgs_cons (pg_sub (pv 1) (pv 3) set_list) (pgs_cons (pg_sub (pv 1) (pe_ix ix_list (pv 5) pe_int (fun _ _ => rfl)) set_list) pgs_nil))))
        (pss_cons (ps_set (i := 7) sc__law_rank.nd rfl (Or.inr rfl) (pe_ix ix_list (pv 1) (pv 3) (fun _ _ => rfl)))
        (pss_cons (ps_for PassesOwn.never rfl (pi_range2 (by rfl) T.range (pa_cons (pe_op op_add (pv 3) pe_int) (pa_cons (pe_callB call_len_seq (by rfl) T.len PySem.boot_len (pa_cons (pv 1) pa_nil)) pa_nil))) (pg_name (i := 8) sc__law_rank.nd rfl (Or.inl rfl))
          (pss_cons (ps_set (i := 9) sc__law_rank.nd rfl (Or.inr rfl) (pe_ix ix_list (pe_ix ix_list (pv 1) (pv 8) (fun _ _ => rfl)) (pv 4) (fun _ _ => rfl)))
          (pss_cons (ps_set (i := 10) sc__law_rank.nd rfl (Or.inr rfl) (pe_ix ix_list (pv 1) (pv 8) (fun _ _ => rfl)))
          (pss_cons (ps_set (i := 11) sc__law_rank.nd rfl (Or.inr rfl) (pe_lc (own := [("_law_value", 12)]) (g := gName 12) (tt := tYes) (by rfl) sc__law_rank.nd (pi_list (pv 7)) (blkOk_by (own := [("_law_value", 12)]) (N := ["_law_rows_here", "_law_left", "_law_wide", "_law_total", "_law_at", "_law_good", "_law_row", "_law_first", "_law_one", "_law_times", "_law_other", "_law_lower", "_law_value", "_law_to"]) (sc := defScope s__law_rank) (by decide +kernel)) (fun _ _ _ _ _ => pg_name (i := 12) sc__law_rank.nd rfl (Or.inl rfl)) (fun _ _ _ _ _ => pts_nil) (fun _ _ _ _ _ => (pe_op op_mulW (pv 9) (pv 12)))))
          (pss_one (ps_asg (pe_call (ok__law_thin T) (hr.mono (by decide)) (by rfl) T.g__law_thin T.F__law_thin.kp T.b__law_thin .nil pass0 (pa_cons (pe_lc (own := [("_law_to", 13)]) (g := gName 13) (tt := tYes) (by rfl) sc__law_rank.nd (pi_range1 (by rfl) T.range (pa_cons (pv 2) pa_nil)) (blkOk_by (own := [("_law_to", 13)]) (N := ["_law_rows_here", "_law_left", "_law_wide", "_law_total", "_law_at", "_law_good", "_law_row", "_law_first", "_law_one", "_law_times", "_law_other", "_law_lower", "_law_value", "_law_to"]) (sc := defScope s__law_rank) (by decide +kernel)) (fun _ _ _ _ _ => pg_name (i := 13) sc__law_rank.nd rfl (Or.inl rfl)) (fun _ _ _ _ _ => pts_nil) (fun _ _ _ _ _ => (pe_op op_sub (pe_op op_mulW (pe_ix (show IxR _ (rIxL K) from ix_list) (pv 7) (pv 4) (fun _ _ => rfl)) (pe_ix (show IxR _ (rIxL K) from ix_list) (pv 10) (pv 13) (fun _ _ => rfl))) (pe_ix (show IxR _ (rIxL K) from ix_list) (pv 11) (pv 13) (fun _ _ => rfl))))) pa_nil)) (pg_sub (pv 1) (pv 8) set_list)))))))
        (pss_one (ps_set (i := 3) sc__law_rank.nd rfl (Or.inl rfl) (pe_op op_add (pv 3) pe_int))))))
        pss_nil)
      (pss_one (ps_set (i := 4) sc__law_rank.nd rfl (Or.inr rfl) (pe_op op_add (pv 4) pe_int))))))
    (pss_one (ps_ret (pv 3))))))), ?_⟩
  -- the rows as lists
  refine ⟨_, rfl, p, rfl, ⟨_, SqL.of hp⟩, fun L nL => ?_⟩
  refine lc_it (walk_list (K := K) (a := p) (xs := as.map V.ref)) (fun i H' => Same H H' ∧ ∃ bs, H' L = some (.lst (bs.map V.ref)) ∧ RowsL H' L bs (rows.take i)) ⟨same_upd nL, [], upd_same, trivial⟩ (fun i H' _ h => SqL.of (h.1 _ _ hp)) ?_ ?_
  · rintro i x H1 H2 hi ⟨s1, bs, hL1, hbs⟩ ⟨rfl, hx⟩
    obtain ⟨b, hb, rfl⟩ := get_map hx
    obtain ⟨r, hrr, hbt⟩ := hRs.get hb
    have hil : i < rows.length := (List.getElem?_eq_some_iff.mp hrr).1
    refine ⟨rfl, _, rfl, b, _, rfl, .inr (SqT.of (s1 _ _ hbt)), fun l nl => ?_⟩
    have hlL : l ≠ L := fun z => by
      subst z
      rw [hL1] at nl
      cases nl
    refine ⟨_, by rw [upd_ne (Ne.symm hlL)]; exact hL1, ?_, same_mut (s1.trans (same_upd nl)) nL, bs ++ [l], by rw [upd_same, List.map_append]; rfl, ?_⟩
    · rw [List.length_map, hbs.len, List.length_take]
      exact bigLine (by omega)
    · rw [List.take_add_one, hrr]
      exact RowsL.app (by rw [upd_ne hlL, upd_same]) hlL ((hbs.same (same_upd nl)).upd)
  rintro H1 ⟨s1, bs, hL1, hbs1⟩
  rw [List.length_map, hal, List.take_length] at hbs1
  -- total, at = 0, 0
  refine ⟨(by show 2 ≤ sizeLine; decide), fun t nt => ⟨t, _, rfl, SqT.of upd_same, rfl, _, _, rfl, _, _, rfl, rfl, ?_⟩⟩
  have s2 : Same H (upd H1 t (.tup [.int 0, .int 0])) := s1.trans (same_upd nt)
  have hL2 : LAt (upd H1 t (.tup [.int 0, .int 0])) L rows := ⟨bs, same_upd nt _ _ hL1, hbs1.same (same_upd nt)⟩
  show tSeq _ _ _ _ (upd H1 t (.tup [.int 0, .int 0]))
  generalize (upd H1 t (.tup [.int 0, .int 0])) = H2 at s2 hL2 ⊢
  clear s1 hL1 hbs1 nt H1
  dsimp only [gName]
  -- the width
  have width : ∀ {H3 : Hp} {l0 : Addr}, Same H2 H3 → H3 l0 = some (.lst []) → rNeD K (.ref p) (.ref l0) H3 fun x H4 => x = .bl (!rows.isEmpty) ∧ H4 = H3 := fun {H3 l0} s3 h0 =>
    ⟨dRows rows, .list [], .lst (SqL.of (s3 _ _ (s2 _ _ hp))) (dp_rows (hRs.same (s2.trans s3))), .lst (xs := []) (SqL.of h0) .nil, shaped_rows rows, by decide, by unfold dRows; rw [eqv_nil, List.isEmpty_map], rfl⟩
  refine ⟨_, rfl, (by show 0 ≤ sizeLine; decide), fun l0 nl0 => ⟨dRows rows, .list [], .lst (SqL.of (same_upd nl0 _ _ (s2 _ _ hp))) (dp_rows (hRs.same (s2.trans (same_upd nl0)))), .lst (xs := []) (SqL.of upd_same) .nil, shaped_rows rows, by decide, ?_⟩⟩
  rw [show PyData.eqv (dRows rows) (.list []) = rows.isEmpty by unfold dRows; rw [eqv_nil, List.isEmpty_map]]
  have s3 : Same H (upd H2 l0 (.lst [])) := s2.trans (same_upd nl0)
  have hL3 : LAt (upd H2 l0 (.lst [])) L rows := hL2.same (same_upd nl0)
  generalize (upd H2 l0 (.lst [])) = H3 at s3 hL3 ⊢
  clear width hL2 s2 nl0 H2
  refine ⟨_, rfl, ite2 (fun e1 => ?_) (fun e1 => ?_)⟩
  rotate_left
  · -- no row
    have hnil : rows = [] := by
      cases rows with
      | nil => rfl
      | cons _ _ => exact absurd rfl e1
    subst hnil
    obtain ⟨bs, hL, hbs⟩ := hL3
    dsimp only [gName]
    refine st_seq (while_ans (fun m σ H' => σ = [some (.ref p), some (.ref L), some (.int 0), some (.int 0), some (.int 0), none, none, none, none, none, none, none, none, none] ∧ H' = H3) 0 ⟨rfl, rfl⟩ ?_)
    rintro m σ H' ⟨rfl, rfl⟩
    refine ⟨false, ans_and0 (fun Q q => ⟨_, rfl, _, rfl, _, _, rfl, rfl, _, rfl, q⟩), fun z => (by cases z), fun _ => ?_⟩
    exact ⟨_, rfl, q 0 _ s3 (Nat.le_refl _) ((RI.start (w := wd) (rows := []) fun _ h => by cases h).done (Nat.le_refl _) (.inr (Nat.le_refl _)))⟩
  obtain ⟨r0, rs0, hr0⟩ : ∃ r0 rs0, rows = r0 :: rs0 := by
    cases rows with
    | nil => cases e1
    | cons x xs => exact ⟨x, xs, rfl⟩
  have h0 : rows[0]? = some r0 := by rw [hr0]; rfl
  obtain ⟨a0, ha0⟩ : ∃ a0, as[0]? = some a0 := by
    have : 0 < as.length := by rw [hal, hr0]; exact Nat.succ_pos _
    exact ⟨as[0], List.getElem?_eq_getElem this⟩
  obtain ⟨r0', hr0', ht0⟩ := (hRs.same s3).get ha0
  obtain rfl : r0' = r0 := Option.some.inj (hr0'.symm.trans h0)
  have hlen0 := (hrw r0' (List.mem_of_getElem? h0)).1
  refine ⟨_, rfl, p, _, _, _, rfl, rfl, SqL.of (s3 _ _ hp), atI_nat (j := 0) (ref_get ha0), a0, _, rfl, .inr (SqT.of ht0), ?_⟩
  rw [List.length_map, hlen0]
  dsimp only [gName]
  clear e1 h0 ha0 hr0' ht0 hlen0 hr0 rs0 r0' a0
  refine st_seq (while_ans (fun m σ H' => ∃ (total at' : Nat) (left : List (List Int)) (v5 v6 v7 v8 v9 v10 v11 v12 v13 : Option V),
      σ = [some (.ref p), some (.ref L), some (.int (wd : Nat)), some (.int (total : Nat)), some (.int (at' : Nat)), v5, v6, v7, v8, v9, v10, v11, v12, v13] ∧ Same H H' ∧ LAt H' L left ∧ RI wd rows left total at' ∧ total ≤ rows.length ∧
      (∀ r ∈ left, Bd (be e total) r) ∧ m = wd - at') wd ⟨0, 0, rows, _, _, _, _, _, _, _, _, _, rfl, s3, hL3, .start fun r hr => (hrw r hr).1, Nat.zero_le _, fun r hr => (hrw r hr).2, rfl⟩ ?_)
  clear s3 hL3 H3
  rintro m σ H4 ⟨total, at', left, v5, v6, v7, v8, v9, v10, v11, v12, v13, rfl, s4, ⟨bs, hL, hbs⟩, hI, htn, hbits, rfl⟩
  have hn := hI.n
  have hbl := hbs.len
  refine ⟨decide (((at' : Nat) : Int) < ((wd : Nat) : Int)) && decide (((total : Nat) : Int) < (((bs.map V.ref).length : Nat) : Int)), ans_and2 (fun Q q => ⟨_, rfl, _, rfl, _, _, rfl, rfl, _, rfl, q⟩) (fun Q q => ⟨_, rfl, _, rfl, L, _, rfl, .inl (SqL.of hL), _, _, rfl, rfl, _, rfl, q⟩), fun e1 => ?_, fun e1 => ?_⟩
  rotate_left
  · refine ⟨_, rfl, q total H4 s4 htn (hI.done (by omega) ?_)⟩
    rcases Bool.and_eq_false_iff.mp e1 with z | z
    · have := of_decide_eq_false z
      exact .inl (by omega)
    · have := of_decide_eq_false z
      rw [List.length_map] at this
      exact .inr (by omega)
  obtain ⟨e1, e2⟩ := Bool.and_eq_true_iff.mp e1
  have e1 : at' < wd := by have := of_decide_eq_true e1; omega
  have e2 : total < left.length := by
    have := of_decide_eq_true e2
    rw [List.length_map] at this
    omega
  -- the good ones
  refine ⟨_, rfl, _, rfl, L, _, rfl, .inl (SqL.of hL), _, _, rfl, ⟨by omega, by omega, by rw [List.length_map]; omega, by rw [List.length_map]; omega⟩, fun D nD => ?_⟩
  refine lc_range (lo := (total : Int)) (n := ((((bs.map V.ref).length : Nat) : Int) - (total : Int)).toNat) (fun i Hi => Same H4 Hi ∧ Hi D = some (.lst (((goods left total at' i).map fun g : Nat => (g : Int)).map V.int))) ⟨same_upd nD, upd_same⟩ ?_ ?_
  · rintro i Hi hi ⟨si, hDi⟩
    rw [List.length_map] at hi
    have hti : total + i < left.length := by omega
    have hrow : left[total + i]? = some left[total + i] := List.getElem?_eq_getElem hti
    have hgd : left.getD (total + i) [] = left[total + i] := by rw [List.getD_eq_getElem?_getD, hrow]; rfl
    generalize left[total + i] = r at hrow hgd
    have hrlen := hI.len r (List.mem_of_getElem? hrow)
    obtain ⟨b, hb, hbt, hbL⟩ := hbs.get hrow
    refine ⟨rfl, _, rfl, _, rfl, L, _, _, _, rfl, rfl, SqL.of (si _ _ hL), at_int (j := total + i) (by omega) (ref_get hb), _, rfl, b, _, _, _, rfl, rfl, SqL.of (si _ _ hbt), atI_co (by omega), rfl, _, rfl, ?_⟩
    rw [goods_succ, hgd, dint]
    refine ite2 (fun e3 => ?_) (fun e3 => ?_)
    · refine ⟨_, rfl, _, hDi, ?_, same_mut si nD, ?_⟩
      · rw [List.length_map, List.length_map]
        refine bigLine ?_
        unfold goods
        rw [List.length_map]
        refine Nat.le_trans (List.length_filter_le _ _) ?_
        rw [List.length_range]
        omega
      · rw [upd_same, if_pos e3, List.map_append, List.map_append]
        rfl
    · refine ⟨si, ?_⟩
      rw [if_neg e3, List.append_nil]
      exact hDi
  rintro H5 ⟨s5, hD5⟩
  rw [List.length_map] at hD5
  have hcnt : (((bs.length : Nat) : Int) - (total : Int)).toNat = left.length - total := by omega
  rw [hcnt] at hD5
  have hmem : ∀ g ∈ goods left total at' (left.length - total), total ≤ g ∧ g < left.length ∧ ∀ r, left[g]? = some r → co r at' ≠ 0 := fun g hg => by
    obtain ⟨h1, h2, h3⟩ := goods_mem hg
    exact ⟨h1, by omega, h3⟩
  have hnone : goods left total at' (left.length - total) = [] → ∀ i r, left[i]? = some r → total ≤ i → co r at' = 0 := fun z i r hr h => goods_nil z hr h (by have := (List.getElem?_eq_some_iff.mp hr).1; omega)
  generalize goods left total at' (left.length - total) = gs at hD5 hmem hnone
  -- is there one
  refine ⟨_, rfl, (by show 0 ≤ sizeLine; decide), fun l1 nl1 => ⟨.list ((gs.map fun g : Nat => (g : Int)).map PyData.int), .list [], .lst (SqL.of (same_upd nl1 _ _ hD5)) (dp_ints _), .lst (xs := []) (SqL.of upd_same) .nil, shaped_ints _, by decide, ?_⟩⟩
  rw [eqv_nil, List.isEmpty_map, List.isEmpty_map]
  have s6 : Same H4 (upd H5 l1 (.lst [])) := s5.trans (same_upd nl1)
  have hD6 : (upd H5 l1 (.lst [])) D = some (.lst ((gs.map fun g : Nat => (g : Int)).map V.int)) := same_upd nl1 _ _ hD5
  generalize (upd H5 l1 (.lst [])) = H6 at s6 hD6 ⊢
  clear s5 hD5 nl1 H5
  have s46 := s4.trans s6
  refine ⟨_, rfl, ite2 (fun e3 => ?_) (fun e3 => ?_)⟩
  rotate_left
  · have hg : gs = [] := by
      cases gs with
      | nil => rfl
      | cons _ _ => exact absurd rfl e3
    refine ⟨_, rfl, _, _, rfl, rfl, ?_⟩
    exact ⟨wd - (at' + 1), by omega, total, at' + 1, left, _, _, _, _, _, _, _, _, _, rfl, s46, ⟨bs, s6 _ _ hL, hbs.same s6⟩, hI.skip (hnone hg), htn, hbits, rfl⟩
  obtain ⟨g, gs', hg⟩ : ∃ g gs', gs = g :: gs' := by
    cases gs with
    | nil => cases e3
    | cons x xs => exact ⟨x, xs, rfl⟩
  subst hg
  obtain ⟨hg1, hg2, hg3⟩ := hmem g (List.mem_cons_self ..)
  clear hmem hnone e3
  have hrt : left[total]? = some left[total] := List.getElem?_eq_getElem e2
  have hrg : left[g]? = some left[g] := List.getElem?_eq_getElem hg2
  generalize left[total] = rt at hrt
  generalize left[g] = rg at hrg
  have hg3 := hg3 rg hrg
  obtain ⟨bt, hbt, hbtt, hbtL⟩ := hbs.get hrt
  obtain ⟨bg, hbg, hbgt, hbgL⟩ := hbs.get hrg
  have hgD : (((g :: gs').map fun g : Nat => (g : Int)).map V.int)[0]? = some (.int ((g : Nat) : Int)) := rfl
  have hL6 : H6 L = some (.lst (bs.map V.ref)) := s6 _ _ hL
  refine ⟨_, rfl, _, rfl, D, _, _, _, rfl, rfl, SqL.of hD6, atI_nat (j := 0) hgD, L, _, _, _, rfl, rfl, SqL.of hL6, atI_nat (j := g) (ref_get hbg), _, rfl, _, rfl, L, _, _, _, rfl, rfl, SqL.of hL6, atI_nat (j := total) (ref_get hbt),
    (by show 2 ≤ sizeLine; decide), fun t nt => ⟨t, _, rfl, SqT.of upd_same, rfl, _, _, rfl, _, rfl, _, rfl, L, _, _, total, rfl, rfl, same_upd nt _ _ hL6, ixN_at (by rw [List.length_map]; omega), _, _, rfl, ?_⟩⟩
  have hDL : D ≠ L := (ne_of_none hL nD).symm
  have hDt : D ≠ t := ne_of_none hD6 nt
  refine ⟨_, rfl, _, rfl, D, _, _, _, rfl, rfl, SqL.of (by rw [upd_ne hDL, upd_ne hDt]; exact hD6), atI_nat (j := 0) hgD, L, _, _, g, rfl, rfl, upd_same, ixN_at (by rw [List.length_set, List.length_map]; omega), rfl, ?_⟩
  have s7 : Same H6 (upd H6 t (.tup [.ref bg, .ref bt])) := same_upd nt
  have nL' : H L = none := nL
  have s8 : Same H (upd (upd (upd H6 t (.tup [.ref bg, .ref bt])) L (.lst ((bs.map V.ref).set total (.ref bg)))) L (.lst (((bs.map V.ref).set total (.ref bg)).set g (.ref bt)))) := same_mut (same_mut (s46.trans s7) nL) nL
  have hL8 : (upd (upd (upd H6 t (.tup [.ref bg, .ref bt])) L (.lst ((bs.map V.ref).set total (.ref bg)))) L (.lst (((bs.map V.ref).set total (.ref bg)).set g (.ref bt)))) L = some (.lst (((bs.set total bg).set g bt).map V.ref)) := by
    rw [upd_same, ref_set, ref_set]
  have hbs8 : RowsL (upd (upd (upd H6 t (.tup [.ref bg, .ref bt])) L (.lst ((bs.map V.ref).set total (.ref bg)))) L (.lst (((bs.map V.ref).set total (.ref bg)).set g (.ref bt)))) L ((bs.set total bg).set g bt) ((left.set total rg).set g rt) := by
    have h0 := hbs.same (s6.trans s7)
    have a1 := h0.set (i := total) (s7 _ _ (s6 _ _ hbgt)) hbgL
    exact (RowsL.set (i := g) (s7 _ _ (s6 _ _ hbtt)) hbtL a1).upd.upd
  show tSeq _ _ _ _ (upd (upd (upd H6 t (.tup [.ref bg, .ref bt])) L (.lst ((bs.map V.ref).set total (.ref bg)))) L (.lst (((bs.map V.ref).set total (.ref bg)).set g (.ref bt))))
  generalize (upd (upd (upd H6 t (.tup [.ref bg, .ref bt])) L (.lst ((bs.map V.ref).set total (.ref bg)))) L (.lst (((bs.map V.ref).set total (.ref bg)).set g (.ref bt)))) = H8 at s8 hL8 hbs8 ⊢
  have hI8 := hI.swap hrt hrg hg1
  have hbits8 : ∀ r ∈ (left.set total rg).set g rt, Bd (be e total) r := fun r hr => by
    rcases mem_set_of hr with hr | rfl
    · rcases mem_set_of hr with hr | rfl
      · exact hbits r hr
      · exact hbits _ (List.mem_of_getElem? hrg)
    · exact hbits _ (List.mem_of_getElem? hrt)
  have hf8 : ((left.set total rg).set g rt)[total]? = some rg := by
    by_cases z : g = total
    · subst z
      rw [List.getElem?_set_self (by rw [List.length_set]; exact hg2)]
      exact hrt.symm.trans hrg
    · rw [List.getElem?_set_ne z, List.getElem?_set_self e2]
  have hn8 : ((left.set total rg).set g rt).length = left.length := by rw [List.length_set, List.length_set]
  clear s46 s6 hD6 hL6 s7 nt hDL hDt hgD hrt hrg hbt hbtt hbtL hbg hbgt hbgL hL hbs hbits hI hbl
  generalize (left.set total rg).set g rt = left8 at hbs8 hI8 hbits8 hf8 hn8
  generalize (bs.set total bg).set g bt = bs8 at hL8 hbs8
  rw [← hn8] at e2
  have hn8' : left8.length = rows.length := hI8.n
  clear hn8 hn hcnt hg1 hg2
  -- the first one
  obtain ⟨fb, hfb, hfbt, hfbL⟩ := hbs8.get hf8
  refine ⟨_, rfl, _, rfl, L, _, _, _, rfl, rfl, SqL.of hL8, atI_nat (j := total) (ref_get hfb), ?_⟩
  have hbl8 := hbs8.len
  refine ⟨_, rfl, _, _, rfl, rfl, _, rfl, L, _, rfl, .inl (SqL.of hL8), _, _, rfl, ⟨by omega, by omega, by rw [List.length_map]; omega, by rw [List.length_map]; omega⟩, ?_⟩
  rw [List.length_map, hbl8]
  refine for_range (lo := ((total : Int) + 1)) (n := (((left8.length : Nat) : Int) - ((total : Int) + 1)).toNat) (fun i σ Hi => ∃ (lf : List (List Int)) (v8 v9 v10 v11 v12 v13 : Option V),
      σ = [some (.ref p), some (.ref L), some (.int (wd : Nat)), some (.int (total : Nat)), some (.int (at' : Nat)), some (.ref D), v6, some (.ref fb), v8, v9, v10, v11, v12, v13] ∧ Same H Hi ∧ LAt Hi L lf ∧ RI wd rows lf total at' ∧ lf[total]? = some rg ∧ Hi fb = some (.lst (rg.map V.int)) ∧
      (∀ j r, lf[j]? = some r → total < j → j < total + 1 + i → co r at' = 0) ∧ (∀ j r, lf[j]? = some r → j ≤ total ∨ total + 1 + i ≤ j → Bd (be e total) r) ∧ (∀ r ∈ lf, Bd (be e (total + 1)) r))
    ⟨left8, _, _, _, _, _, _, rfl, s8, ⟨bs8, hL8, hbs8⟩, hI8, hf8, hfbt, fun j r _ h1 h2 => by omega, fun j r hr _ => hbits8 r (List.mem_of_getElem? hr), fun r hr => (hbits8 r hr).mono (be_mono e (Nat.le_succ _))⟩ ?_ ?_
  · rintro i σ Hi hi ⟨lf, v8, v9, v10, v11, v12, v13, rfl, si, ⟨bsi, hLi, hbi⟩, hIi, hfi, hfbi, hz, hb1, hb2⟩
    have hlf : lf.length = left8.length := hIi.n.trans hn8'.symm
    have hk : total + 1 + i < lf.length := by omega
    have hrow : lf[total + 1 + i]? = some lf[total + 1 + i] := List.getElem?_eq_getElem hk
    generalize lf[total + 1 + i] = ot at hrow
    have hotl := hIi.len ot (List.mem_of_getElem? hrow)
    have hrgl := hIi.len rg (List.mem_of_getElem? hfi)
    have hbo := hb1 _ ot hrow (.inr (Nat.le_refl _))
    have hbr := hb1 _ rg hfi (.inl (Nat.le_refl _))
    have hbe1 : be e (total + 1) ≤ 8999 := Nat.le_trans (be_mono e (by omega)) hbe
    have hbe0 : be e total ≤ 8999 := Nat.le_trans (be_mono e (Nat.le_succ _)) hbe1
    obtain ⟨b, hb, hbt, hbL⟩ := hbi.get hrow
    refine ⟨_, rfl, _, rfl, L, _, _, _, rfl, rfl, SqL.of hLi, at_int (j := total + 1 + i) (by omega) (ref_get hb), _, rfl, b, _, _, _, rfl, rfl, SqL.of hbt, atI_co (by omega), ?_⟩
    refine ⟨_, rfl, _, rfl, L, _, _, _, rfl, rfl, SqL.of hLi, at_int (j := total + 1 + i) (by omega) (ref_get hb), ?_⟩
    refine ⟨_, rfl, fb, rfl, ⟨_, SqL.of hfbi⟩, fun D2 nD2 => ?_⟩
    refine lc_it (walk_list (K := K) (a := fb) (xs := rg.map V.int)) (fun c Hc => Same Hi Hc ∧ Hc D2 = some (.lst (((rg.take c).map fun v => co ot at' * v).map V.int))) ⟨same_upd nD2, upd_same⟩ (fun c Hc _ h => SqL.of (h.1 _ _ hfbi)) ?_ ?_
    · rintro c x Hc Hc2 hc ⟨sc, hDc⟩ ⟨rfl, hx⟩
      obtain ⟨n, hn, rfl⟩ := get_map hx
      rw [List.length_map] at hc
      refine ⟨rfl, _, rfl, _, rfl, _, _, rfl, rfl, mulOk (hbo at') (hbr.mem (mem_of_get hn)) (by omega), _, hDc, ?_, same_mut sc nD2, ?_⟩
      · rw [List.length_map, List.length_map, List.length_take]
        exact bigLine (by omega)
      · rw [upd_same, List.take_add_one, hn, List.map_append, List.map_append]
        rfl
    rintro Hj ⟨sj, hD2⟩
    rw [List.length_map, List.take_length] at hD2
    refine ⟨_, rfl, _, rfl, by omega, by omega, fun D3 nD3 => ?_⟩
    refine lc_range (lo := 0) (n := ((wd : Nat) : Int).toNat) (fun c Hc => Same Hj Hc ∧ Hc D3 = some (.lst (((List.range c).map fun p => co rg at' * co ot p - co ot at' * co rg p).map V.int))) ⟨same_upd nD3, upd_same⟩ ?_ ?_
    · rintro c Hc hc ⟨sc, hDc⟩
      have hc : c < wd := by omega
      have sic := sj.trans sc
      have hD2c : ((rg.map fun v => co ot at' * v).map V.int)[c]? = some (.int (co ot at' * co rg c)) := by
        rw [List.getElem?_map, List.getElem?_map, get_co (by omega)]
        rfl
      refine ⟨rfl, _, rfl, _, rfl, fb, _, _, _, rfl, rfl, SqL.of (sic _ _ hfbi), atI_co (by omega), _, rfl, _, rfl, b, _, _, _, rfl, rfl, SqL.of (sic _ _ hbt), at_int (j := c) (by omega) (int_get (by omega)), _, _, rfl, rfl, mulOk (hbr at') (hbo c) (by omega),
        _, rfl, _, rfl, D2, _, _, _, rfl, rfl, SqL.of (sc _ _ hD2), at_int (j := c) (by omega) hD2c, _, _, rfl, rfl, _, hDc, ?_, same_mut sc nD3, ?_⟩
      · rw [List.length_map, List.length_map, List.length_range]
        exact bigLine (by omega)
      · rw [upd_same, List.range_succ, List.map_append, List.map_append]
        rfl
    rintro Hk ⟨sk, hD3⟩
    rw [Int.toNat_natCast] at hD3
    have sik := sj.trans sk
    refine ⟨D3, crossL wd rg ot at', rfl, hD3, by rw [crossL_len]; exact hw1, (Bd.cross hrgl hotl hbr hbo).mono (by show be e (total + 1) ≤ 9000; omega), fun H7 z s7 hz1 hz7 => ?_⟩
    have hL7 := s7 _ _ (sik _ _ hLi)
    have hzL : z ≠ L := by
      rcases hz1 with rfl | hz1
      · exact (ne_of_none (sj _ _ hLi) nD3).symm
      · exact (ne_of_none (sik _ _ hLi) hz1).symm
    refine ⟨_, rfl, _, rfl, L, _, _, total + 1 + i, rfl, rfl, hL7, ixN_int (by omega) (by rw [List.length_map, hbi.len]; exact hk), ?_⟩
    obtain ⟨hE, hE0⟩ := hIi.elim hfi hg3 hrow (by omega) rfl
    refine ⟨lf.set (total + 1 + i) (thinL (crossL wd rg ot at')), _, _, _, _, _, _, rfl, same_mut (si.trans (sik.trans s7)) nL, ⟨bsi.set (total + 1 + i) z, by rw [upd_same, ref_set], ?_⟩, hE, by rw [List.getElem?_set_ne (by omega)]; exact hfi, ?_, fun j r hr h1 h2 => ?_, fun j r hr h1 => ?_, fun r hr => ?_⟩
    · exact (RowsL.set hz7 hzL (hbi.same (sik.trans s7))).upd
    · rw [upd_ne hfbL]
      exact s7 _ _ (sik _ _ hfbi)
    · by_cases z : j = total + 1 + i
      · subst z
        rw [List.getElem?_set_self hk] at hr
        rw [← Option.some.inj hr]
        exact hE0
      · rw [List.getElem?_set_ne (Ne.symm z)] at hr
        exact hz j r hr h1 (by omega)
    · have z : j ≠ total + 1 + i := by omega
      rw [List.getElem?_set_ne (Ne.symm z)] at hr
      exact hb1 j r hr (by omega)
    · rcases mem_set_of hr with hr | rfl
      · exact hb2 r hr
      · exact (Bd.cross hrgl hotl hbr hbo).thin
  rintro σ H9 ⟨lf, v8', v9', v10', v11', v12', v13', rfl, s9, hL9, hI9, hf9, hfb9, hz9, hb9, hb9'⟩
  have hlf : lf.length = left8.length := hI9.n.trans hn8'.symm
  refine ⟨_, rfl, _, _, rfl, rfl, ?_⟩
  refine ⟨_, rfl, _, _, rfl, rfl, ?_⟩
  exact ⟨wd - (at' + 1), by omega, total + 1, at' + 1, lf, _, _, _, _, _, _, _, _, _, rfl, s9, hL9, hI9.next hf9 hg3 fun j r hr h => hz9 j r hr h (by have := (List.getElem?_eq_some_iff.mp hr).1; omega), by omega, hb9', rfl⟩
end
end K41
namespace K41
open PySem PySem.Spec PyProof.Rows L2 LA
theorem bd3 {r : List Int} (h : ∀ x ∈ r, x.natAbs < 8) : Bd 3 r := fun p => by
  by_cases q : p < r.length
  · rw [co_lt q]
    exact h _ (List.getElem_mem q)
  · rw [co_ge (by omega)]
    decide
/-- all but the pool stands -/
def KeepP (p : Addr) (H H' : Hp) : Prop := ∀ b x, H b = some x → b ≠ p → H' b = some x
theorem KeepP.refl (p : Addr) (H : Hp) : KeepP p H H := fun _ _ h _ => h
theorem KeepP.trans {p : Addr} {H H1 H2 : Hp} (a : KeepP p H H1) (b : KeepP p H1 H2) : KeepP p H H2 := fun c x h n => b c x (a c x h n) n
theorem KeepP.of {p : Addr} {H H1 : Hp} (s : Same H H1) : KeepP p H H1 := fun c x h _ => s c x h
theorem KeepP.take {p : Addr} {H H1 : Hp} (f : ∀ b, b ≠ p → H1 b = H b) : KeepP p H H1 := fun b x e n => by
  rw [f b n]
  exact e
theorem KeepP.mut {p : Addr} {H H1 : Hp} {q : Addr} {u : HO} (s : KeepP p H H1) (h : H q = none) : KeepP p H (upd H1 q u) := fun b x e n => by
  rw [upd_ne (ne_of_none e h)]
  exact s _ _ e n
theorem KeepP.same {p : Addr} {H H1 H2 : Hp} (s : Same H H1) (k : KeepP p H1 H2) (h : H p = none) : Same H H2 := fun b x e => k b x (s b x e) (ne_of_none e h)
theorem KeepP.free {p : Addr} {H H' : Hp} (e : KeepP p H H') {q : Addr} (h : H' q = none) (n : q ≠ p) : H q = none := by
  cases r : H q with
  | none => rfl
  | some x =>
    rw [e q x r n] at h
    cases h
theorem PoolAt.ne {H : Hp} {p q : Addr} (P : PoolAt H p) (h : H q = none) : q ≠ p := by
  obtain ⟨x, y, e, _⟩ := P
  exact (ne_of_none e h).symm
theorem PoolAt.ne_tup {H : Hp} {p q : Addr} {xs : List V} (P : PoolAt H p) (h : H q = some (.tup xs)) : q ≠ p := by
  obtain ⟨x, y, e, _⟩ := P
  exact ne_of h e (by intro z; cases z)
theorem PoolAt.ne_refs {H : Hp} {p q : Addr} {as : List Addr} (P : PoolAt H p) (h : H q = some (.lst (as.map V.ref))) : q ≠ p := by
  obtain ⟨x, y, e, _⟩ := P
  refine ne_of h e fun z => ?_
  cases as with
  | nil => cases z
  | cons b bs => cases z
theorem PoolAt.off {H : Hp} {p q : Addr} {o : HO} (P : PoolAt H p) (h : q ≠ p) : PoolAt (upd H q o) p := by
  obtain ⟨x, y, e, r⟩ := P
  exact ⟨x, y, by rw [upd_ne (Ne.symm h)]; exact e, r⟩
theorem atI_ex {α : Type} {xs : List α} {r : Int} (h0 : 0 ≤ r) (h1 : r < xs.length) : ∃ c, atI xs r = some c ∧ c ∈ xs := by
  obtain ⟨j, rfl⟩ : ∃ j : Nat, r = (j : Int) := ⟨r.toNat, by omega⟩
  have hj : j < xs.length := by omega
  exact ⟨xs[j], atI_nat (List.getElem?_eq_getElem hj), List.getElem_mem hj⟩
theorem RIn.same {H H' : Hp} (s : Same H H') {p : Addr} {wd m : Nat} {rows : List (List Int)} (h : RIn H p wd rows m) : RIn H' p wd rows m := by
  obtain ⟨as, a, b, c⟩ := h
  exact ⟨as, s _ _ a, b.same s, c⟩
/-- rows, small enough by a number -/
theorem RIn.of {H : Hp} {p : Addr} {as : List Addr} {wd m : Nat} {rows : List (List Int)} (hp : H p = some (.lst (as.map V.ref))) (hq : RowsAt H as rows) (hw : Wd wd rows) (hb : ∀ r ∈ rows, Bd m r) (h60 : wd ≤ 60) (hn : rows.length ≤ 1000) (c : Nat) (hc : min rows.length wd ≤ c)
    (h1 : bits m c ≤ 9000) (h2 : m + c * (bits m c + 1) ≤ 9000) : RIn H p wd rows m := by
  refine ⟨as, hp, hq, fun r hr => ⟨hw r hr, hb r hr⟩, h60, hn, Nat.le_trans (bits_mono m hc) h1, ?_⟩
  have h3 := Nat.mul_le_mul hc (Nat.succ_le_succ (bits_mono m hc))
  have h3 : min rows.length wd * (bits m (min rows.length wd) + 1) ≤ c * (bits m c + 1) := h3
  omega
theorem mk_same {H H' : Hp} {x dx : Addr} {u : HO} (nx : H x = none) (nd : H dx = none) (hne : dx ≠ x) (k : ∀ b o, (upd (upd H dx (.own x)) x u) b = some o → b ≠ x → H' b = some o) : Same H H' := fun b o e => by
  have h1 : b ≠ x := ne_of_none e nx
  have h2 : b ≠ dx := ne_of_none e nd
  exact k b o (by rw [upd_ne h1, upd_ne h2]; exact e) h1
/-- Space(width, rows) -/
theorem use_init {a : Ads} {H : Hp} {p : Addr} {wd m : Nat} {rows : List (List Int)} {Q : Hp → Prop} {E : XK} (hw1 : 1 ≤ wd) (R : RIn H p wd rows m) {x dx : Addr} (nx : H x = none) (nd : H dx = none) (hne : dx ≠ x) (q : ∀ H', Same H H' → SpAt a H' x wd (tabL rows) → Q H') :
    spInit a (.ref x :: ([.int (wd : Nat), .ref p] ++ [])) (upd (upd H dx (.own x)) x (.ins a.c_Space dx [])) (fun v H2 => v = .non ∧ Q H2) E :=
  ⟨x, dx, p, wd, rows, m, rfl, hw1, upd_same, R.same ((same_upd nd).trans (same_upd (by rw [upd_ne (Ne.symm hne)]; exact nx))), fun H' k hS => ⟨rfl, q H' (mk_same nx nd hne k) hS⟩⟩
theorem use_repA {K : PySem.W.Frag} {H : Hp} {l : Addr} {v : V} {wd : Nat} {Q : VK} (hl : H l = some (.tup [v])) (h1 : 1 ≤ wd) (h2 : wd ≤ 1000) (q : ∀ H' t, Same H H' → H' t = some (.tup (List.replicate wd v)) → Q (.ref t) H') : OwT.rRepA K (.ref l) (.int (wd : Nat)) H Q := by
  by_cases e : wd = 1
  · subst e
    exact .inl ⟨l, _, rfl, rfl, SqT.of hl, q H l (Same.refl _) hl⟩
  · refine .inr ⟨l, (wd : Nat), _, rfl, rfl, SqT.of hl, by simp, by omega, by omega, (show 1 ≤ 1000 by decide), fun p np => q _ p (same_upd np) ?_⟩
    rw [upd_same, Int.toNat_natCast]
    congr 2
    clear q h1 h2 e
    induction wd with
    | zero => rfl
    | succ n ih => rw [List.replicate_succ, List.flatten_cons, ih, List.replicate_succ]; rfl
theorem reps (n : Nat) (x : Int) : (List.replicate n [V.int x]).flatten = (List.replicate n x).map V.int := by
  induction n with
  | zero => rfl
  | succ n ih => rw [List.replicate_succ, List.flatten_cons, ih, List.replicate_succ]; rfl
theorem repl_int (n : Nat) (x : Int) : List.replicate n (V.int x) = (List.replicate n x).map V.int := (List.map_replicate ..).symm
theorem dnat {x y : Nat} : decide (V.int (x : Int) = V.int (y : Int)) = decide (x = y) := by
  rw [dint]
  by_cases h : x = y
  · rw [decide_eq_true h, decide_eq_true (by omega)]
  · rw [decide_eq_false h, decide_eq_false (by omega)]
theorem bits45 : ∀ x, x ≤ 4 → bits 45 x ≤ 9000 ∧ 45 + x * (bits 45 x + 1) ≤ 9000 := by decide +kernel
theorem iteN {b : Bool} {x y : Prop} (hb : b = false) (h : y) : if b = true then x else y := by
  rw [hb]
  exact h
theorem sql_same {K : PySem.W.Frag} {H H' : Hp} {p : Addr} {xs : List V} (s : Same H H') (h : SqL K H p xs) : SqL K H' p xs := by
  rcases h with h | h
  · rcases h with h | ⟨o, h⟩
    · exact .inl (.inl (s _ _ h))
    · exact .inl (.inr ⟨o, s _ _ h⟩)
  · exact .inr h
theorem two_ways {G : Hp → Prop} {A : Prop} (H : Hp) (body : (∀ H', Same H H' → G H') → A) (rest : ∀ H', Same H H' → G H') : A := body rest
theorem SpAt.off {a : Ads} {H : Hp} {p x : Addr} {xs : List V} {o : HO} (hp : H p = some (.lst xs)) {wd : Nat} {T : List (Nat × List Int)} (h : SpAt a H x wd T) : SpAt a (upd H p o) x wd T := by
  obtain ⟨dx, d, hx, as, hr, hd⟩ := h
  exact ⟨dx, d, by rw [upd_ne (ne_of hx hp (by intro z; cases z))]; exact hx, as, hr.off hp (fun _ z => by cases z), by rw [upd_ne (ne_of hd hp (by intro z; cases z))]; exact hd⟩
def spLawRows : Sp := fun vs H Q _ => ∃ (pp : Addr) (wd many : Nat), vs = [.ref pp, .int (wd : Nat), .int (many : Nat)] ∧ PoolAt H pp ∧ wd ≤ 4 ∧ many ≤ 5 ∧
  ∀ H' z as rows, KeepP pp H H' → PoolAt H' pp → H z = none → H' z = some (.lst (as.map V.ref)) → RowsAt H' as rows → rows.length ≤ many → Wd wd rows → (∀ r ∈ rows, Bd 3 r) → Q (.ref z) H'
section
variable {P : Program} {w : World} {K : PySem.W.Frag} {mg : Str → Option Value} {base : Heap} {a : Ads}
theorem sc__law_rows : FnScope ["_law_pool_here", "_law_wide", "_law_many", "_law_rows_here", "_law_turn", "_law_at"] ["_law_pool_here", "_law_wide", "_law_many"] (defScope s__law_rows) := ⟨rfl, rfl, rfl, by decide +kernel, rfl, by decide +kernel, by decide +kernel⟩
theorem ok__law_rows (T : Txt K mg a) : FnOk P w K mg base CX0 2 a.f__law_rows a.f__law_rows_d ["_law_pool_here", "_law_wide", "_law_many"] spLawRows := by
  refine T.F__law_rows.ok sc__law_rows (fun vs H Q E h => ?_) (fun cdv A outer s H vs Q E hr h => ?_)
  · obtain ⟨pp, wd, many, rfl, _⟩ := h
    rfl
  obtain ⟨pp, wd, many, rfl, P0, hw, hm, q⟩ := h
  refine ⟨_, (pss_cons (ps_set (i := 3) sc__law_rows.nd rfl (Or.inl rfl) (pe_lst pa_nil))
    (pss_cons (ps_for PassesOwn.never rfl (pi_range1 (by rfl) T.range (pa_cons (pe_call (ok__law_take T) (hr.mono (by decide)) (by rfl) T.g__law_take T.F__law_take.kp T.b__law_take .nil pass0 (pa_cons (pv 0) (pa_cons (pe_op op_add (pv 2) pe_int) pa_nil))) pa_nil)) (pg_name (i := 4) sc__law_rows.nd rfl (Or.inl rfl))
      (pss_one (ps_expr (pe_bm PySem.F.plainAttrs_list PySem.F.slot_list_append PySem.F.type_list_append mt_append (pv 3) (pa_cons (pe_callTy call_tuple_of (by rfl) T.tuple (by decide +kernel) (pa_cons (pe_lc (own := [("_law_at", 5)]) (g := gName 5) (tt := tYes) (by rfl) sc__law_rows.nd (pi_range1 (by rfl) T.range (pa_cons (pv 1) pa_nil)) (blkOk_by (own := [("_law_at", 5)]) (N := ["_law_pool_here", "_law_wide", "_law_many", "_law_rows_here", "_law_turn", "_law_at"]) (sc := defScope s__law_rows) (by decide +kernel)) (fun _ _ _ _ _ => pg_name (i := 5) sc__law_rows.nd rfl (Or.inl rfl)) (fun _ _ _ _ _ => pts_nil) (fun _ _ _ _ _ => (pe_ix (show IxR _ (rIxL K) from ix_list) (pe_lst (pa_cons pe_int (pa_cons pe_int (pa_cons (pe_un un_neg pe_int) (pa_cons pe_int (pa_cons pe_int pa_nil)))))) (pe_call (ok__law_take T) (hr.mono (by decide)) (by rfl) T.g__law_take T.F__law_take.kp T.b__law_take .nil pass0 (pa_cons (pv 0) (pa_cons pe_int pa_nil))) (fun _ _ => rfl)))) pa_nil)) pa_nil)))))
    (pss_one (ps_ret (pv 3))))), ?_⟩
  refine ⟨(by show 0 ≤ sizeLine; decide), fun R nR => ?_⟩
  have s1 : Same H (upd H R (.lst [])) := same_upd nR
  have P1 := P0.same s1
  have hR1 : (upd H R (.lst [])) R = some (.lst []) := upd_same
  have hRp : R ≠ pp := P0.ne nR
  generalize (upd H R (.lst [])) = H1 at s1 P1 hR1 ⊢
  dsimp only [gName]
  refine ⟨_, rfl, _, rfl, _, _, rfl, rfl, pp, (many : Int) + 1, rfl, P1, by omega, by omega, fun r H5 r0 r1 P5 f5 => ⟨r, rfl, by omega, by omega, ?_⟩⟩
  refine for_range (lo := 0) (n := r.toNat) (fun i σ H' => ∃ (as : List Addr) (rows : List (List Int)) (v4 v5 : Option V), σ = [some (.ref pp), some (.int (wd : Nat)), some (.int (many : Nat)), some (.ref R), v4, v5] ∧
      KeepP pp H H' ∧ PoolAt H' pp ∧ H' R = some (.lst (as.map V.ref)) ∧ RowsAt H' as rows ∧ rows.length = i ∧ Wd wd rows ∧ ∀ r ∈ rows, Bd 3 r)
    ⟨[], [], _, _, rfl, (KeepP.of s1).trans (KeepP.take f5), P5, by rw [f5 R hRp]; exact hR1, trivial, rfl, fun _ h => (by cases h), fun _ h => (by cases h)⟩ ?_ ?_
  · rintro i σ H6 hi ⟨as, rows, v4, v5, rfl, k6, P6, hR6, hRs6, hrl, hrw, hrb⟩
    refine ⟨_, rfl, .inl ⟨rfl, _, SqL.of hR6⟩, _, rfl, _, rfl, by omega, by omega, fun D nD => ?_⟩
    have hDp := P6.ne nD
    refine lc_range (lo := 0) (n := ((wd : Nat) : Int).toNat) (fun c Hc => ∃ r : List Int, r.length = c ∧ (∀ x ∈ r, x.natAbs < 8) ∧ PoolAt Hc pp ∧ KeepP pp H6 Hc ∧ Hc D = some (.lst (r.map V.int))) ⟨[], rfl, fun _ h => (by cases h), P6.same (same_upd nD), KeepP.of (same_upd nD), upd_same⟩ ?_ ?_
    · rintro c Hc hc ⟨r, hrc, hrS, Pc, kc, hDc⟩
      refine ⟨rfl, _, rfl, (by show 5 ≤ sizeLine; decide), fun l nl => ⟨_, rfl, pp, 5, rfl, Pc.same (same_upd nl), by decide, by decide, fun x Hd x0 x1 Pd fd => ?_⟩⟩
      have hlp := Pc.ne nl
      have hDl : D ≠ l := ne_of_none hDc nl
      obtain ⟨v, hv, hmem⟩ := atI_ex (xs := [V.int 0, V.int 1, V.int (-1), V.int 2, V.int 5]) x0 (by show x < 5; exact x1)
      obtain ⟨n, rfl, hn⟩ : ∃ n : Int, v = .int n ∧ n.natAbs < 8 := by
        simp only [List.mem_cons, List.not_mem_nil, or_false] at hmem
        rcases hmem with rfl | rfl | rfl | rfl | rfl <;> exact ⟨_, rfl, by decide⟩
      have hl2 : Hd l = some (.lst [V.int 0, V.int 1, V.int (-1), V.int 2, V.int 5]) := by rw [fd l hlp, upd_same]
      have hD2 : Hd D = some (.lst (r.map V.int)) := by rw [fd D hDp, upd_ne hDl]; exact hDc
      refine ⟨l, _, _, _, rfl, rfl, SqL.of hl2, hv, _, hD2, ?_, r ++ [n], by rw [List.length_append]; exact congrArg (· + 1) hrc, fun y hy => ?_, Pd.off hDp, ?_, ?_⟩
      · rw [List.length_map, hrc]
        exact bigLine (by omega)
      · rcases List.mem_append.mp hy with hy | hy
        · exact hrS y hy
        · rw [List.mem_singleton.mp hy]; exact hn
      · exact (kc.trans ((KeepP.of (same_upd nl)).trans (KeepP.take fd))).mut nD
      · rw [upd_same, List.map_append]
        rfl
    · rintro Hc ⟨r, hrc, hrS, Pc, kc, hDc⟩
      have hrw' : r.length = wd := by omega
      have hRc : Hc R = some (.lst (as.map V.ref)) := kc _ _ hR6 hRp
      have hRsc : RowsAt Hc as rows := hRs6.imp fun b r e => kc _ _ e (P6.ne_tup e)
      refine ⟨D, _, rfl, .inl ⟨SqL.of hDc, fun l nl => ?_⟩⟩
      have hRl : R ≠ l := ne_of_none hRc nl
      have hR7 : (upd Hc l (.tup (r.map V.int))) R = some (.lst (as.map V.ref)) := by rw [upd_ne hRl]; exact hRc
      refine ⟨R, _, _, rfl, rfl, hR7, ?_, ?_⟩
      · rw [List.length_map, hRs6.len, hrl]
        exact bigLine (by omega)
      refine ⟨as ++ [l], rows ++ [r], _, _, rfl, ((k6.trans kc).trans (KeepP.of (same_upd nl))).mut nR, (Pc.same (same_upd nl)).off hRp, by rw [upd_same, List.map_append]; rfl, ?_, by rw [List.length_append, hrl]; rfl, fun y hy => ?_, fun y hy => ?_⟩
      · exact RowsAt.app (by rw [upd_ne (Ne.symm hRl), upd_same]) ((hRsc.same (same_upd nl)).off hR7 fun _ z => by cases z)
      · rcases List.mem_append.mp hy with hy | hy
        · exact hrw y hy
        · rw [List.mem_singleton.mp hy]; exact hrw'
      · rcases List.mem_append.mp hy with hy | hy
        · exact hrb y hy
        · rw [List.mem_singleton.mp hy]; exact bd3 hrS
  rintro σ H6 ⟨as, rows, v4, v5, rfl, k6, P6, hR6, hRs6, hrl, hrw, hrb⟩
  exact ⟨_, rfl, q H6 R as rows k6 P6 nR hR6 hRs6 (by omega) hrw hrb⟩
end
end K41
namespace K41
open PySem PySem.Spec PyProof.Rows L2 LA
/-- what stands through a turn of the law -/
structure Wld (a : Ads) (H : Hp) (R1 R2 G1 G2 O1 O2 : Addr) (as1 as2 : List Addr) (wd : Nat) (S1 S2 : List (List Int)) : Prop where
  r1 : H R1 = some (.lst (as1.map V.ref))
  q1 : RowsAt H as1 S1
  r2 : H R2 = some (.lst (as2.map V.ref))
  q2 : RowsAt H as2 S2
  g1 : H G1 = some (.lst (as1.map V.ref))
  g2 : H G2 = some (.lst (as2.map V.ref))
  o1 : SpAt a H O1 wd (tabL S1)
  o2 : SpAt a H O2 wd (tabL S2)
section
variable {a : Ads} {H H' : Hp} {R1 R2 G1 G2 O1 O2 pp : Addr} {as1 as2 : List Addr} {wd : Nat} {S1 S2 : List (List Int)}
theorem Wld.same (s : Same H H') (h : Wld a H R1 R2 G1 G2 O1 O2 as1 as2 wd S1 S2) : Wld a H' R1 R2 G1 G2 O1 O2 as1 as2 wd S1 S2 :=
  ⟨s _ _ h.r1, h.q1.same s, s _ _ h.r2, h.q2.same s, s _ _ h.g1, s _ _ h.g2, h.o1.same s, h.o2.same s⟩
theorem SpAt.keep (k : KeepP pp H H') (P : PoolAt H pp) {x : Addr} {T : List (Nat × List Int)} (h : SpAt a H x wd T) : SpAt a H' x wd T := by
  obtain ⟨dx, d, hx, as, hr, hd⟩ := h
  obtain ⟨u, v, hp, _⟩ := id P
  exact ⟨dx, d, k _ _ hx (ne_of hx hp (by intro z; cases z)), as, hr.imp fun b r e => k _ _ e (P.ne_tup e), k _ _ hd (ne_of hd hp (by intro z; cases z))⟩
theorem Wld.keep (k : KeepP pp H H') (P : PoolAt H pp) (h : Wld a H R1 R2 G1 G2 O1 O2 as1 as2 wd S1 S2) : Wld a H' R1 R2 G1 G2 O1 O2 as1 as2 wd S1 S2 :=
  ⟨k _ _ h.r1 (P.ne_refs h.r1), h.q1.imp fun b r e => k _ _ e (P.ne_tup e), k _ _ h.r2 (P.ne_refs h.r2), h.q2.imp fun b r e => k _ _ e (P.ne_tup e), k _ _ h.g1 (P.ne_refs h.g1), k _ _ h.g2 (P.ne_refs h.g2), h.o1.keep k P, h.o2.keep k P⟩
theorem tb_of {S : List (List Int)} {m c n : Nat} (h : Wd wd S) (hb : ∀ r ∈ S, Bd m r) (hc : (tabL S).length ≤ c) (e : bits m c = n) : TB n (tabL S) := fun l o mm => by
  have hB : Bits m (tabL S) := tabF_bits (w := wd) _ _ (.nil wd) (.nil m) fun r hr => ⟨h r hr, hb r hr⟩
  exact (hB l o mm).mono (e ▸ bits_mono m hc)
theorem tab_len3 {S : List (List Int)} {n : Nat} (h : S.length ≤ n) : (tabL S).length ≤ n := by
  have h2 := tab_len_n S []
  have h2 : (tabL S).length ≤ 0 + S.length := h2
  omega
theorem bd_srt {T : List (Nat × List Int)} {n : Nat} (hT : Tab wd T) (h : TB n T) : ∀ r ∈ sRows T, Bd n r := fun r m => (row_facts hT h m).2
end
def OddQ (H : Hp) (wd : Nat) (x : V) : Prop := BadRow H x wd ∧ NoSp H x
theorem nosp_ty {K : PySem.W.Frag} {C : Addr} {H : Hp} {x : V} (h : NoSp H x) : ∃ t, TyX K H x t ∧ PySem.W.notFirst K C t = true := by
  rcases h with rfl | ⟨i, rfl⟩ | ⟨p, xs, rfl, hp⟩ | ⟨p, xs, rfl, hp⟩
  · exact ⟨_, .base .non, OwT.notFirst_ty OwT.mro_non rfl⟩
  · exact ⟨_, .base (.int i), OwT.notFirst_ty OwT.mro_int rfl⟩
  · exact ⟨_, .base (.lst hp), OwT.notFirst_ty OwT.mro_list rfl⟩
  · exact ⟨_, .base (.tup hp), OwT.notFirst_ty OwT.mro_tuple rfl⟩
theorem OddQ.same {H H' : Hp} (s : Same H H') {wd : Nat} {x : V} (h : OddQ H wd x) : OddQ H' wd x := by
  obtain ⟨h1, h2⟩ := h
  constructor
  · rcases h1 with h | h | ⟨p, xs, e, h⟩ | ⟨p, xs, e, h, r⟩ | ⟨p, v, e, h, a, b, c⟩
    · exact .inl h
    · exact .inr (.inl h)
    · exact .inr (.inr (.inl ⟨p, xs, e, s _ _ h⟩))
    · exact .inr (.inr (.inr (.inl ⟨p, xs, e, s _ _ h, r⟩)))
    · exact .inr (.inr (.inr (.inr ⟨p, v, e, s _ _ h, a, b, c.same s⟩)))
  · rcases h2 with h | h | ⟨p, xs, e, h⟩ | ⟨p, xs, e, h⟩
    · exact .inl h
    · exact .inr (.inl h)
    · exact .inr (.inr (.inl ⟨p, xs, e, s _ _ h⟩))
    · exact .inr (.inr (.inr ⟨p, xs, e, s _ _ h⟩))
def dTwo (A B : List (List Int)) : PyData := .list [dRows A, dRows B]
theorem shaped_two (A B : List (List Int)) : SeqAt.shaped (dTwo A B) = true := by
  unfold SeqAt.shaped dTwo
  have h1 := depth_rows A
  have h2 := depth_rows B
  have h3 : PyData.depth (.list [dRows A, dRows B]) ≤ 64 := by simp only [PyData.depth, PyData.depthAll, dRows]; omega
  rw [decide_eq_true h3, Bool.and_true]
  simp only [PyData.canLay0, PyData.canLayAll0, dRows, lay_rows, Bool.and_self]
theorem eqv_rows (A : List (List Int)) : PyData.eqv (dRows A) (dRows A) = true := SeqAt.eqv_refl _ (SeqAt.canLay_of_shaped (shaped_rows A))
theorem eqv_two (A B : List (List Int)) : PyData.eqv (dTwo A B) (dTwo A B) = true := SeqAt.eqv_refl _ (SeqAt.canLay_of_shaped (shaped_two A B))
theorem emp_pos (T : List (Nat × List Int)) : (!T.isEmpty) = decide ((0 : Int) < (T.length : Nat)) := by
  cases T with
  | nil => rfl
  | cons x xs =>
    rw [List.length_cons, decide_eq_true (by omega)]
    rfl
/-- the scope of the outer comprehension -/
abbrev outSc : Scope := { kind := .function, names := [(".0", .local), ("_law_row", .local), ("tuple", .globalImplicit)], isGenerator := false, isCoroutine := false }
def spLaw (K : PySem.W.Frag) : Sp := fun vs H Q _ => ∃ (p : Addr) (ns : List Int), vs = [.ref p] ∧ SqL K H p (ns.map V.int) ∧ ns.length ≤ 63 ∧ ∀ H', Q (.bl true) H'
section
variable {P : Program} {w : World} {K : PySem.W.Frag} {mg : Str → Option Value} {base : Heap} {a : Ads}
theorem sc_law : FnScope ["_law_script", "_law_k", "_law_pool_here", "_law_wide", "_law_rank_here", "_law_far", "_law_row", "_law_both", "_law_odd", "_law_rows_here", "_law_others", "_law_given", "_law_more", "_law_one", "_law_other", "_law_value"] ["_law_script"] (defScope s_law) := ⟨rfl, rfl, rfl, by decide +kernel, rfl, by decide +kernel, by decide +kernel⟩
theorem ok_law (T : Txt K mg a) : FnOk P w K mg base CX0 12 a.f_law a.f_law_d ["_law_script"] (spLaw K) := by
  refine T.F_law.ok sc_law (fun vs H Q E h => ?_) (fun cdv A outer s H vs Q E hr h => ?_)
  · obtain ⟨p, ns, rfl, _⟩ := h
    rfl
  obtain ⟨scr, zs, rfl, hS, hlen, q⟩ := h
  refine ⟨_, (pss_cons (ps_for PassesOwn.never rfl (pi_range1 (by rfl) T.range (pa_cons (pe_callB (call_max2 rfl) (by rfl) T.max (by decide +kernel) (pa_cons pe_int (pa_cons (pe_callB (call_min2 rfl) (by rfl) T.min (by decide +kernel) (pa_cons (pe_callB call_len_seq (by rfl) T.len PySem.boot_len (pa_cons (pv 0) pa_nil)) (pa_cons pe_int pa_nil))) pa_nil))) pa_nil)) (pg_name (i := 1) sc_law.nd rfl (Or.inl rfl))
      (pss_cons (ps_set (i := 2) sc_law.nd rfl (Or.inl rfl) (pe_call (ok__law_pool T) (hr.mono (by decide)) (by rfl) T.g__law_pool T.F__law_pool.kp T.b__law_pool .nil pass0 (pa_cons (pv 0) (pa_cons (pv 1) pa_nil))))
      (pss_cons (ps_set (i := 3) sc_law.nd rfl (Or.inl rfl) (pe_op op_add pe_int (pe_call (ok__law_take T) (hr.mono (by decide)) (by rfl) T.g__law_take T.F__law_take.kp T.b__law_take .nil pass0 (pa_cons (pv 2) (pa_cons pe_int pa_nil)))))
      (pss_cons (ps_par (i := 9) (j := 10) (by rfl) sc_law.nd rfl rfl (by decide) rfl rfl (pa_cons (pe_call (ok__law_rows T) (hr.mono (by decide)) (by rfl) T.g__law_rows T.F__law_rows.kp T.b__law_rows .nil pass0 (pa_cons (pv 2) (pa_cons (pv 3) (pa_cons pe_int pa_nil)))) (pa_cons (pe_call (ok__law_rows T) (hr.mono (by decide)) (by rfl) T.g__law_rows T.F__law_rows.kp T.b__law_rows .nil pass0 (pa_cons (pv 2) (pa_cons (pv 3) (pa_cons pe_int pa_nil)))) pa_nil)) (by rfl))
      (pss_cons (ps_par (i := 11) (j := 12) (by rfl) sc_law.nd rfl rfl (by decide) rfl rfl (pa_cons (pe_callTy call_list_of (by rfl) T.list (by decide +kernel) (pa_cons (pv 9) pa_nil)) (pa_cons (pe_callTy call_list_of (by rfl) T.list (by decide +kernel) (pa_cons (pv 10) pa_nil)) pa_nil)) (by rfl))
      (pss_cons (ps_par (i := 13) (j := 14) (by rfl) sc_law.nd rfl rfl (by decide) rfl rfl (pa_cons (pe_make T.mk_Space (ok_Space___init__ T) (hr.mono (by decide)) (by rfl) T.mg_Space T.b_Space___init__ .nil pass0 (pa_cons (pv 3) (pa_cons (pv 11) pa_nil))) (pa_cons (pe_make T.mk_Space (ok_Space___init__ T) (hr.mono (by decide)) (by rfl) T.mg_Space T.b_Space___init__ .nil pass0 (pa_cons (pv 3) (pa_cons (pv 12) pa_nil))) pa_nil)) (by rfl))
      (pss_cons (ps_set (i := 4) sc_law.nd rfl (Or.inl rfl) (pe_call (ok__law_rank T) (hr.mono (by decide)) (by rfl) T.g__law_rank T.F__law_rank.kp T.b__law_rank .nil pass0 (pa_cons (pv 9) pa_nil)))
      (pss_cons (ps_if (PW.pt (pw_or (pt_cmpR op_ne (pe_callB (OwT.cr_len T.m_Space___len__.own (ok_Space___len__ T) (hr.mono (by decide)) T.b_Space___len__ pass0) (by rfl) T.len (by decide +kernel) (pa_cons (pv 13) pa_nil)) (pv 4) (nomark _)) (pw_or (pt_cmpR op_ne (pe_callTy (OwT.cr_bool T.m_Space___bool__.own (ok_Space___bool__ T) (hr.mono (by decide)) T.b_Space___bool__ pass0) (by rfl) T.bool (by decide +kernel) (pa_cons (pv 13) pa_nil)) (pe_cmpR op_gt (pv 4) pe_int (nomark _)) (nomark _)) (pw_or (pt_cmpR op_ne (pe_prop (pv 13) T.cl_Space T.pp_Space_width (ok_Space_width T) (hr.mono (by decide)) T.b_Space_width .nil pass0 rfl) (pv 3) (nomark _)) (pw_or1 (pt_cmpR op_ne (pe_callB call_len_seq (by rfl) T.len PySem.boot_len (pa_cons (pe_prop (pv 13) T.cl_Space T.pp_Space_rows (ok_Space_rows T) (hr.mono (by decide)) T.b_Space_rows .nil pass0 rfl) pa_nil)) (pv 4) (nomark _)))))))
        (pss_one (ps_ret pe_bl))
        pss_nil)
      (pss_cons (ps_if (pt_cmpR (op_neD hr.units) (pe_lst (pa_cons (pv 11) (pa_cons (pv 12) pa_nil))) (pe_lst (pa_cons (pv 9) (pa_cons (pv 10) pa_nil))) (nomark _))
        (pss_one (ps_ret pe_bl))
        pss_nil)
      (pss_cons (ps_setLc (i := 5) (own := [("_law_row", 6)]) (g := gName 6) (tt := tYes) (by rfl) sc_law.nd rfl rfl (sw_true rfl rfl rfl (by decide +kernel)) (pi_list (pv 9)) (blkOk_by (own := [("_law_row", 6)]) (N := ["_law_script", "_law_k", "_law_pool_here", "_law_wide", "_law_rank_here", "_law_far", "_law_row", "_law_both", "_law_odd", "_law_rows_here", "_law_others", "_law_given", "_law_more", "_law_one", "_law_other", "_law_value"]) (sc := defScope s_law) (by decide +kernel)) (fun _ _ _ _ _ => pg_name (i := 6) sc_law.nd rfl (Or.inl rfl)) (fun _ _ _ _ _ => pts_nil) (fun _ _ _ _ _ => (pe_callTy (show CallR _ (.type "tuple") (rTupOf K) from call_tuple_of) (by rfl) T.tuple (by decide +kernel) (pa_cons (pe_lc (own := [("_law_value", 15)]) (g := gName 15) (tt := tYes) (by rfl) sc_law.nd (show PI _ _ _ (iTup K (tVar 6)) from pi_tup (pv 6)) (blkOk_by (own := [("_law_value", 15)]) (N := ["_law_script", "_law_k", "_law_pool_here", "_law_wide", "_law_rank_here", "_law_far", "_law_row", "_law_both", "_law_odd", "_law_rows_here", "_law_others", "_law_given", "_law_more", "_law_one", "_law_other", "_law_value"]) (sc := outSc) (by decide +kernel)) (fun _ _ _ _ _ => pg_name (i := 15) sc_law.nd rfl (Or.inl rfl)) (fun _ _ _ _ _ => pts_nil) (fun _ _ _ _ _ => (pe_op op_mulW (pe_op op_pow pe_int pe_int) (pv 15)))) pa_nil))))
      (pss_cons (ps_if (pt_cmpR (OwT.op_ne T.m_Space___eq__.own T.mo T.ne (ok_Space___eq__ T) (hr.mono (by decide)) T.b_Space___eq__ pass0) (pe_make T.mk_Space (ok_Space___init__ T) (hr.mono (by decide)) (by rfl) T.mg_Space T.b_Space___init__ .nil pass0 (pa_cons (pv 3) (pa_cons (pv 5) pa_nil))) (pv 13) (nomark _))
        (pss_one (ps_ret pe_bl))
        pss_nil)
      (pss_cons (ps_for PassesOwn.never rfl (pi_list (pe_op op_cat (pe_call (ok__law_rows T) (hr.mono (by decide)) (by rfl) T.g__law_rows T.F__law_rows.kp T.b__law_rows .nil pass0 (pa_cons (pv 2) (pa_cons (pv 3) (pa_cons pe_int pa_nil)))) (pe_lst (pa_cons (pe_op OwT.op_repA (pe_tup (pa_cons pe_int pa_nil)) (pv 3)) (pa_cons (pe_callTy call_tuple_of (by rfl) T.tuple (by decide +kernel) (pa_cons (pe_op op_rep (pe_lst (pa_cons pe_int pa_nil)) (pv 3)) pa_nil)) pa_nil))))) (pg_name (i := 6) sc_law.nd rfl (Or.inl rfl))
        (pss_one (ps_if (pt_cmpR op_ne (pe_cmpR (OwT.op_in T.m_Space___contains__.own (ok_Space___contains__ T) (hr.mono (by decide)) T.b_Space___contains__ pass0) (pv 6) (pv 13) (by rfl)) (pe_cmpR op_eq (pe_call (ok__law_rank T) (hr.mono (by decide)) (by rfl) T.g__law_rank T.F__law_rank.kp T.b__law_rank .nil pass0 (pa_cons (pe_op op_cat (pv 9) (pe_lst (pa_cons (pv 6) pa_nil))) pa_nil)) (pv 4) (nomark _)) (nomark _))
          (pss_one (ps_ret pe_bl))
          pss_nil)))
      (pss_cons (ps_set (i := 7) sc_law.nd rfl (Or.inl rfl) (pe_call (ok__law_rank T) (hr.mono (by decide)) (by rfl) T.g__law_rank T.F__law_rank.kp T.b__law_rank .nil pass0 (pa_cons (pe_op op_cat (pv 9) (pv 10)) pa_nil)))
      (pss_cons (ps_if (PW.pt (pw_or (pt_cmpR op_ne (pe_callB (OwT.cr_len T.m_Space___len__.own (ok_Space___len__ T) (hr.mono (by decide)) T.b_Space___len__ pass0) (by rfl) T.len (by decide +kernel) (pa_cons (pe_op (OwT.op_or T.m_Space___or__.own T.sf (ok_Space___or__ T) (hr.mono (by decide)) T.b_Space___or__ pass0) (pv 13) (pv 14)) pa_nil)) (pv 7) (nomark _)) (pw_or (pt_not (pt_val (pe_meth (pv 13) T.cl_Space T.m_Space_is_within (ok_Space_is_within T) (hr.mono (by decide)) T.b_Space_is_within .nil pass0 (pa_cons (pe_op (OwT.op_or T.m_Space___or__.own T.sf (ok_Space___or__ T) (hr.mono (by decide)) T.b_Space___or__ pass0) (pv 13) (pv 14)) pa_nil)))) (pw_or1 (pt_cmpR (OwT.op_ne T.m_Space___eq__.own T.mo T.ne (ok_Space___eq__ T) (hr.mono (by decide)) T.b_Space___eq__ pass0) (pe_op (OwT.op_or T.m_Space___or__.own T.sf (ok_Space___or__ T) (hr.mono (by decide)) T.b_Space___or__ pass0) (pv 13) (pv 14)) (pe_op (OwT.op_or T.m_Space___or__.own T.sf (ok_Space___or__ T) (hr.mono (by decide)) T.b_Space___or__ pass0) (pv 14) (pv 13)) (nomark _))))))
        (pss_one (ps_ret pe_bl))
        pss_nil)
      (pss_cons (ps_if (pt_cmpR op_ne (pe_meth (pv 13) T.cl_Space T.m_Space_is_within (ok_Space_is_within T) (hr.mono (by decide)) T.b_Space_is_within .nil pass0 (pa_cons (pv 14) pa_nil)) (pe_cmpR op_eq (pv 7) (pe_call (ok__law_rank T) (hr.mono (by decide)) (by rfl) T.g__law_rank T.F__law_rank.kp T.b__law_rank .nil pass0 (pa_cons (pv 10) pa_nil)) (nomark _)) (nomark _))
        (pss_one (ps_ret pe_bl))
        pss_nil)
      (pss_cons (ps_if (PW.pt (pw_or (pt_cmpR op_ne (pe_cmpR (OwT.op_eq T.m_Space___eq__.own (ok_Space___eq__ T) (hr.mono (by decide)) T.b_Space___eq__ pass0) (pv 13) (pv 14) (nomark _)) (pe_and (pe_cmpR op_eq (pv 7) (pv 4) (nomark _)) (pe_one (pe_cmpR op_eq (pv 7) (pe_call (ok__law_rank T) (hr.mono (by decide)) (by rfl) T.g__law_rank T.F__law_rank.kp T.b__law_rank .nil pass0 (pa_cons (pv 10) pa_nil)) (nomark _)))) (nomark _)) (pw_or1 (pt_cmpR op_eq (pe_cmpR (OwT.op_ne T.m_Space___eq__.own T.mo T.ne (ok_Space___eq__ T) (hr.mono (by decide)) T.b_Space___eq__ pass0) (pv 13) (pv 14) (nomark _)) (pe_cmpR (OwT.op_eq T.m_Space___eq__.own (ok_Space___eq__ T) (hr.mono (by decide)) T.b_Space___eq__ pass0) (pv 13) (pv 14) (nomark _)) (nomark _)))))
        (pss_one (ps_ret pe_bl))
        pss_nil)
      (pss_cons (ps_for PassesOwn.never rfl (pi_list (pe_lst (pa_cons pe_non (pa_cons pe_int (pa_cons (pe_op op_rep (pe_lst (pa_cons pe_int pa_nil)) (pv 3)) (pa_cons (pe_op OwT.op_repA (pe_tup (pa_cons pe_int pa_nil)) (pe_op op_add (pv 3) pe_int)) (pa_cons (pe_op OwT.op_repA (pe_tup (pa_cons pe_str pa_nil)) (pv 3)) (pa_cons (pe_op OwT.op_repA (pe_tup (pa_cons pe_bl pa_nil)) (pv 3)) (pa_cons (pe_op OwT.op_repA (pe_tup (pa_cons (pe_tup pa_nil) pa_nil)) (pv 3)) pa_nil))))))))) (pg_name (i := 8) sc_law.nd rfl (Or.inl rfl))
        (pss_one (ps_if (PW.pt (pw_or (pt_cmpR (OwT.op_in T.m_Space___contains__.own (ok_Space___contains__N T) (hr.mono (by decide)) T.b_Space___contains__ pass0) (pv 8) (pv 13) (by rfl)) (pw_or1 (pt_cmpR (OwT.op_eq T.m_Space___eq__.own (ok_Space___eq__N T) (hr.mono (by decide)) T.b_Space___eq__ pass0) (pv 13) (pv 8) (nomark _)))))
          (pss_one (ps_ret pe_bl))
          pss_nil)))
      (pss_cons (ps_if (PW.pt (pw_or (pt_cmpR (op_neD hr.units) (pe_prop (pv 13) T.cl_Space T.pp_Space_rows (ok_Space_rows T) (hr.mono (by decide)) T.b_Space_rows .nil pass0 rfl) (pe_call (ok_reduced T) (hr.mono (by decide)) (by rfl) T.g_reduced T.F_reduced.kp T.b_reduced .nil pass0 (pa_cons (pv 9) (pa_cons (pv 3) pa_nil))) (nomark _)) (pw_or1 (pt_cmpR (op_neD hr.units) (pe_prop (pe_op (OwT.op_or T.m_Space___or__.own T.sf (ok_Space___or__ T) (hr.mono (by decide)) T.b_Space___or__ pass0) (pv 13) (pv 14)) T.cl_Space T.pp_Space_rows (ok_Space_rows T) (hr.mono (by decide)) T.b_Space_rows .nil pass0 rfl) (pe_call (ok_reduced T) (hr.mono (by decide)) (by rfl) T.g_reduced T.F_reduced.kp T.b_reduced .nil pass0 (pa_cons (pe_op op_cat (pv 10) (pv 9)) (pa_cons (pv 3) pa_nil))) (nomark _)))))
        (pss_one (ps_ret pe_bl))
        pss_nil)
      (pss_cons (ps_expr (pe_bm PySem.F.plainAttrs_list PySem.F.slot_list_append PySem.F.type_list_append mt_append (pe_prop (pv 13) T.cl_Space T.pp_Space_rows (ok_Space_rows T) (hr.mono (by decide)) T.b_Space_rows .nil pass0 rfl) (pa_cons pe_non pa_nil)))
      (pss_cons (ps_expr (pe_bm0 PySem.F.plainAttrs_list PySem.F.slot_list_clear PySem.F.type_list_clear mt_clear (pv 11)))
      (pss_one (ps_if (PW.pt (pw_or (pt_cmpR op_ne (pe_callB (OwT.cr_len T.m_Space___len__.own (ok_Space___len__ T) (hr.mono (by decide)) T.b_Space___len__ pass0) (by rfl) T.len (by decide +kernel) (pa_cons (pv 13) pa_nil)) (pv 4) (nomark _)) (pw_or1 (pt_cmpR (OwT.op_ne T.m_Space___eq__.own T.mo T.ne (ok_Space___eq__ T) (hr.mono (by decide)) T.b_Space___eq__ pass0) (pe_make T.mk_Space (ok_Space___init__ T) (hr.mono (by decide)) (by rfl) T.mg_Space T.b_Space___init__ .nil pass0 (pa_cons (pv 3) (pa_cons (pe_prop (pv 13) T.cl_Space T.pp_Space_rows (ok_Space_rows T) (hr.mono (by decide)) T.b_Space_rows .nil pass0 rfl) pa_nil))) (pv 13) (nomark _)))))
        (pss_one (ps_ret pe_bl))
        pss_nil))))))))))))))))))))))
    (pss_one (ps_ret (pe_and (pe_cmpR (OwT.op_ne T.m_Space___eq__.own T.mo T.ne (ok_Space___eq__ T) (hr.mono (by decide)) T.b_Space___eq__ pass0) (pe_make T.mk_Space (ok_Space___init__ T) (hr.mono (by decide)) (by rfl) T.mg_Space T.b_Space___init__ .nil pass0 (pa_cons pe_int (pa_cons (pe_lst pa_nil) pa_nil))) (pe_make T.mk_Space (ok_Space___init__ T) (hr.mono (by decide)) (by rfl) T.mg_Space T.b_Space___init__ .nil pass0 (pa_cons pe_int (pa_cons (pe_lst pa_nil) pa_nil))) (nomark _)) (pe_and (OwT.pe_notR (pe_make T.mk_Space (ok_Space___init__ T) (hr.mono (by decide)) (by rfl) T.mg_Space T.b_Space___init__ .nil pass0 (pa_cons pe_int (pa_cons (pe_lst (pa_cons (pe_tup (pa_cons pe_int pa_nil)) pa_nil)) pa_nil))) (OwT.tru_own T.m_Space___bool__.own (ok_Space___bool__ T) (hr.mono (by decide)) T.b_Space___bool__ pass0)) (pe_one (pe_cmpR (OwT.op_in T.m_Space___contains__.own (ok_Space___contains__ T) (hr.mono (by decide)) T.b_Space___contains__ pass0) (pe_tup (pa_cons pe_int (pa_cons pe_int pa_nil))) (pe_make T.mk_Space (ok_Space___init__ T) (hr.mono (by decide)) (by rfl) T.mg_Space T.b_Space___init__ .nil pass0 (pa_cons pe_int (pa_cons (pe_lst (pa_cons (pe_tup (pa_cons pe_int (pa_cons pe_int pa_nil))) pa_nil)) pa_nil))) (by rfl)))))))), ?_⟩
  refine ⟨_, rfl, scr, _, rfl, .inl hS, _, _, rfl, _, _, rfl, _, rfl, ?_⟩
  rw [List.length_map]
  refine ⟨by split <;> split <;> omega, by split <;> split <;> omega, ?_⟩
  refine for_range (lo := 0) (n := _) (fun k σ H' => ∃ v1 v2 v3 v4 v5 v6 v7 v8 v9 v10 v11 v12 v13 v14 v15, σ = [some (.ref scr), v1, v2, v3, v4, v5, v6, v7, v8, v9, v10, v11, v12, v13, v14, v15] ∧ Same H H') ⟨_, _, _, _, _, _, _, _, _, _, _, _, _, _, _, rfl, Same.refl H⟩ ?_ ?_
  · rintro k σ H1 hk ⟨v1, v2, v3, v4, v5, v6, v7, v8, v9, v10, v11, v12, v13, v14, v15, rfl, s1⟩
    have hk8 : k ≤ 8 := by
      revert hk
      split <;> split <;> omega
    -- the pool
    refine ⟨_, rfl, _, rfl, scr, k, zs, by rw [Int.zero_add]; rfl, sql_same s1 hS, by omega, hlen, fun H2 pp s2 np P2 => ?_⟩
    have npH : H pp = none := s1.free np
    have s02 := s1.trans s2
    -- the width
    refine ⟨_, rfl, pp, 4, rfl, P2, by decide, by decide, fun r H3 r0 r1 P3 f3 => ⟨_, _, rfl, rfl, ?_⟩⟩
    obtain ⟨wd, hwd⟩ : ∃ wd : Nat, 1 + r = (wd : Int) := ⟨(1 + r).toNat, by omega⟩
    have hw1 : 1 ≤ wd := by omega
    have hw4 : wd ≤ 4 := by omega
    have s03 : Same H H3 := KeepP.same s02 (KeepP.take f3) npH
    show gName 3 (V.int (1 + r)) _ _ _
    rw [hwd]
    clear f3 P2 s02 np s2 s1 hwd r0 r1
    dsimp only [gName]
    -- the rows
    refine ⟨_, rfl, _, rfl, pp, wd, 3, rfl, P3, hw4, by decide, fun H4 R1 as1 S1 k4 P4 nR1 hR1 hq1 hl1 hS1 hb1 => ⟨_, rfl, _, rfl, pp, wd, 3, rfl, P4, hw4, by decide, fun H5 R2 as2 S2 k5 P5 nR2 hR2 hq2 hl2 hS2 hb2 => ⟨_, _, rfl, ?_⟩⟩⟩
    have s05 : Same H H5 := KeepP.same (KeepP.same s03 k4 npH) k5 npH
    have hR1' := k5 _ _ hR1 (P4.ne_refs hR1)
    have hq1' : RowsAt H5 as1 S1 := hq1.imp fun b r e => k5 _ _ e (P4.ne_tup e)
    -- given, more
    refine ⟨_, rfl, R1, _, rfl, .inl (SqL.of hR1'), fun G1 nG1 => ⟨_, rfl, R2, _, rfl, .inl (SqL.of (same_upd nG1 _ _ hR2)), fun G2 nG2 => ⟨_, _, rfl, ?_⟩⟩⟩
    have s6 : Same H5 (upd (upd H5 G1 (.lst (as1.map V.ref))) G2 (.lst (as2.map V.ref))) := (same_upd nG1).trans (same_upd nG2)
    have hG1 : (upd (upd H5 G1 (.lst (as1.map V.ref))) G2 (.lst (as2.map V.ref))) G1 = some (.lst (as1.map V.ref)) := same_upd nG2 _ _ upd_same
    have hG2 : (upd (upd H5 G1 (.lst (as1.map V.ref))) G2 (.lst (as2.map V.ref))) G2 = some (.lst (as2.map V.ref)) := upd_same
    have nG1H : H G1 = none := s05.free nG1
    have P6 := P5.same s6
    have s06 := s05.trans s6
    have hR16 := s6 _ _ hR1'
    have hq16 := hq1'.same s6
    have hR26 := s6 _ _ hR2
    have hq26 := hq2.same s6
    show tSeq _ _ _ _ (upd (upd H5 G1 (.lst (as1.map V.ref))) G2 (.lst (as2.map V.ref)))
    generalize (upd (upd H5 G1 (.lst (as1.map V.ref))) G2 (.lst (as2.map V.ref))) = H6 at hG1 hG2 P6 s06 hR16 hq16 hR26 hq26 ⊢
    clear s6 nG1 nG2 hR1' hq1' hR2 hq2 k5 k4 s05 s03 P5 P4 P3 hR1 hq1 nR1 nR2
    -- the spaces
    have hR3 : RIn H6 G1 wd S1 3 := .of hG1 hq16 hS1 hb1 (by omega) (by omega) 3 (by omega) (by decide +kernel) (by decide +kernel)
    have hR4 : RIn H6 G2 wd S2 3 := .of hG2 hq26 hS2 hb2 (by omega) (by omega) 3 (by omega) (by decide +kernel) (by decide +kernel)
    refine ⟨_, rfl, _, rfl, fun O1 e1 nO1 ne1 hne1 => use_init hw1 hR3 nO1 ne1 hne1 fun H7 s7 hO1 => ⟨_, rfl, _, rfl, fun O2 e2 nO2 ne2 hne2 => use_init hw1 (hR4.same s7) nO2 ne2 hne2 fun H8 s8 hO2 => ⟨_, _, rfl, ?_⟩⟩⟩
    have s68 := s7.trans s8
    have W8 : Wld a H8 R1 R2 G1 G2 O1 O2 as1 as2 wd S1 S2 := ⟨s68 _ _ hR16, hq16.same s68, s68 _ _ hR26, hq26.same s68, s68 _ _ hG1, s68 _ _ hG2, hO1.same s8, hO2⟩
    have P8 := P6.same s68
    have s08 := s06.trans s68
    clear hR3 hR4 hO1 hO2 s8 s7 hne1 hne2 ne1 ne2 nO1 nO2 s68 hR16 hq16 hR26 hq26 hG1 hG2 s06 P6
    show tSeq _ _ _ _ H8
    -- bounds
    have hT1 := hS1.tab
    have hT2 := hS2.tab
    have ht1 : (tabL S1).length ≤ 3 := tab_len3 hl1
    have ht2 : (tabL S2).length ≤ 3 := tab_len3 hl2
    have hB1 : TB 45 (tabL S1) := tb_of hS1 hb1 ht1 (by decide +kernel)
    have hB2 : TB 45 (tabL S2) := tb_of hS2 hb2 ht2 (by decide +kernel)
    -- the rank
    refine ⟨_, rfl, R1, wd, as1, S1, 3, rfl, W8.r1, W8.q1, fun r hr => ⟨hS1 r hr, hb1 r hr⟩, by omega, by omega, Nat.le_trans (be_mono 3 (show S1.length - 1 ≤ 2 by omega)) (by decide), fun n1 H9 s9 hn1 hk1 => ?_⟩
    have W9 := W8.same s9
    have P9 := P8.same s9
    have s09 := s08.trans s9
    have en1 := rank_len hS1 hk1
    clear W8 P8 s08 s9
    dsimp only [gName]
    obtain ⟨dx1, d1, hx1, _⟩ := id W9.o1
    refine ⟨_, rfl, O1, dx1, _, rfl, hx1, O1, wd, tabL S1, rfl, W9.o1, (tabL S1).length, by omega, rfl, _, rfl, rfl, _, rfl, iteN (by rw [en1]; simp) ?_⟩
    refine ⟨_, rfl, O1, dx1, _, rfl, hx1, O1, wd, tabL S1, rfl, W9.o1, _, rfl, _, rfl, _, _, rfl, rfl, rfl, _, rfl, iteN (by rw [en1, emp_pos]; simp) ?_⟩
    refine ⟨_, rfl, O1, dx1, _, rfl, hx1, O1, wd, tabL S1, rfl, W9.o1, _, rfl, rfl, _, rfl, iteN (by simp) ?_⟩
    refine ⟨_, rfl, O1, dx1, _, rfl, hx1, O1, wd, tabL S1, rfl, W9.o1, by omega, fun H10 z as s10 nz hz hzs => ⟨z, _, rfl, .inl (SqL.of hz), _, rfl, rfl, _, rfl, iteN (by rw [List.length_map, hzs.len, sRows_len, en1]; simp) ?_⟩⟩
    have W10 := W9.same s10
    have P10 := P9.same s10
    have s010 := s09.trans s10
    clear W9 P9 s09 s10 hz hzs nz hx1
    -- given and more stand
    refine ⟨_, rfl, _, rfl, (by show 2 ≤ sizeLine; decide), fun l nl => ⟨_, rfl, _, rfl, (by show 2 ≤ sizeLine; decide), fun l' nl' => ⟨dTwo S1 S2, dTwo S1 S2, ?_, ?_, shaped_two S1 S2, shaped_two S1 S2, ?_⟩⟩⟩
    · have s := (same_upd (o := .lst [.ref G1, .ref G2]) nl).trans (same_upd (o := .lst [.ref R1, .ref R2]) nl')
      have W := W10.same s
      exact .lst (SqL.of (same_upd nl' _ _ upd_same)) (.cons (.lst (SqL.of W.g1) (dp_rows W.q1)) (.cons (.lst (SqL.of W.g2) (dp_rows W.q2)) .nil))
    · have s := (same_upd (o := .lst [.ref G1, .ref G2]) nl).trans (same_upd (o := .lst [.ref R1, .ref R2]) nl')
      have W := W10.same s
      exact .lst (SqL.of upd_same) (.cons (.lst (SqL.of W.r1) (dp_rows W.q1)) (.cons (.lst (SqL.of W.r2) (dp_rows W.q2)) .nil))
    refine ⟨_, rfl, iteN (by rw [eqv_two]; rfl) ?_⟩
    have s11 : Same H10 (upd (upd H10 l (.lst [.ref G1, .ref G2])) l' (.lst [.ref R1, .ref R2])) := (same_upd nl).trans (same_upd nl')
    show tSeq _ _ _ _ (upd (upd H10 l (.lst [.ref G1, .ref G2])) l' (.lst [.ref R1, .ref R2]))
    generalize (upd (upd H10 l (.lst [.ref G1, .ref G2])) l' (.lst [.ref R1, .ref R2])) = H11 at s11 ⊢
    have W11 := W10.same s11
    have P11 := P10.same s11
    have s011 := s010.trans s11
    clear W10 P10 s010 s11 nl nl'
    -- far rows
    refine ⟨_, rfl, R1, rfl, ⟨_, SqL.of W11.r1⟩, fun D nD => ?_⟩
    refine lc_it (walk_list (K := K) (a := R1) (xs := as1.map V.ref)) (fun i H' => ∃ bs : List Addr, Same H11 H' ∧ H' D = some (.lst (bs.map V.ref)) ∧ RowsAt H' bs (farL (10 ^ Int.toNat 20) (S1.take i)))
      ⟨[], same_upd nD, upd_same, trivial⟩ (fun i H' _ ⟨_, s, _⟩ => SqL.of (s _ _ W11.r1)) ?_ ?_
    · rintro i x Hi Hj hi ⟨bs, si, hD, hbs⟩ ⟨rfl, hx⟩
      obtain ⟨b, hb, rfl⟩ := get_map hx
      obtain ⟨r, hrr, hbt⟩ := (W11.q1.same si).get hb
      have hrw := hS1 r (List.mem_of_getElem? hrr)
      have hrb := hb1 r (List.mem_of_getElem? hrr)
      have hbl : bs.length = min i S1.length := by
        rw [hbs.len]
        unfold farL
        rw [List.length_map, List.length_take]
      refine ⟨rfl, _, rfl, b, rfl, ⟨_, SqT.of hbt⟩, fun D2 nD2 => ?_⟩
      refine lc_it (walk_tup (K := K) (a := b) (xs := r.map V.int)) (fun c Hc => Same Hj Hc ∧ Hc D2 = some (.lst (((r.take c).map fun n => 10 ^ Int.toNat 20 * n).map V.int))) ⟨same_upd nD2, upd_same⟩ (fun c Hc _ h => SqT.of (h.1 _ _ hbt)) ?_ ?_
      · rintro c x2 Hc Hc2 hc ⟨sc, hDc⟩ ⟨rfl, hx2⟩
        obtain ⟨n, hn, rfl⟩ := get_map hx2
        rw [List.length_map] at hc
        refine ⟨rfl, _, _, rfl, rfl, ⟨by decide, by decide, by decide⟩, _, rfl, _, _, rfl, rfl, mulOk (m := 70) (n := 3) (by decide +kernel) (hrb.mem (mem_of_get hn)) (by decide), _, hDc, ?_, same_mut sc nD2, ?_⟩
        · rw [List.length_map, List.length_map, List.length_take]
          exact bigLine (by omega)
        · rw [upd_same, List.take_add_one, hn, List.map_append, List.map_append]
          rfl
      · rintro Hc ⟨sc, hDc⟩
        rw [List.length_map, List.take_length] at hDc
        refine ⟨D2, _, rfl, .inl ⟨SqL.of hDc, fun l nl => ?_⟩⟩
        have sl := sc.trans (same_upd (o := .tup ((r.map fun n => 10 ^ Int.toNat 20 * n).map V.int)) nl)
        have hD' := sl _ _ hD
        refine ⟨_, hD', ?_, bs ++ [l], same_mut (si.trans sl) nD, by rw [upd_same, List.map_append]; rfl, ?_⟩
        · rw [List.length_map, hbl]
          exact bigLine (by omega)
        · unfold farL at hbs ⊢
          rw [List.take_add_one, hrr, List.map_append]
          exact RowsAt.app (by rw [upd_ne (ne_of (upd_same (H := Hc)) hD' (by intro z; cases z)), upd_same]) ((hbs.same sl).off hD' (fun _ z => by cases z))
    rintro H12 ⟨fs, s12, hD12, hf12⟩
    rw [List.length_map, W11.q1.len, List.take_length] at hf12
    have W12 := W11.same s12
    have P12 := P11.same s12
    have s012 := s011.trans s12
    have hFb : ∀ r ∈ farL (10 ^ Int.toNat 20) S1, Bd 73 r := fun r hr => by
      obtain ⟨s, ms, e⟩ := List.mem_map.mp hr
      intro p
      have h1 := hb1 s ms p
      rw [← e, co_map (f := fun n => 10 ^ Int.toNat 20 * n) (Int.mul_zero _), Int.natAbs_mul]
      have h2 : (10 ^ Int.toNat 20 : Int).natAbs < 2 ^ 70 := by decide +kernel
      have h3 : (10 ^ Int.toNat 20 : Int).natAbs * (co s p).natAbs ≤ 2 ^ 70 * 2 ^ 3 - 2 ^ 70 := by
        have h4 := Nat.mul_le_mul (Nat.le_of_lt h2) (show (co s p).natAbs ≤ 2 ^ 3 - 1 by omega)
        omega
      exact Nat.lt_of_le_of_lt h3 (by decide)
    have hRF : RIn H12 D wd (farL (10 ^ Int.toNat 20) S1) 73 := .of hD12 hf12 (far_wd _ hS1) hFb (by omega) (by unfold farL; rw [List.length_map]; omega) 3 (by unfold farL; rw [List.length_map]; omega) (by decide +kernel) (by decide +kernel)
    clear W11 P11 s011 s12 nD
    dsimp only [gName]
    refine ⟨_, rfl, _, rfl, fun X e nX ne hne => use_init hw1 hRF nX ne hne fun H13 s13 hX => ?_⟩
    obtain ⟨dx1, d1, hx1, _⟩ := id (W12.same s13).o1
    obtain ⟨dX, dd, hxX, _⟩ := id hX
    refine ⟨_, rfl, X, dX, _, _, rfl, hxX, tyS T hx1, OwT.notFirst_self, X, O1, wd, wd, _, _, rfl, hX, (W12.same s13).o1, hT1, ⟨_, rfl, ?_⟩⟩
    rw [far_eq (by decide +kernel) hS1, decide_eq_true rfl]
    refine ⟨_, rfl, iteN rfl ?_⟩
    have W13 := W12.same s13
    have P13 := P12.same s13
    have s013 := s012.trans s13
    clear W12 P12 s012 s13 hX hxX hx1 hRF hFb hD12 hf12 nX ne hne
    show tSeq _ _ _ _ H13
    -- more rows
    refine ⟨_, rfl, _, rfl, pp, wd, 5, rfl, P13, hw4, by decide, fun H14 R3 as3 S3 k14 P14 nR3 hR3 hq3 hl3 hS3 hb3 => ?_⟩
    have W14 := W13.keep k14 P13
    have s014 := KeepP.same s013 k14 npH
    refine ⟨(by show 1 ≤ sizeLine; decide), fun t nt => ⟨_, rfl, use_repA upd_same hw1 (by omega) fun H15 t0 s15 ht0 => ?_⟩⟩
    have s15 := (same_upd nt).trans s15
    refine ⟨(by show 1 ≤ sizeLine; decide), fun l nl => ⟨_, rfl, l, _, [.int 7], rfl, rfl, upd_same, by omega, by omega, ?_, fun l7 nl7 => ⟨l7, _, rfl, .inl ⟨SqL.of upd_same, fun t7 nt7 => ?_⟩⟩⟩⟩
    · show 1 * _ ≤ sizeLine
      rw [Int.toNat_natCast]
      exact Nat.le_of_lt (bigLine (by omega))
    rw [Int.toNat_natCast, reps] at nt7 ⊢
    have s16 : Same H15 (upd (upd (upd H15 l (.lst [.int 7])) l7 (.lst ((List.replicate wd (7 : Int)).map V.int))) t7 (.tup ((List.replicate wd (7 : Int)).map V.int))) := by
      exact ((same_upd nl).trans (same_upd nl7)).trans (same_upd nt7)
    have ht7 : (upd (upd (upd H15 l (.lst [.int 7])) l7 (.lst ((List.replicate wd (7 : Int)).map V.int))) t7 (.tup ((List.replicate wd (7 : Int)).map V.int))) t7 = some (.tup ((List.replicate wd (7 : Int)).map V.int)) := upd_same
    generalize (upd (upd (upd H15 l (.lst [.int 7])) l7 (.lst ((List.replicate wd (7 : Int)).map V.int))) t7 (.tup ((List.replicate wd (7 : Int)).map V.int))) = H16 at s16 ht7 ⊢
    have s146 := s15.trans s16
    refine ⟨(by show 2 ≤ sizeLine; decide), fun L nL => ⟨R3, L, _, _, rfl, rfl, same_upd nL _ _ (s146 _ _ hR3), upd_same, ?_, fun M nM => ?_⟩⟩
    · show _ + 2 ≤ sizeLine
      rw [List.length_map, hq3.len]
      exact Nat.le_of_lt (bigLine (by omega))
    have s17 : Same H14 (upd (upd H16 L (.lst [.ref t0, .ref t7])) M (.lst (as3.map V.ref ++ [.ref t0, .ref t7]))) := s146.trans ((same_upd nL).trans (same_upd nM))
    have hM : (upd (upd H16 L (.lst [.ref t0, .ref t7])) M (.lst (as3.map V.ref ++ [.ref t0, .ref t7]))) M = some (.lst ((as3 ++ [t0, t7]).map V.ref)) := by
      rw [upd_same, List.map_append]
      rfl
    have s167 : Same H16 (upd (upd H16 L (.lst [.ref t0, .ref t7])) M (.lst (as3.map V.ref ++ [.ref t0, .ref t7]))) := (same_upd nL).trans (same_upd nM)
    generalize (upd (upd H16 L (.lst [.ref t0, .ref t7])) M (.lst (as3.map V.ref ++ [.ref t0, .ref t7]))) = H17 at s17 s167 hM ⊢
    have hqM : RowsAt H17 (as3 ++ [t0, t7]) (S3 ++ [List.replicate wd 0, List.replicate wd 7]) := (hq3.same s17).append ⟨by rw [← repl_int]; exact s167 _ _ (s16 _ _ ht0), s167 _ _ ht7, trivial⟩
    have hSM : ∀ r ∈ S3 ++ [List.replicate wd (0 : Int), List.replicate wd 7], r.length = wd ∧ Bd 3 r := fun r hr => by
      rcases List.mem_append.mp hr with hr | hr
      · exact ⟨hS3 r hr, hb3 r hr⟩
      · simp only [List.mem_cons, List.not_mem_nil, or_false] at hr
        rcases hr with rfl | rfl
        · exact ⟨List.length_replicate, bd3 fun x hx => by rw [List.eq_of_mem_replicate hx]; decide⟩
        · exact ⟨List.length_replicate, bd3 fun x hx => by rw [List.eq_of_mem_replicate hx]; decide⟩
    have W17 := W14.same s17
    have s017 := s014.trans s17
    clear W14 s014 s17 s167 s16 ht7 ht0 s15 s146 W13 P13 s013 k14 P14 nR3 hR3 hq3 nl nl7 nt7 nt
    refine ⟨M, rfl, ⟨_, SqL.of hM⟩, for_it (walk_list (K := K) (a := M) (xs := (as3 ++ [t0, t7]).map V.ref)) (fun i σ H' => ∃ v6 v7 v8 v15, σ = [some (.ref scr), some (.int (0 + (k : Nat))), some (.ref pp), some (.int (wd : Nat)), some (.int (n1 : Nat)), some (.ref D), v6, v7, v8, some (.ref R1), some (.ref R2), some (.ref G1), some (.ref G2), some (.ref O1), some (.ref O2), v15] ∧ Same H17 H')
      ⟨_, _, _, _, rfl, Same.refl _⟩ (fun i σ H' _ ⟨_, _, _, _, _, s1⟩ => SqL.of (s1 _ _ hM)) ?_ ?_⟩
    · rintro i x σ Hi Hj hi ⟨v6, v7, v8, v15, rfl, si⟩ ⟨rfl, hx⟩
      obtain ⟨b, hb, rfl⟩ := get_map hx
      obtain ⟨r, hrr, hbt⟩ := (hqM.same si).get hb
      obtain ⟨hrw, hrb⟩ := hSM r (List.mem_of_getElem? hrr)
      have Wi := W17.same si
      obtain ⟨dx1, d1, hx1, _⟩ := id Wi.o1
      refine ⟨_, rfl, _, rfl, O1, dx1, _, rfl, hx1, O1, b, wd, tabL S1, r, 3, 45, rfl, Wi.o1, hT1, hbt, hrw, by omega, hrb, hB1, by have := Nat.mul_le_mul_right 46 ht1; omega, fun Hk sk => ⟨_, rfl, ?_⟩⟩
      have Wk := Wi.same sk
      refine ⟨_, rfl, _, rfl, (by show 1 ≤ sizeLine; decide), fun l nl => ⟨R1, l, _, _, rfl, rfl, same_upd nl _ _ Wk.r1, upd_same, ?_, fun z nz => ⟨z, wd, as1 ++ [b], S1 ++ [r], 3, rfl, by rw [upd_same, List.map_append]; rfl, ?_, ?_, by omega, by rw [List.length_append]; show _ + 1 ≤ 1000; omega, Nat.le_trans (be_mono 3 (show (S1 ++ [r]).length - 1 ≤ 5 by rw [List.length_append]; show _ + 1 - 1 ≤ 5; omega)) (by decide), fun n' Hm sm hn' hk' => ⟨_, rfl, rfl, rfl, _, rfl, iteN ?_ ?_⟩⟩⟩⟩
      · show _ + 1 ≤ sizeLine
        rw [List.length_map, W17.q1.len]
        exact Nat.le_of_lt (bigLine (by omega))
      · exact ((Wk.q1.append (show RowsAt Hk [b] [r] from ⟨sk _ _ hbt, trivial⟩)).same (same_upd nl)).same (same_upd nz)
      · intro y hy
        rcases List.mem_append.mp hy with hy | hy
        · exact ⟨hS1 y hy, hb1 y hy⟩
        · rw [List.mem_singleton.mp hy]; exact ⟨hrw, hrb⟩
      · rw [in_ok hS1 hrw hk1 hk', dnat]
        simp
      · exact ⟨_, _, _, _, rfl, si.trans (sk.trans (((same_upd nl).trans (same_upd nz)).trans sm))⟩
    rintro σ H18 ⟨v6, v7, v8, v15, rfl, s18⟩
    have W18 := W17.same s18
    have s018 := s017.trans s18
    clear W17 s017 s18 hqM hSM hM nL nM
    -- the rank of both
    refine ⟨_, rfl, _, rfl, R1, R2, _, _, rfl, rfl, W18.r1, W18.r2, ?_, fun z nz => ⟨z, wd, as1 ++ as2, S1 ++ S2, 3, rfl, by rw [upd_same, List.map_append], (W18.q1.append W18.q2).same (same_upd nz), ?_, by omega, by rw [List.length_append]; omega, Nat.le_trans (be_mono 3 (show (S1 ++ S2).length - 1 ≤ 5 by rw [List.length_append]; omega)) (by decide), fun bo H19 s19 hbo hkb => ?_⟩⟩
    · rw [List.length_map, List.length_map, W18.q1.len, W18.q2.len]
      exact Nat.le_of_lt (bigLine (by omega))
    · intro y hy
      rcases List.mem_append.mp hy with hy | hy
      · exact ⟨hS1 y hy, hb1 y hy⟩
      · exact ⟨hS2 y hy, hb2 y hy⟩
    have s19 := (same_upd nz).trans s19
    have W19 := W18.same s19
    have s019 := s018.trans s19
    clear W18 s018 s19 nz
    dsimp only [gName]
    have hc12 : min ((tabL S1).length + (tabL S2).length) wd ≤ 4 := by omega
    have hc21 : min ((tabL S2).length + (tabL S1).length) wd ≤ 4 := by omega
    have hUT := (un_wd hS1 hS2).tab
    have hUT' := (un_wd hS2 hS1).tab
    have hUl := tab_len_le hUT
    have hUB : TB 1909 (tabL (sRows (tabL S1) ++ sRows (tabL S2))) := tb_of (un_wd hS1 hS2) (fun r hr => (List.mem_append.mp hr).elim (bd_srt hT1 hB1 r) (bd_srt hT2 hB2 r)) (show _ ≤ 4 by omega) (by decide +kernel)
    obtain ⟨dx1, d1, hx1, _⟩ := id W19.o1
    obtain ⟨dx2, d2, hx2, _⟩ := id W19.o2
    refine ⟨_, rfl, _, rfl, O1, dx1, _, O2, dx2, _, rfl, rfl, hx1, hx2, O1, O2, wd, _, _, 45, rfl, W19.o1, W19.o2, hT1, hT2, hB1, hB2, hw1, by omega, (bits45 _ hc12).1, (bits45 _ hc12).2, fun H20 U s20 nU hU => ?_⟩
    obtain ⟨dxU, dU, hxU, _⟩ := id hU
    refine ⟨⟨_, rfl⟩, U, dxU, _, rfl, hxU, U, wd, _, rfl, hU, _, by omega, rfl, _, rfl, rfl, _, rfl, iteN (by rw [un_len hS1 hS2 hkb]; simp) ?_⟩
    have W20 := W19.same s20
    have s020 := s019.trans s20
    clear W19 s019 s20 hU hxU nU hx1 hx2
    obtain ⟨dx1, d1, hx1, _⟩ := id W20.o1
    obtain ⟨dx2, d2, hx2, _⟩ := id W20.o2
    refine ⟨_, rfl, O1, dx1, _, rfl, hx1, rfl, _, rfl, _, rfl, O1, dx1, _, O2, dx2, _, rfl, rfl, hx1, hx2, O1, O2, wd, _, _, 45, rfl, W20.o1, W20.o2, hT1, hT2, hB1, hB2, hw1, by omega, (bits45 _ hc12).1, (bits45 _ hc12).2, fun H21 U s21 nU hU => ⟨⟨_, rfl⟩, O1, U, wd, _, _, 45, 1909, rfl, W20.o1.same s21, hU, hT1, hUT, hB1, hUB, by omega, by have := Nat.mul_le_mul_right 1910 (show (tabL (sRows (tabL S1) ++ sRows (tabL S2))).length ≤ 4 by omega); omega, fun H22 s22 => ⟨_, rfl, iteN (by rw [un_within hS1 hS2]; rfl) ?_⟩⟩⟩
    have W22 := (W20.same s21).same s22
    have s022 := (s020.trans s21).trans s22
    clear W20 s020 s21 s22 hU nU hx1 hx2
    obtain ⟨dx1, d1, hx1, _⟩ := id W22.o1
    obtain ⟨dx2, d2, hx2, _⟩ := id W22.o2
    refine ⟨_, rfl, _, rfl, O1, dx1, _, O2, dx2, _, rfl, rfl, hx1, hx2, O1, O2, wd, _, _, 45, rfl, W22.o1, W22.o2, hT1, hT2, hB1, hB2, hw1, by omega, (bits45 _ hc12).1, (bits45 _ hc12).2, fun H23 U s23 nU hU => ⟨⟨_, rfl⟩, ?_⟩⟩
    refine ⟨_, rfl, _, rfl, O2, dx2, _, O1, dx1, _, rfl, rfl, s23 _ _ hx2, s23 _ _ hx1, O2, O1, wd, _, _, 45, rfl, W22.o2.same s23, W22.o1.same s23, hT2, hT1, hB2, hB1, hw1, by omega, (bits45 _ hc21).1, (bits45 _ hc21).2, fun H24 U' s24 nU' hU' => ⟨⟨_, rfl⟩, ?_⟩⟩
    have hU := hU.same s24
    obtain ⟨dxU, dU, hxU, _⟩ := id hU
    obtain ⟨dxU', dU', hxU', _⟩ := id hU'
    refine ⟨U, dxU, _, _, rfl, hxU, tyS T hxU', OwT.notFirst_self, U, U', wd, wd, _, _, rfl, hU, hU', hUT', ⟨_, rfl, _, rfl, iteN (by rw [un_eq hS1 hS2, decide_eq_true rfl]; rfl) ?_⟩⟩
    have W24 := (W22.same s23).same s24
    have s024 := (s022.trans s23).trans s24
    clear W22 s022 s23 s24 hU hU' hxU hxU' nU nU' hx1 hx2
    show tSeq _ _ _ _ H24
    -- within
    obtain ⟨dx1, d1, hx1, _⟩ := id W24.o1
    obtain ⟨dx2, d2, hx2, _⟩ := id W24.o2
    refine ⟨_, rfl, O1, dx1, _, rfl, hx1, rfl, _, rfl, O1, O2, wd, _, _, 45, 45, rfl, W24.o1, W24.o2, hT1, hT2, hB1, hB2, by omega, by have := Nat.mul_le_mul_right 46 ht2; omega, fun H25 s25 => ?_⟩
    refine ⟨_, rfl, _, rfl, R2, wd, as2, S2, 3, rfl, (W24.same s25).r2, (W24.same s25).q2, fun r hr => ⟨hS2 r hr, hb2 r hr⟩, by omega, by omega, Nat.le_trans (be_mono 3 (show S2.length - 1 ≤ 2 by omega)) (by decide), fun n2 H26 s26 hn2 hk2 => ⟨rfl, rfl, _, rfl, iteN (by rw [within_ok hS1 hS2 hk2 hkb, dnat]; simp) ?_⟩⟩
    have W26 := (W24.same s25).same s26
    have s026 := (s024.trans s25).trans s26
    clear W24 s024 s25 s26 hx1 hx2
    -- ==
    obtain ⟨dx1, d1, hx1, _⟩ := id W26.o1
    obtain ⟨dx2, d2, hx2, _⟩ := id W26.o2
    apply two_ways H26
    · intro rest
      refine ⟨_, rfl, _, rfl, O1, dx1, _, _, rfl, hx1, tyS T hx2, OwT.notFirst_self, O1, O2, wd, wd, _, _, rfl, W26.o1, W26.o2, hT2, ⟨_, rfl, _, rfl, _, rfl, rfl, _, rfl, ite2 (fun e => ?_) (fun e => ?_)⟩⟩
      · rw [dnat] at e
        refine ⟨_, rfl, _, rfl, R2, wd, as2, S2, 3, rfl, W26.r2, W26.q2, fun r hr => ⟨hS2 r hr, hb2 r hr⟩, by omega, by omega, Nat.le_trans (be_mono 3 (show S2.length - 1 ≤ 2 by omega)) (by decide), fun n2' H27 s27 hn2' hk2' => ⟨rfl, rfl, _, rfl, iteN (by rw [eq_ok hS1 hS2 hk1 hk2' hkb, e, decide_eq_true rfl, dnat]; simp) (rest H27 s27)⟩⟩
      · rw [dnat, Bool.not_eq_true] at e
        exact ⟨rfl, _, rfl, iteN (by rw [eq_ok hS1 hS2 hk1 hk2 hkb, e, Bool.false_and, Bool.and_false]; rfl) (rest H26 (Same.refl _))⟩
    intro H27 s27
    have W27 := W26.same s27
    have s027 := s026.trans s27
    have hx1 := s27 _ _ hx1
    have hx2 := s27 _ _ hx2
    refine ⟨_, rfl, _, rfl, O1, dx1, _, _, rfl, hx1, tyS T hx2, OwT.notFirst_self, O1, O2, wd, wd, _, _, rfl, W27.o1, W27.o2, hT2, ⟨_, rfl, _, rfl, _, rfl, O1, dx1, _, _, rfl, hx1, tyS T hx2, OwT.notFirst_self, O1, O2, wd, wd, _, _, rfl, W27.o1, W27.o2, hT2, ⟨_, rfl, rfl, _, rfl, iteN (by generalize (decide (wd = wd) && eqTab (tabL S1) (tabL S2)) = bb; cases bb <;> rfl) ?_⟩⟩⟩
    clear W26 s026 s27
    -- what is no row
    refine ⟨(by show 1 ≤ sizeLine; decide), fun l nl => ⟨_, rfl, l, _, [.int 0], rfl, rfl, upd_same, by omega, by omega, ?_, fun z0 nz0 => ⟨(by show 1 ≤ sizeLine; decide), fun t1 nt1 => ?_⟩⟩⟩
    · show 1 * _ ≤ sizeLine
      rw [Int.toNat_natCast]
      exact Nat.le_of_lt (bigLine (by omega))
    obtain ⟨H28, eH28⟩ : ∃ H28, H28 = upd (upd (upd H27 l (.lst [.int 0])) z0 (.lst (List.replicate (wd : Int).toNat [V.int 0]).flatten)) t1 (.tup [.int 0]) := ⟨_, rfl⟩
    have sA : Same H27 H28 := eH28 ▸ ((same_upd (o := .lst [.int 0]) nl).trans (same_upd nz0)).trans (same_upd (o := .tup [.int 0]) nt1)
    have hz0 : H28 z0 = some (.lst (List.replicate (wd : Int).toNat [V.int 0]).flatten) := eH28 ▸ same_upd (o := .tup [.int 0]) nt1 _ _ (upd_same (a := z0))
    have htt : H28 t1 = some (.tup [.int 0]) := eH28 ▸ upd_same
    rw [← eH28]
    clear eH28 nl nz0 nt1
    refine ⟨_, rfl, _, _, rfl, rfl, use_repA (wd := wd + 1) htt (by omega) (by omega) fun H30 a1 s30 ha1 => ⟨(by show 1 ≤ sizeLine; decide), fun t2 nt2 => ⟨_, rfl, use_repA upd_same hw1 (by omega) fun H31 a2 s31 ha2 => ⟨(by show 1 ≤ sizeLine; decide), fun t3 nt3 => ⟨_, rfl, use_repA upd_same hw1 (by omega) fun H32 a3 s32 ha3 => ⟨(by show 0 ≤ sizeLine; decide), fun t4 nt4 => ⟨(by show 1 ≤ sizeLine; decide), fun t5 nt5 => ⟨_, rfl, use_repA upd_same hw1 (by omega) fun H33 a4 s33 ha4 => ⟨(by show 7 ≤ sizeLine; decide), fun L nL => ?_⟩⟩⟩⟩⟩⟩⟩⟩⟩
    have s31 := (same_upd nt2).trans s31
    have s32 := (same_upd nt3).trans s32
    have s34 := (same_upd nt5).trans s33
    have ht4 : H33 t4 = some (.tup []) := s34 _ _ upd_same
    have s33 := (same_upd nt4).trans s34
    have sL : Same H33 (upd H33 L (.lst [.non, .int 5, .ref z0, .ref a1, .ref a2, .ref a3, .ref a4])) := same_upd nL
    have hL : (upd H33 L (.lst [.non, .int 5, .ref z0, .ref a1, .ref a2, .ref a3, .ref a4])) L = some (.lst [.non, .int 5, .ref z0, .ref a1, .ref a2, .ref a3, .ref a4]) := upd_same
    generalize (upd H33 L (.lst [.non, .int 5, .ref z0, .ref a1, .ref a2, .ref a3, .ref a4])) = H34 at sL hL ⊢
    have q4 := sL _ _ ha4
    have q3 := sL _ _ (s33 _ _ ha3)
    have q2 := sL _ _ (s33 _ _ (s32 _ _ ha2))
    have q1 := sL _ _ (s33 _ _ (s32 _ _ (s31 _ _ ha1)))
    have q0 := sL _ _ (s33 _ _ (s32 _ _ (s31 _ _ (s30 _ _ hz0))))
    have qt := sL _ _ ht4
    have hodd : ∀ x ∈ [V.non, .int 5, .ref z0, .ref a1, .ref a2, .ref a3, .ref a4], OddQ H34 wd x := by
      intro x hx
      simp only [List.mem_cons, List.not_mem_nil, or_false] at hx
      rcases hx with rfl | rfl | rfl | rfl | rfl | rfl | rfl
      · exact ⟨.inl rfl, .inl rfl⟩
      · exact ⟨.inr (.inl ⟨5, rfl⟩), .inr (.inl ⟨5, rfl⟩)⟩
      · exact ⟨.inr (.inr (.inl ⟨z0, _, rfl, q0⟩)), .inr (.inr (.inl ⟨z0, _, rfl, q0⟩))⟩
      · exact ⟨.inr (.inr (.inr (.inl ⟨a1, _, rfl, q1, by rw [List.length_replicate]; omega, by rw [List.length_replicate]; omega⟩))), .inr (.inr (.inr ⟨a1, _, rfl, q1⟩))⟩
      · exact ⟨.inr (.inr (.inr (.inr ⟨a2, _, rfl, q2, hw1, by omega, .inr (.inl ⟨_, rfl⟩)⟩))), .inr (.inr (.inr ⟨a2, _, rfl, q2⟩))⟩
      · exact ⟨.inr (.inr (.inr (.inr ⟨a3, _, rfl, q3, hw1, by omega, .inl ⟨_, rfl⟩⟩))), .inr (.inr (.inr ⟨a3, _, rfl, q3⟩))⟩
      · exact ⟨.inr (.inr (.inr (.inr ⟨a4, _, rfl, q4, hw1, by omega, .inr (.inr ⟨t4, _, rfl, qt⟩)⟩))), .inr (.inr (.inr ⟨a4, _, rfl, q4⟩))⟩
    have s2734 : Same H27 H34 := sA.trans (s30.trans (s31.trans (s32.trans (s33.trans sL))))
    have W34 := W27.same s2734
    have s034 := s027.trans s2734
    clear W27 s027 s2734 sL s33 s34 s32 s31 s30 sA q0 q1 q2 q3 q4 qt ht4 ha1 ha2 ha3 ha4 nt2 nt3 nt4 nt5 nL hz0 htt hx1 hx2
    refine ⟨L, rfl, ⟨_, SqL.of hL⟩, for_it (walk_list (K := K) (a := L) (xs := [.non, .int 5, .ref z0, .ref a1, .ref a2, .ref a3, .ref a4])) (fun i σ H' => ∃ v6 v8 v15, σ = [some (.ref scr), some (.int (0 + (k : Nat))), some (.ref pp), some (.int (wd : Nat)), some (.int (n1 : Nat)), some (.ref D), v6, some (.int (bo : Nat)), v8, some (.ref R1), some (.ref R2), some (.ref G1), some (.ref G2), some (.ref O1), some (.ref O2), v15] ∧ Same H34 H')
      ⟨_, _, _, rfl, Same.refl _⟩ (fun i σ H' _ ⟨_, _, _, _, s1⟩ => SqL.of (s1 _ _ hL)) ?_ ?_⟩
    · rintro i x σ Hi Hj hi ⟨v6, v8, v15, rfl, si⟩ ⟨rfl, hx⟩
      have ho := (hodd x (List.mem_of_getElem? hx)).same si
      have Wi := W34.same si
      obtain ⟨dx1, d1, hx1, _⟩ := id Wi.o1
      refine ⟨_, rfl, _, rfl, O1, dx1, _, rfl, hx1, O1, x, wd, _, rfl, Wi.o1, ho.1, fun Hk sk => ⟨_, rfl, _, rfl, iteN rfl ?_⟩⟩
      obtain ⟨t, ty, nf⟩ := nosp_ty (K := K) (C := a.c_Space) (ho.same sk).2
      exact ⟨_, rfl, _, rfl, O1, dx1, _, t, rfl, sk _ _ hx1, ty, nf, O1, x, rfl, (ho.same sk).2, ⟨_, rfl, _, rfl, iteN rfl ⟨_, _, _, rfl, si.trans sk⟩⟩⟩
    rintro σ H35 ⟨v6, v8, v15, rfl, s35⟩
    have W35 := W34.same s35
    have s035 := s034.trans s35
    clear W34 s034 s35 hodd hL
    -- the rows
    obtain ⟨dx1, d1, hx1, _⟩ := id W35.o1
    refine ⟨_, rfl, O1, dx1, _, rfl, hx1, O1, wd, _, rfl, W35.o1, by omega, fun H36 z as s36 nz hz hzs => ?_⟩
    have W36 := W35.same s36
    refine ⟨_, rfl, _, rfl, R1, wd, S1, 3, rfl, .of W36.r1 W36.q1 hS1 hb1 (by omega) (by omega) 3 (by omega) (by decide +kernel) (by decide +kernel), fun H37 z' as' s37 nz' hz' hzs' => ⟨dRows _, dRows _, .lst (SqL.of (s37 _ _ hz)) (dp_rows (hzs.same s37)), .lst (SqL.of hz') (dp_rows hzs'), shaped_rows _, shaped_rows _, _, rfl, iteN (by rw [eqv_rows]; rfl) ?_⟩⟩
    have W37 := W36.same s37
    have s037 := (s035.trans s36).trans s37
    clear W35 W36 s035 s36 s37 hx1 hz hz' hzs hzs' nz nz'
    obtain ⟨dx1, d1, hx1, _⟩ := id W37.o1
    obtain ⟨dx2, d2, hx2, _⟩ := id W37.o2
    refine ⟨_, rfl, _, rfl, O1, dx1, _, O2, dx2, _, rfl, rfl, hx1, hx2, O1, O2, wd, _, _, 45, rfl, W37.o1, W37.o2, hT1, hT2, hB1, hB2, hw1, by omega, (bits45 _ hc12).1, (bits45 _ hc12).2, fun H38 U s38 nU hU => ?_⟩
    obtain ⟨dxU, dU, hxU, _⟩ := id hU
    refine ⟨⟨_, rfl⟩, U, dxU, _, rfl, hxU, U, wd, _, rfl, hU, by omega, fun H39 z as s39 nz hz hzs => ?_⟩
    have W39 := (W37.same s38).same s39
    refine ⟨_, rfl, _, rfl, R2, R1, _, _, rfl, rfl, W39.r2, W39.r1, ?_, fun l nl => ?_⟩
    · rw [List.length_map, List.length_map, W39.q1.len, W39.q2.len]
      exact Nat.le_of_lt (bigLine (by omega))
    rw [← List.map_append]
    refine ⟨_, rfl, l, wd, S2 ++ S1, 3, rfl, .of upd_same ((W39.q2.append W39.q1).same (same_upd nl)) (hS2.app hS1) (fun r hr => (List.mem_append.mp hr).elim (hb2 r) (hb1 r)) (by omega) (by rw [List.length_append]; omega) 4 (by omega) (by decide +kernel) (by decide +kernel), fun H40 z' as' s40 nz' hz' hzs' => ?_⟩
    have s40 := (same_upd nl).trans s40
    refine ⟨dRows _, dRows _, .lst (SqL.of (s40 _ _ hz)) (dp_rows (hzs.same s40)), .lst (SqL.of hz') (dp_rows hzs'), shaped_rows _, shaped_rows _, _, rfl, iteN (by rw [sRows_un hS1 hS2, eqv_rows]; rfl) ?_⟩
    have W40 := W39.same s40
    have s040 := ((s037.trans s38).trans s39).trans s40
    clear W37 W39 s037 s38 s39 s40 hx1 hx2 hz hz' hzs hzs' nz nz' nl nU hU hxU
    -- a told list is another one
    obtain ⟨dx1, d1, hx1, _⟩ := id W40.o1
    refine ⟨_, rfl, O1, dx1, _, rfl, hx1, O1, wd, _, rfl, W40.o1, by omega, fun H41 z as s41 nz hz hzs => ⟨.inl ⟨rfl, _, SqL.of hz⟩, z, _, _, rfl, rfl, hz, ?_, ?_⟩⟩
    · rw [List.length_map, hzs.len, sRows_len]
      exact bigLine (by omega)
    have s42 : Same H40 (upd H41 z (.lst (as.map V.ref ++ [.non]))) := same_mut s41 nz
    generalize (upd H41 z (.lst (as.map V.ref ++ [.non]))) = H42 at s42 ⊢
    have W42 := W40.same s42
    have s042 := s040.trans s42
    clear W40 s040 s41 s42 hz hzs nz hx1
    refine ⟨_, rfl, .inl ⟨rfl, _, SqL.of W42.g1⟩, G1, _, rfl, rfl, W42.g1, ?_⟩
    have hO43 : SpAt a (upd H42 G1 (.lst [])) O1 wd (tabL S1) := W42.o1.off W42.g1
    have s043 : Same H (upd H42 G1 (.lst [])) := same_mut s042 nG1H
    generalize (upd H42 G1 (.lst [])) = H43 at hO43 s043 ⊢
    clear W42 s042
    obtain ⟨dx1, d1, hx1, _⟩ := id hO43
    refine ⟨_, rfl, O1, dx1, _, rfl, hx1, O1, wd, tabL S1, rfl, hO43, (tabL S1).length, by omega, rfl, _, rfl, rfl, _, rfl, iteN (by rw [en1]; simp) ?_⟩
    refine ⟨_, rfl, _, rfl, O1, dx1, _, rfl, hx1, O1, wd, _, rfl, hO43, by omega, fun H44 z as s44 nz hz hzs X e nX ne hne => use_init hw1 (.of hz hzs (Wd.srt hT1) (bd_srt hT1 hB1) (by omega) (by rw [sRows_len]; omega) 3 (by rw [sRows_len]; omega) (by decide +kernel) (by decide +kernel)) nX ne hne fun H45 s45 hX => ?_⟩
    obtain ⟨dX, dd, hxX, _⟩ := id hX
    have hO45 := (hO43.same s44).same s45
    have hx1 := s45 _ _ (s44 _ _ hx1)
    refine ⟨_, rfl, X, dX, _, _, rfl, hxX, tyS T hx1, OwT.notFirst_self, X, O1, wd, wd, _, _, rfl, hX, hO45, hT1, ⟨_, rfl, _, rfl, iteN (by rw [again_eq hS1, decide_eq_true rfl]; rfl) ?_⟩⟩
    exact ⟨_, _, _, _, _, _, _, _, _, _, _, _, _, _, _, rfl, (s043.trans s44).trans s45⟩
  · rintro σ H1 ⟨v1, v2, v3, v4, v5, v6, v7, v8, v9, v10, v11, v12, v13, v14, v15, rfl, s1⟩
    have no : ∀ (r : List Int), r ∈ ([] : List (List Int)) → False := fun r h => by cases h
    refine ⟨(by show 0 ≤ sizeLine; decide), fun l nl X e nX ne hne => use_init (wd := 2) (rows := []) (m := 3) (by decide) (.of (as := []) upd_same trivial (fun r h => (no r h).elim) (fun r h => (no r h).elim) (by decide) (by decide) 0 (by decide) (by decide +kernel) (by decide +kernel)) nX ne hne fun H2 s2 hX => ?_⟩
    refine ⟨(by show 0 ≤ sizeLine; decide), fun l' nl' Y e' nY ne' hne' => use_init (wd := 3) (rows := []) (m := 3) (by decide) (.of (as := []) upd_same trivial (fun r h => (no r h).elim) (fun r h => (no r h).elim) (by decide) (by decide) 0 (by decide) (by decide +kernel) (by decide +kernel)) nY ne' hne' fun H3 s3 hY => ?_⟩
    have hX3 := (hX.same (same_upd nl')).same s3
    obtain ⟨dX, dd, hxX, _⟩ := id hX3
    obtain ⟨dY, de, hxY, _⟩ := id hY
    refine ⟨X, dX, _, _, rfl, hxX, tyS T hxY, OwT.notFirst_self, X, Y, 2, 3, _, _, rfl, hX3, hY, Wd.tab (w := 3) (S := []) (fun r h => (no r h).elim), ⟨_, rfl, _, rfl, ite2 (fun _ => ?_) (fun e => absurd rfl e)⟩⟩
    clear hX hX3 hY hxX hxY
    generalize H3 = H4
    have m1 : ∀ r ∈ [[(0 : Int)]], r.length = 1 ∧ Bd 3 r := fun r hr => by
      rw [List.mem_singleton.mp hr]
      exact ⟨rfl, bd3 (by decide)⟩
    have m2 : ∀ r ∈ [[(1 : Int), 1]], r.length = 2 ∧ Bd 3 r := fun r hr => by
      rw [List.mem_singleton.mp hr]
      exact ⟨rfl, bd3 (by decide)⟩
    refine ⟨(by show 1 ≤ sizeLine; decide), fun t nt => ⟨(by show 1 ≤ sizeLine; decide), fun l1 nl1 Z e nZ ne hne => use_init (wd := 1) (rows := [[0]]) (m := 3) (by decide) (.of (as := [t]) upd_same ⟨same_upd nl1 _ _ upd_same, trivial⟩ (fun r h => (m1 r h).1) (fun r h => (m1 r h).2) (by decide) (by decide) 1 (by decide) (by decide +kernel) (by decide +kernel)) nZ ne hne fun H5 s5 hZ => ?_⟩⟩
    obtain ⟨dZ, df, hxZ, _⟩ := id hZ
    refine ⟨Z, dZ, _, rfl, hxZ, Z, 1, _, rfl, hZ, ⟨_, rfl, ?_⟩⟩
    rw [show tabL [[0]] = [] from by decide +kernel]
    refine ⟨_, rfl, ite2 (fun _ => ?_) (fun e => absurd rfl e)⟩
    clear hZ hxZ
    generalize H5 = H6
    refine ⟨(by show 2 ≤ sizeLine; decide), fun p np => ⟨(by show 2 ≤ sizeLine; decide), fun t nt => ⟨(by show 1 ≤ sizeLine; decide), fun l2 nl2 O e nO ne hne => use_init (wd := 2) (rows := [[1, 1]]) (m := 3) (by decide) (.of (as := [t]) upd_same ⟨same_upd nl2 _ _ upd_same, trivial⟩ (fun r h => (m2 r h).1) (fun r h => (m2 r h).2) (by decide) (by decide) 1 (by decide) (by decide +kernel) (by decide +kernel)) nO ne hne fun H7 s7 hO => ?_⟩⟩⟩
    obtain ⟨dO, dg, hxO, _⟩ := id hO
    have hp : H7 p = some (.tup ([(3 : Int), 3].map V.int)) := s7 _ _ (same_upd nl2 _ _ (same_upd nt _ _ upd_same))
    refine ⟨O, dO, _, rfl, hxO, O, p, 2, _, [3, 3], 3, 4, rfl, hO, Wd.tab (w := 2) (fun r h => (m2 r h).1), hp, rfl, by decide, bd3 (by decide), tb_of (wd := 2) (m := 3) (c := 1) (fun r h => (m2 r h).1) (fun r h => (m2 r h).2) (by decide +kernel) (by decide +kernel), by decide +kernel, fun H8 s8 => ⟨_, rfl, ?_⟩⟩
    rw [show decide (leadL (restL (tabL [[1, 1]]) [3, 3]) = 2) = true from by decide +kernel]
    exact q _
end
end K41
namespace K41
open PySem PySem.Spec PyProof.Rows L2 LA
theorem all_mk {l : PySem.W.OpenLaw} {w : World} {K : PySem.W.Frag} {h : Heap} {mg : Str → Option Value} {fa f_is_integer f_are_integers f_reduced f_is_row f_lead_of f_primitive f_cleared f_table_of f_rows_of_table f_rest_of f_is_spanned f_joined f_Space___init__ f_Space_width f_Space_rows f_Space___contains__ f_Space___len__ f_Space___bool__ f_Space___eq__ f_Space___or__ f_Space_is_within f_Space__fits f__law_pool f__law_take f__law_thin f__law_rank f__law_rows f_law c_Space pr_Space_width pr_Space_rows : Addr} (X : K.In h) (G : h.Ns mainGlobals mg) (hfa : mg "law" = some (.ref fa))
    {od_is_integer an_is_integer : Option Addr} {sl_is_integer : Array (Option Value)} {oc_is_integer kV_is_integer dc_is_integer pm_is_integer cd_is_integer ct_is_integer : Value}
    (a_is_integer : PySem.W.nsIn K mainGlobals "is_integer" = some (some (.ref f_is_integer)))
    (l_is_integer : K.lookup f_is_integer = some ⟨oc_is_integer, od_is_integer, .func (PySem.W.fnOf "is_integer" "is_integer" (defArgs s_is_integer) (defBody s_is_integer) (defScope s_is_integer) .none kV_is_integer dc_is_integer pm_is_integer an_is_integer cd_is_integer ct_is_integer), sl_is_integer⟩) (e_is_integer : PySem.W.codeIn K cd_is_integer "is_integer" = true) (k_is_integer : PySem.W.keepIn K (.ref f_is_integer) = true)
    {od_are_integers an_are_integers : Option Addr} {sl_are_integers : Array (Option Value)} {oc_are_integers kV_are_integers dc_are_integers pm_are_integers cd_are_integers ct_are_integers : Value}
    (a_are_integers : PySem.W.nsIn K mainGlobals "are_integers" = some (some (.ref f_are_integers)))
    (l_are_integers : K.lookup f_are_integers = some ⟨oc_are_integers, od_are_integers, .func (PySem.W.fnOf "are_integers" "are_integers" (defArgs s_are_integers) (defBody s_are_integers) (defScope s_are_integers) .none kV_are_integers dc_are_integers pm_are_integers an_are_integers cd_are_integers ct_are_integers), sl_are_integers⟩) (e_are_integers : PySem.W.codeIn K cd_are_integers "are_integers" = true) (k_are_integers : PySem.W.keepIn K (.ref f_are_integers) = true)
    {od_reduced an_reduced : Option Addr} {sl_reduced : Array (Option Value)} {oc_reduced kV_reduced dc_reduced pm_reduced cd_reduced ct_reduced : Value}
    (a_reduced : PySem.W.nsIn K mainGlobals "reduced" = some (some (.ref f_reduced)))
    (l_reduced : K.lookup f_reduced = some ⟨oc_reduced, od_reduced, .func (PySem.W.fnOf "reduced" "reduced" (defArgs s_reduced) (defBody s_reduced) (defScope s_reduced) .none kV_reduced dc_reduced pm_reduced an_reduced cd_reduced ct_reduced), sl_reduced⟩) (e_reduced : PySem.W.codeIn K cd_reduced "reduced" = true) (k_reduced : PySem.W.keepIn K (.ref f_reduced) = true)
    {od_is_row an_is_row : Option Addr} {sl_is_row : Array (Option Value)} {oc_is_row kV_is_row dc_is_row pm_is_row cd_is_row ct_is_row : Value}
    (a_is_row : PySem.W.nsIn K mainGlobals "is_row" = some (some (.ref f_is_row)))
    (l_is_row : K.lookup f_is_row = some ⟨oc_is_row, od_is_row, .func (PySem.W.fnOf "is_row" "is_row" (defArgs s_is_row) (defBody s_is_row) (defScope s_is_row) .none kV_is_row dc_is_row pm_is_row an_is_row cd_is_row ct_is_row), sl_is_row⟩) (e_is_row : PySem.W.codeIn K cd_is_row "is_row" = true) (k_is_row : PySem.W.keepIn K (.ref f_is_row) = true)
    {od_lead_of an_lead_of : Option Addr} {sl_lead_of : Array (Option Value)} {oc_lead_of kV_lead_of dc_lead_of pm_lead_of cd_lead_of ct_lead_of : Value}
    (a_lead_of : PySem.W.nsIn K mainGlobals "lead_of" = some (some (.ref f_lead_of)))
    (l_lead_of : K.lookup f_lead_of = some ⟨oc_lead_of, od_lead_of, .func (PySem.W.fnOf "lead_of" "lead_of" (defArgs s_lead_of) (defBody s_lead_of) (defScope s_lead_of) .none kV_lead_of dc_lead_of pm_lead_of an_lead_of cd_lead_of ct_lead_of), sl_lead_of⟩) (e_lead_of : PySem.W.codeIn K cd_lead_of "lead_of" = true) (k_lead_of : PySem.W.keepIn K (.ref f_lead_of) = true)
    {od_primitive an_primitive : Option Addr} {sl_primitive : Array (Option Value)} {oc_primitive kV_primitive dc_primitive pm_primitive cd_primitive ct_primitive : Value}
    (a_primitive : PySem.W.nsIn K mainGlobals "primitive" = some (some (.ref f_primitive)))
    (l_primitive : K.lookup f_primitive = some ⟨oc_primitive, od_primitive, .func (PySem.W.fnOf "primitive" "primitive" (defArgs s_primitive) (defBody s_primitive) (defScope s_primitive) .none kV_primitive dc_primitive pm_primitive an_primitive cd_primitive ct_primitive), sl_primitive⟩) (e_primitive : PySem.W.codeIn K cd_primitive "primitive" = true) (k_primitive : PySem.W.keepIn K (.ref f_primitive) = true)
    {od_cleared an_cleared : Option Addr} {sl_cleared : Array (Option Value)} {oc_cleared kV_cleared dc_cleared pm_cleared cd_cleared ct_cleared : Value}
    (a_cleared : PySem.W.nsIn K mainGlobals "cleared" = some (some (.ref f_cleared)))
    (l_cleared : K.lookup f_cleared = some ⟨oc_cleared, od_cleared, .func (PySem.W.fnOf "cleared" "cleared" (defArgs s_cleared) (defBody s_cleared) (defScope s_cleared) .none kV_cleared dc_cleared pm_cleared an_cleared cd_cleared ct_cleared), sl_cleared⟩) (e_cleared : PySem.W.codeIn K cd_cleared "cleared" = true) (k_cleared : PySem.W.keepIn K (.ref f_cleared) = true)
    {od_table_of an_table_of : Option Addr} {sl_table_of : Array (Option Value)} {oc_table_of kV_table_of dc_table_of pm_table_of cd_table_of ct_table_of : Value}
    (a_table_of : PySem.W.nsIn K mainGlobals "table_of" = some (some (.ref f_table_of)))
    (l_table_of : K.lookup f_table_of = some ⟨oc_table_of, od_table_of, .func (PySem.W.fnOf "table_of" "table_of" (defArgs s_table_of) (defBody s_table_of) (defScope s_table_of) .none kV_table_of dc_table_of pm_table_of an_table_of cd_table_of ct_table_of), sl_table_of⟩) (e_table_of : PySem.W.codeIn K cd_table_of "table_of" = true) (k_table_of : PySem.W.keepIn K (.ref f_table_of) = true)
    {od_rows_of_table an_rows_of_table : Option Addr} {sl_rows_of_table : Array (Option Value)} {oc_rows_of_table kV_rows_of_table dc_rows_of_table pm_rows_of_table cd_rows_of_table ct_rows_of_table : Value}
    (a_rows_of_table : PySem.W.nsIn K mainGlobals "rows_of_table" = some (some (.ref f_rows_of_table)))
    (l_rows_of_table : K.lookup f_rows_of_table = some ⟨oc_rows_of_table, od_rows_of_table, .func (PySem.W.fnOf "rows_of_table" "rows_of_table" (defArgs s_rows_of_table) (defBody s_rows_of_table) (defScope s_rows_of_table) .none kV_rows_of_table dc_rows_of_table pm_rows_of_table an_rows_of_table cd_rows_of_table ct_rows_of_table), sl_rows_of_table⟩) (e_rows_of_table : PySem.W.codeIn K cd_rows_of_table "rows_of_table" = true) (k_rows_of_table : PySem.W.keepIn K (.ref f_rows_of_table) = true)
    {od_rest_of an_rest_of : Option Addr} {sl_rest_of : Array (Option Value)} {oc_rest_of kV_rest_of dc_rest_of pm_rest_of cd_rest_of ct_rest_of : Value}
    (a_rest_of : PySem.W.nsIn K mainGlobals "rest_of" = some (some (.ref f_rest_of)))
    (l_rest_of : K.lookup f_rest_of = some ⟨oc_rest_of, od_rest_of, .func (PySem.W.fnOf "rest_of" "rest_of" (defArgs s_rest_of) (defBody s_rest_of) (defScope s_rest_of) .none kV_rest_of dc_rest_of pm_rest_of an_rest_of cd_rest_of ct_rest_of), sl_rest_of⟩) (e_rest_of : PySem.W.codeIn K cd_rest_of "rest_of" = true) (k_rest_of : PySem.W.keepIn K (.ref f_rest_of) = true)
    {od_is_spanned an_is_spanned : Option Addr} {sl_is_spanned : Array (Option Value)} {oc_is_spanned kV_is_spanned dc_is_spanned pm_is_spanned cd_is_spanned ct_is_spanned : Value}
    (a_is_spanned : PySem.W.nsIn K mainGlobals "is_spanned" = some (some (.ref f_is_spanned)))
    (l_is_spanned : K.lookup f_is_spanned = some ⟨oc_is_spanned, od_is_spanned, .func (PySem.W.fnOf "is_spanned" "is_spanned" (defArgs s_is_spanned) (defBody s_is_spanned) (defScope s_is_spanned) .none kV_is_spanned dc_is_spanned pm_is_spanned an_is_spanned cd_is_spanned ct_is_spanned), sl_is_spanned⟩) (e_is_spanned : PySem.W.codeIn K cd_is_spanned "is_spanned" = true) (k_is_spanned : PySem.W.keepIn K (.ref f_is_spanned) = true)
    {od_joined an_joined : Option Addr} {sl_joined : Array (Option Value)} {oc_joined kV_joined dc_joined pm_joined cd_joined ct_joined : Value}
    (a_joined : PySem.W.nsIn K mainGlobals "joined" = some (some (.ref f_joined)))
    (l_joined : K.lookup f_joined = some ⟨oc_joined, od_joined, .func (PySem.W.fnOf "joined" "joined" (defArgs s_joined) (defBody s_joined) (defScope s_joined) .none kV_joined dc_joined pm_joined an_joined cd_joined ct_joined), sl_joined⟩) (e_joined : PySem.W.codeIn K cd_joined "joined" = true) (k_joined : PySem.W.keepIn K (.ref f_joined) = true)
    {od_Space___init__ an_Space___init__ : Option Addr} {sl_Space___init__ : Array (Option Value)} {oc_Space___init__ kV_Space___init__ dc_Space___init__ pm_Space___init__ cd_Space___init__ ct_Space___init__ : Value}
    (a_Space___init__ : PySem.W.findIn K (.ref c_Space) "__init__" = some (some (.ref f_Space___init__)))
    (l_Space___init__ : K.lookup f_Space___init__ = some ⟨oc_Space___init__, od_Space___init__, .func (PySem.W.fnOf "__init__" "Space.__init__" (defArgs s_Space___init__) (defBody s_Space___init__) (defScope s_Space___init__) .none kV_Space___init__ dc_Space___init__ pm_Space___init__ an_Space___init__ cd_Space___init__ ct_Space___init__), sl_Space___init__⟩) (e_Space___init__ : PySem.W.codeIn K cd_Space___init__ "Space.__init__" = true) (k_Space___init__ : PySem.W.keepIn K (.ref f_Space___init__) = true)
    (i_Space___init__ : PySem.W.isFn K (.ref f_Space___init__) = true)
    {od_Space_width an_Space_width : Option Addr} {sl_Space_width : Array (Option Value)} {oc_Space_width kV_Space_width dc_Space_width pm_Space_width cd_Space_width ct_Space_width : Value}
    (a_Space_width : PySem.W.findIn K (.ref c_Space) "width" = some (some (.ref pr_Space_width))) (pg_Space_width : PySem.W.specialIn K (.ref pr_Space_width) "__get__" = some (some (.builtin "property.__get__"))) (pt_Space_width : PySem.W.takesIn K (.ref pr_Space_width) = some true) {rs_Space_width : List Value} (pq_Space_width : PySem.W.recIn K pr_Space_width "property" = some (.ref f_Space_width :: rs_Space_width))
    (l_Space_width : K.lookup f_Space_width = some ⟨oc_Space_width, od_Space_width, .func (PySem.W.fnOf "width" "Space.width" (defArgs s_Space_width) (defBody s_Space_width) (defScope s_Space_width) .none kV_Space_width dc_Space_width pm_Space_width an_Space_width cd_Space_width ct_Space_width), sl_Space_width⟩) (e_Space_width : PySem.W.codeIn K cd_Space_width "Space.width" = true) (k_Space_width : PySem.W.keepIn K (.ref f_Space_width) = true)
    {od_Space_rows an_Space_rows : Option Addr} {sl_Space_rows : Array (Option Value)} {oc_Space_rows kV_Space_rows dc_Space_rows pm_Space_rows cd_Space_rows ct_Space_rows : Value}
    (a_Space_rows : PySem.W.findIn K (.ref c_Space) "rows" = some (some (.ref pr_Space_rows))) (pg_Space_rows : PySem.W.specialIn K (.ref pr_Space_rows) "__get__" = some (some (.builtin "property.__get__"))) (pt_Space_rows : PySem.W.takesIn K (.ref pr_Space_rows) = some true) {rs_Space_rows : List Value} (pq_Space_rows : PySem.W.recIn K pr_Space_rows "property" = some (.ref f_Space_rows :: rs_Space_rows))
    (l_Space_rows : K.lookup f_Space_rows = some ⟨oc_Space_rows, od_Space_rows, .func (PySem.W.fnOf "rows" "Space.rows" (defArgs s_Space_rows) (defBody s_Space_rows) (defScope s_Space_rows) .none kV_Space_rows dc_Space_rows pm_Space_rows an_Space_rows cd_Space_rows ct_Space_rows), sl_Space_rows⟩) (e_Space_rows : PySem.W.codeIn K cd_Space_rows "Space.rows" = true) (k_Space_rows : PySem.W.keepIn K (.ref f_Space_rows) = true)
    {od_Space___contains__ an_Space___contains__ : Option Addr} {sl_Space___contains__ : Array (Option Value)} {oc_Space___contains__ kV_Space___contains__ dc_Space___contains__ pm_Space___contains__ cd_Space___contains__ ct_Space___contains__ : Value}
    (a_Space___contains__ : PySem.W.findIn K (.ref c_Space) "__contains__" = some (some (.ref f_Space___contains__)))
    (l_Space___contains__ : K.lookup f_Space___contains__ = some ⟨oc_Space___contains__, od_Space___contains__, .func (PySem.W.fnOf "__contains__" "Space.__contains__" (defArgs s_Space___contains__) (defBody s_Space___contains__) (defScope s_Space___contains__) .none kV_Space___contains__ dc_Space___contains__ pm_Space___contains__ an_Space___contains__ cd_Space___contains__ ct_Space___contains__), sl_Space___contains__⟩) (e_Space___contains__ : PySem.W.codeIn K cd_Space___contains__ "Space.__contains__" = true) (k_Space___contains__ : PySem.W.keepIn K (.ref f_Space___contains__) = true)
    (i_Space___contains__ : PySem.W.isFn K (.ref f_Space___contains__) = true)
    {od_Space___len__ an_Space___len__ : Option Addr} {sl_Space___len__ : Array (Option Value)} {oc_Space___len__ kV_Space___len__ dc_Space___len__ pm_Space___len__ cd_Space___len__ ct_Space___len__ : Value}
    (a_Space___len__ : PySem.W.findIn K (.ref c_Space) "__len__" = some (some (.ref f_Space___len__)))
    (l_Space___len__ : K.lookup f_Space___len__ = some ⟨oc_Space___len__, od_Space___len__, .func (PySem.W.fnOf "__len__" "Space.__len__" (defArgs s_Space___len__) (defBody s_Space___len__) (defScope s_Space___len__) .none kV_Space___len__ dc_Space___len__ pm_Space___len__ an_Space___len__ cd_Space___len__ ct_Space___len__), sl_Space___len__⟩) (e_Space___len__ : PySem.W.codeIn K cd_Space___len__ "Space.__len__" = true) (k_Space___len__ : PySem.W.keepIn K (.ref f_Space___len__) = true)
    (i_Space___len__ : PySem.W.isFn K (.ref f_Space___len__) = true)
    {od_Space___bool__ an_Space___bool__ : Option Addr} {sl_Space___bool__ : Array (Option Value)} {oc_Space___bool__ kV_Space___bool__ dc_Space___bool__ pm_Space___bool__ cd_Space___bool__ ct_Space___bool__ : Value}
    (a_Space___bool__ : PySem.W.findIn K (.ref c_Space) "__bool__" = some (some (.ref f_Space___bool__)))
    (l_Space___bool__ : K.lookup f_Space___bool__ = some ⟨oc_Space___bool__, od_Space___bool__, .func (PySem.W.fnOf "__bool__" "Space.__bool__" (defArgs s_Space___bool__) (defBody s_Space___bool__) (defScope s_Space___bool__) .none kV_Space___bool__ dc_Space___bool__ pm_Space___bool__ an_Space___bool__ cd_Space___bool__ ct_Space___bool__), sl_Space___bool__⟩) (e_Space___bool__ : PySem.W.codeIn K cd_Space___bool__ "Space.__bool__" = true) (k_Space___bool__ : PySem.W.keepIn K (.ref f_Space___bool__) = true)
    (i_Space___bool__ : PySem.W.isFn K (.ref f_Space___bool__) = true)
    {od_Space___eq__ an_Space___eq__ : Option Addr} {sl_Space___eq__ : Array (Option Value)} {oc_Space___eq__ kV_Space___eq__ dc_Space___eq__ pm_Space___eq__ cd_Space___eq__ ct_Space___eq__ : Value}
    (a_Space___eq__ : PySem.W.findIn K (.ref c_Space) "__eq__" = some (some (.ref f_Space___eq__)))
    (l_Space___eq__ : K.lookup f_Space___eq__ = some ⟨oc_Space___eq__, od_Space___eq__, .func (PySem.W.fnOf "__eq__" "Space.__eq__" (defArgs s_Space___eq__) (defBody s_Space___eq__) (defScope s_Space___eq__) .none kV_Space___eq__ dc_Space___eq__ pm_Space___eq__ an_Space___eq__ cd_Space___eq__ ct_Space___eq__), sl_Space___eq__⟩) (e_Space___eq__ : PySem.W.codeIn K cd_Space___eq__ "Space.__eq__" = true) (k_Space___eq__ : PySem.W.keepIn K (.ref f_Space___eq__) = true)
    (i_Space___eq__ : PySem.W.isFn K (.ref f_Space___eq__) = true)
    {od_Space___or__ an_Space___or__ : Option Addr} {sl_Space___or__ : Array (Option Value)} {oc_Space___or__ kV_Space___or__ dc_Space___or__ pm_Space___or__ cd_Space___or__ ct_Space___or__ : Value}
    (a_Space___or__ : PySem.W.findIn K (.ref c_Space) "__or__" = some (some (.ref f_Space___or__)))
    (l_Space___or__ : K.lookup f_Space___or__ = some ⟨oc_Space___or__, od_Space___or__, .func (PySem.W.fnOf "__or__" "Space.__or__" (defArgs s_Space___or__) (defBody s_Space___or__) (defScope s_Space___or__) .none kV_Space___or__ dc_Space___or__ pm_Space___or__ an_Space___or__ cd_Space___or__ ct_Space___or__), sl_Space___or__⟩) (e_Space___or__ : PySem.W.codeIn K cd_Space___or__ "Space.__or__" = true) (k_Space___or__ : PySem.W.keepIn K (.ref f_Space___or__) = true)
    (i_Space___or__ : PySem.W.isFn K (.ref f_Space___or__) = true)
    {od_Space_is_within an_Space_is_within : Option Addr} {sl_Space_is_within : Array (Option Value)} {oc_Space_is_within kV_Space_is_within dc_Space_is_within pm_Space_is_within cd_Space_is_within ct_Space_is_within : Value}
    (a_Space_is_within : PySem.W.findIn K (.ref c_Space) "is_within" = some (some (.ref f_Space_is_within)))
    (l_Space_is_within : K.lookup f_Space_is_within = some ⟨oc_Space_is_within, od_Space_is_within, .func (PySem.W.fnOf "is_within" "Space.is_within" (defArgs s_Space_is_within) (defBody s_Space_is_within) (defScope s_Space_is_within) .none kV_Space_is_within dc_Space_is_within pm_Space_is_within an_Space_is_within cd_Space_is_within ct_Space_is_within), sl_Space_is_within⟩) (e_Space_is_within : PySem.W.codeIn K cd_Space_is_within "Space.is_within" = true) (k_Space_is_within : PySem.W.keepIn K (.ref f_Space_is_within) = true)
    (i_Space_is_within : PySem.W.isFn K (.ref f_Space_is_within) = true)
    {od_Space__fits an_Space__fits : Option Addr} {sl_Space__fits : Array (Option Value)} {oc_Space__fits kV_Space__fits dc_Space__fits pm_Space__fits cd_Space__fits ct_Space__fits : Value}
    (a_Space__fits : PySem.W.findIn K (.ref c_Space) "_fits" = some (some (.ref f_Space__fits)))
    (l_Space__fits : K.lookup f_Space__fits = some ⟨oc_Space__fits, od_Space__fits, .func (PySem.W.fnOf "_fits" "Space._fits" (defArgs s_Space__fits) (defBody s_Space__fits) (defScope s_Space__fits) .none kV_Space__fits dc_Space__fits pm_Space__fits an_Space__fits cd_Space__fits ct_Space__fits), sl_Space__fits⟩) (e_Space__fits : PySem.W.codeIn K cd_Space__fits "Space._fits" = true) (k_Space__fits : PySem.W.keepIn K (.ref f_Space__fits) = true)
    (i_Space__fits : PySem.W.isFn K (.ref f_Space__fits) = true)
    {od__law_pool an__law_pool : Option Addr} {sl__law_pool : Array (Option Value)} {oc__law_pool kV__law_pool dc__law_pool pm__law_pool cd__law_pool ct__law_pool : Value}
    (a__law_pool : PySem.W.nsIn K mainGlobals "_law_pool" = some (some (.ref f__law_pool)))
    (l__law_pool : K.lookup f__law_pool = some ⟨oc__law_pool, od__law_pool, .func (PySem.W.fnOf "_law_pool" "_law_pool" (defArgs s__law_pool) (defBody s__law_pool) (defScope s__law_pool) .none kV__law_pool dc__law_pool pm__law_pool an__law_pool cd__law_pool ct__law_pool), sl__law_pool⟩) (e__law_pool : PySem.W.codeIn K cd__law_pool "_law_pool" = true) (k__law_pool : PySem.W.keepIn K (.ref f__law_pool) = true)
    {od__law_take an__law_take : Option Addr} {sl__law_take : Array (Option Value)} {oc__law_take kV__law_take dc__law_take pm__law_take cd__law_take ct__law_take : Value}
    (a__law_take : PySem.W.nsIn K mainGlobals "_law_take" = some (some (.ref f__law_take)))
    (l__law_take : K.lookup f__law_take = some ⟨oc__law_take, od__law_take, .func (PySem.W.fnOf "_law_take" "_law_take" (defArgs s__law_take) (defBody s__law_take) (defScope s__law_take) .none kV__law_take dc__law_take pm__law_take an__law_take cd__law_take ct__law_take), sl__law_take⟩) (e__law_take : PySem.W.codeIn K cd__law_take "_law_take" = true) (k__law_take : PySem.W.keepIn K (.ref f__law_take) = true)
    {od__law_thin an__law_thin : Option Addr} {sl__law_thin : Array (Option Value)} {oc__law_thin kV__law_thin dc__law_thin pm__law_thin cd__law_thin ct__law_thin : Value}
    (a__law_thin : PySem.W.nsIn K mainGlobals "_law_thin" = some (some (.ref f__law_thin)))
    (l__law_thin : K.lookup f__law_thin = some ⟨oc__law_thin, od__law_thin, .func (PySem.W.fnOf "_law_thin" "_law_thin" (defArgs s__law_thin) (defBody s__law_thin) (defScope s__law_thin) .none kV__law_thin dc__law_thin pm__law_thin an__law_thin cd__law_thin ct__law_thin), sl__law_thin⟩) (e__law_thin : PySem.W.codeIn K cd__law_thin "_law_thin" = true) (k__law_thin : PySem.W.keepIn K (.ref f__law_thin) = true)
    {od__law_rank an__law_rank : Option Addr} {sl__law_rank : Array (Option Value)} {oc__law_rank kV__law_rank dc__law_rank pm__law_rank cd__law_rank ct__law_rank : Value}
    (a__law_rank : PySem.W.nsIn K mainGlobals "_law_rank" = some (some (.ref f__law_rank)))
    (l__law_rank : K.lookup f__law_rank = some ⟨oc__law_rank, od__law_rank, .func (PySem.W.fnOf "_law_rank" "_law_rank" (defArgs s__law_rank) (defBody s__law_rank) (defScope s__law_rank) .none kV__law_rank dc__law_rank pm__law_rank an__law_rank cd__law_rank ct__law_rank), sl__law_rank⟩) (e__law_rank : PySem.W.codeIn K cd__law_rank "_law_rank" = true) (k__law_rank : PySem.W.keepIn K (.ref f__law_rank) = true)
    {od__law_rows an__law_rows : Option Addr} {sl__law_rows : Array (Option Value)} {oc__law_rows kV__law_rows dc__law_rows pm__law_rows cd__law_rows ct__law_rows : Value}
    (a__law_rows : PySem.W.nsIn K mainGlobals "_law_rows" = some (some (.ref f__law_rows)))
    (l__law_rows : K.lookup f__law_rows = some ⟨oc__law_rows, od__law_rows, .func (PySem.W.fnOf "_law_rows" "_law_rows" (defArgs s__law_rows) (defBody s__law_rows) (defScope s__law_rows) .none kV__law_rows dc__law_rows pm__law_rows an__law_rows cd__law_rows ct__law_rows), sl__law_rows⟩) (e__law_rows : PySem.W.codeIn K cd__law_rows "_law_rows" = true) (k__law_rows : PySem.W.keepIn K (.ref f__law_rows) = true)
    {od_law an_law : Option Addr} {sl_law : Array (Option Value)} {oc_law kV_law dc_law pm_law cd_law ct_law : Value}
    (a_law : PySem.W.nsIn K mainGlobals "law" = some (some (.ref f_law)))
    (l_law : K.lookup f_law = some ⟨oc_law, od_law, .func (PySem.W.fnOf "law" "law" (defArgs s_law) (defBody s_law) (defScope s_law) .none kV_law dc_law pm_law an_law cd_law ct_law), sl_law⟩) (e_law : PySem.W.codeIn K cd_law "law" = true) (k_law : PySem.W.keepIn K (.ref f_law) = true)
    (ac_Space : PySem.W.nsIn K mainGlobals "Space" = some (some (.ref c_Space))) (pg_Space : PySem.W.plainGet K c_Space Str.empty = true) (hd_Space : PySem.W.hasDictIn K c_Space = true) (po_Space : PySem.W.plainOver K c_Space = true) (sa_Space : PySem.W.findIn K (.ref c_Space) "__setattr__" = some (some (.builtin "object.__setattr__"))) (mk_Space : PySem.W.makesIn K c_Space = true) (kc_Space : PySem.W.keepIn K (.ref c_Space) = true)
    (nf_Space__width : PySem.W.findIn K (.ref c_Space) "_width" = some none)
    (nf_Space__table : PySem.W.findIn K (.ref c_Space) "_table" = some none)
    (x_sf : PySem.W.selfFirst K c_Space = true)
    (x_mo : PySem.W.mroIn K c_Space (.type "object") = some true)
    (x_ne : PySem.W.findIn K (.ref c_Space) "__ne__" = some (some (.builtin "object.__ne__")))
    (x_ct : PySem.W.typeIn K (.ref c_Space) = some (.type "type"))
    (x_ca : PySem.W.findIn K (.ref c_Space) "__class__" = some (some (.builtin "object.__class__")))
    (x_cg : PySem.W.specialIn K (.builtin "object.__class__") "__get__" = some (some (.builtin "getset_descriptor.__get__")))
    (x_ck : PySem.W.takesIn K (.builtin "object.__class__") = some true)
    (z_int : PySem.W.nsIn K mainGlobals "int" = some none)
    (z_bool : PySem.W.nsIn K mainGlobals "bool" = some none)
    (z_isinstance : PySem.W.nsIn K mainGlobals "isinstance" = some none)
    (z_all : PySem.W.nsIn K mainGlobals "all" = some none)
    (z_len : PySem.W.nsIn K mainGlobals "len" = some none)
    (z_sorted : PySem.W.nsIn K mainGlobals "sorted" = some none)
    (z_tuple : PySem.W.nsIn K mainGlobals "tuple" = some none)
    (z_list : PySem.W.nsIn K mainGlobals "list" = some none)
    (z_range : PySem.W.nsIn K mainGlobals "range" = some none)
    (z_zip : PySem.W.nsIn K mainGlobals "zip" = some none)
    (z_enumerate : PySem.W.nsIn K mainGlobals "enumerate" = some none)
    (z_abs : PySem.W.nsIn K mainGlobals "abs" = some none)
    (z_max : PySem.W.nsIn K mainGlobals "max" = some none)
    (z_min : PySem.W.nsIn K mainGlobals "min" = some none)
    (y_gcd : PySem.W.nsIn K mainGlobals "gcd" = some (some (.builtin "math.gcd")))
    : ∃ fd : FuncData, (∀ (s : Shared) (v : Value), BindsTo s fd ⟨[v], []⟩ [("_law_script", v)]) ∧ ∀ base : Heap, K.In base → base.Ns mainGlobals mg → FnOk l.prog w K mg base CX0 12 fa fd ["_law_script"] (spLaw K) := by
  have e := hfa.symm.trans (PySem.W.mg_of X G a_law)
  cases e
  have F_is_integer := fun_mk (st := s_is_integer) l_is_integer e_is_integer k_is_integer
  have b_is_integer := F_is_integer.binds (ps := ["value"]) fun _ _ _ _ _ _ us hl => match us, hl with | [_], _ => rfl
  have F_are_integers := fun_mk (st := s_are_integers) l_are_integers e_are_integers k_are_integers
  have b_are_integers := F_are_integers.binds (ps := ["values"]) fun _ _ _ _ _ _ us hl => match us, hl with | [_], _ => rfl
  have F_reduced := fun_mk (st := s_reduced) l_reduced e_reduced k_reduced
  have b_reduced := F_reduced.binds (ps := ["rows", "width"]) fun _ _ _ _ _ _ us hl => match us, hl with | [_, _], _ => rfl
  have F_is_row := fun_mk (st := s_is_row) l_is_row e_is_row k_is_row
  have b_is_row := F_is_row.binds (ps := ["value", "width"]) fun _ _ _ _ _ _ us hl => match us, hl with | [_, _], _ => rfl
  have F_lead_of := fun_mk (st := s_lead_of) l_lead_of e_lead_of k_lead_of
  have b_lead_of := F_lead_of.binds (ps := ["row"]) fun _ _ _ _ _ _ us hl => match us, hl with | [_], _ => rfl
  have F_primitive := fun_mk (st := s_primitive) l_primitive e_primitive k_primitive
  have b_primitive := F_primitive.binds (ps := ["row"]) fun _ _ _ _ _ _ us hl => match us, hl with | [_], _ => rfl
  have F_cleared := fun_mk (st := s_cleared) l_cleared e_cleared k_cleared
  have b_cleared := F_cleared.binds (ps := ["row", "other", "lead"]) fun _ _ _ _ _ _ us hl => match us, hl with | [_, _, _], _ => rfl
  have F_table_of := fun_mk (st := s_table_of) l_table_of e_table_of k_table_of
  have b_table_of := F_table_of.binds (ps := ["rows", "width"]) fun _ _ _ _ _ _ us hl => match us, hl with | [_, _], _ => rfl
  have F_rows_of_table := fun_mk (st := s_rows_of_table) l_rows_of_table e_rows_of_table k_rows_of_table
  have b_rows_of_table := F_rows_of_table.binds (ps := ["table"]) fun _ _ _ _ _ _ us hl => match us, hl with | [_], _ => rfl
  have F_rest_of := fun_mk (st := s_rest_of) l_rest_of e_rest_of k_rest_of
  have b_rest_of := F_rest_of.binds (ps := ["table", "row"]) fun _ _ _ _ _ _ us hl => match us, hl with | [_, _], _ => rfl
  have F_is_spanned := fun_mk (st := s_is_spanned) l_is_spanned e_is_spanned k_is_spanned
  have b_is_spanned := F_is_spanned.binds (ps := ["table", "row"]) fun _ _ _ _ _ _ us hl => match us, hl with | [_, _], _ => rfl
  have F_joined := fun_mk (st := s_joined) l_joined e_joined k_joined
  have b_joined := F_joined.binds (ps := ["table", "row"]) fun _ _ _ _ _ _ us hl => match us, hl with | [_, _], _ => rfl
  have F_Space___init__ := fun_mk (st := s_Space___init__) l_Space___init__ e_Space___init__ k_Space___init__
  have b_Space___init__ := F_Space___init__.binds (ps := ["self", "width", "rows"]) fun _ _ _ _ _ _ us hl => match us, hl with | [_, _, _], _ => rfl
  have F_Space_width := fun_mk (st := s_Space_width) l_Space_width e_Space_width k_Space_width
  have b_Space_width := F_Space_width.binds (ps := ["self"]) fun _ _ _ _ _ _ us hl => match us, hl with | [_], _ => rfl
  have F_Space_rows := fun_mk (st := s_Space_rows) l_Space_rows e_Space_rows k_Space_rows
  have b_Space_rows := F_Space_rows.binds (ps := ["self"]) fun _ _ _ _ _ _ us hl => match us, hl with | [_], _ => rfl
  have F_Space___contains__ := fun_mk (st := s_Space___contains__) l_Space___contains__ e_Space___contains__ k_Space___contains__
  have b_Space___contains__ := F_Space___contains__.binds (ps := ["self", "x"]) fun _ _ _ _ _ _ us hl => match us, hl with | [_, _], _ => rfl
  have F_Space___len__ := fun_mk (st := s_Space___len__) l_Space___len__ e_Space___len__ k_Space___len__
  have b_Space___len__ := F_Space___len__.binds (ps := ["self"]) fun _ _ _ _ _ _ us hl => match us, hl with | [_], _ => rfl
  have F_Space___bool__ := fun_mk (st := s_Space___bool__) l_Space___bool__ e_Space___bool__ k_Space___bool__
  have b_Space___bool__ := F_Space___bool__.binds (ps := ["self"]) fun _ _ _ _ _ _ us hl => match us, hl with | [_], _ => rfl
  have F_Space___eq__ := fun_mk (st := s_Space___eq__) l_Space___eq__ e_Space___eq__ k_Space___eq__
  have b_Space___eq__ := F_Space___eq__.binds (ps := ["self", "other"]) fun _ _ _ _ _ _ us hl => match us, hl with | [_, _], _ => rfl
  have F_Space___or__ := fun_mk (st := s_Space___or__) l_Space___or__ e_Space___or__ k_Space___or__
  have b_Space___or__ := F_Space___or__.binds (ps := ["self", "other"]) fun _ _ _ _ _ _ us hl => match us, hl with | [_, _], _ => rfl
  have F_Space_is_within := fun_mk (st := s_Space_is_within) l_Space_is_within e_Space_is_within k_Space_is_within
  have b_Space_is_within := F_Space_is_within.binds (ps := ["self", "other"]) fun _ _ _ _ _ _ us hl => match us, hl with | [_, _], _ => rfl
  have F_Space__fits := fun_mk (st := s_Space__fits) l_Space__fits e_Space__fits k_Space__fits
  have b_Space__fits := F_Space__fits.binds (ps := ["self", "other"]) fun _ _ _ _ _ _ us hl => match us, hl with | [_, _], _ => rfl
  have F__law_pool := fun_mk (st := s__law_pool) l__law_pool e__law_pool k__law_pool
  have b__law_pool := F__law_pool.binds (ps := ["_law_script", "_law_k"]) fun _ _ _ _ _ _ us hl => match us, hl with | [_, _], _ => rfl
  have F__law_take := fun_mk (st := s__law_take) l__law_take e__law_take k__law_take
  have b__law_take := F__law_take.binds (ps := ["_law_pool_here", "_law_wide"]) fun _ _ _ _ _ _ us hl => match us, hl with | [_, _], _ => rfl
  have F__law_thin := fun_mk (st := s__law_thin) l__law_thin e__law_thin k__law_thin
  have b__law_thin := F__law_thin.binds (ps := ["_law_row"]) fun _ _ _ _ _ _ us hl => match us, hl with | [_], _ => rfl
  have F__law_rank := fun_mk (st := s__law_rank) l__law_rank e__law_rank k__law_rank
  have b__law_rank := F__law_rank.binds (ps := ["_law_rows_here"]) fun _ _ _ _ _ _ us hl => match us, hl with | [_], _ => rfl
  have F__law_rows := fun_mk (st := s__law_rows) l__law_rows e__law_rows k__law_rows
  have b__law_rows := F__law_rows.binds (ps := ["_law_pool_here", "_law_wide", "_law_many"]) fun _ _ _ _ _ _ us hl => match us, hl with | [_, _, _], _ => rfl
  have F_law := fun_mk (st := s_law) l_law e_law k_law
  have T : Txt K mg { f_is_integer := f_is_integer, f_is_integer_d := _, f_are_integers := f_are_integers, f_are_integers_d := _, f_reduced := f_reduced, f_reduced_d := _, f_is_row := f_is_row, f_is_row_d := _, f_lead_of := f_lead_of, f_lead_of_d := _, f_primitive := f_primitive, f_primitive_d := _, f_cleared := f_cleared, f_cleared_d := _, f_table_of := f_table_of, f_table_of_d := _, f_rows_of_table := f_rows_of_table, f_rows_of_table_d := _, f_rest_of := f_rest_of, f_rest_of_d := _, f_is_spanned := f_is_spanned, f_is_spanned_d := _, f_joined := f_joined, f_joined_d := _, f_Space___init__ := f_Space___init__, f_Space___init___d := _, f_Space_width := f_Space_width, f_Space_width_d := _, f_Space_rows := f_Space_rows, f_Space_rows_d := _, f_Space___contains__ := f_Space___contains__, f_Space___contains___d := _, f_Space___len__ := f_Space___len__, f_Space___len___d := _, f_Space___bool__ := f_Space___bool__, f_Space___bool___d := _, f_Space___eq__ := f_Space___eq__, f_Space___eq___d := _, f_Space___or__ := f_Space___or__, f_Space___or___d := _, f_Space_is_within := f_Space_is_within, f_Space_is_within_d := _, f_Space__fits := f_Space__fits, f_Space__fits_d := _, f__law_pool := f__law_pool, f__law_pool_d := _, f__law_take := f__law_take, f__law_take_d := _, f__law_thin := f__law_thin, f__law_thin_d := _, f__law_rank := f__law_rank, f__law_rank_d := _, f__law_rows := f__law_rows, f__law_rows_d := _, f_law := fa, f_law_d := _, c_Space := c_Space, pr_Space_width := pr_Space_width, pr_Space_rows := pr_Space_rows } := {
    F_is_integer := F_is_integer,
    b_is_integer := b_is_integer,
    g_is_integer := PySem.W.mg_of X G a_is_integer,
    F_are_integers := F_are_integers,
    b_are_integers := b_are_integers,
    g_are_integers := PySem.W.mg_of X G a_are_integers,
    F_reduced := F_reduced,
    b_reduced := b_reduced,
    g_reduced := PySem.W.mg_of X G a_reduced,
    F_is_row := F_is_row,
    b_is_row := b_is_row,
    g_is_row := PySem.W.mg_of X G a_is_row,
    F_lead_of := F_lead_of,
    b_lead_of := b_lead_of,
    g_lead_of := PySem.W.mg_of X G a_lead_of,
    F_primitive := F_primitive,
    b_primitive := b_primitive,
    g_primitive := PySem.W.mg_of X G a_primitive,
    F_cleared := F_cleared,
    b_cleared := b_cleared,
    g_cleared := PySem.W.mg_of X G a_cleared,
    F_table_of := F_table_of,
    b_table_of := b_table_of,
    g_table_of := PySem.W.mg_of X G a_table_of,
    F_rows_of_table := F_rows_of_table,
    b_rows_of_table := b_rows_of_table,
    g_rows_of_table := PySem.W.mg_of X G a_rows_of_table,
    F_rest_of := F_rest_of,
    b_rest_of := b_rest_of,
    g_rest_of := PySem.W.mg_of X G a_rest_of,
    F_is_spanned := F_is_spanned,
    b_is_spanned := b_is_spanned,
    g_is_spanned := PySem.W.mg_of X G a_is_spanned,
    F_joined := F_joined,
    b_joined := b_joined,
    g_joined := PySem.W.mg_of X G a_joined,
    F_Space___init__ := F_Space___init__,
    b_Space___init__ := b_Space___init__,
    mk_Space := ⟨mk_Space, a_Space___init__, i_Space___init__, kc_Space⟩,
    F_Space_width := F_Space_width,
    b_Space_width := b_Space_width,
    pp_Space_width := ⟨a_Space_width, pg_Space_width, pt_Space_width, _, pq_Space_width⟩,
    F_Space_rows := F_Space_rows,
    b_Space_rows := b_Space_rows,
    pp_Space_rows := ⟨a_Space_rows, pg_Space_rows, pt_Space_rows, _, pq_Space_rows⟩,
    F_Space___contains__ := F_Space___contains__,
    b_Space___contains__ := b_Space___contains__,
    m_Space___contains__ := ⟨a_Space___contains__, i_Space___contains__, k_Space___contains__⟩,
    F_Space___len__ := F_Space___len__,
    b_Space___len__ := b_Space___len__,
    m_Space___len__ := ⟨a_Space___len__, i_Space___len__, k_Space___len__⟩,
    F_Space___bool__ := F_Space___bool__,
    b_Space___bool__ := b_Space___bool__,
    m_Space___bool__ := ⟨a_Space___bool__, i_Space___bool__, k_Space___bool__⟩,
    F_Space___eq__ := F_Space___eq__,
    b_Space___eq__ := b_Space___eq__,
    m_Space___eq__ := ⟨a_Space___eq__, i_Space___eq__, k_Space___eq__⟩,
    F_Space___or__ := F_Space___or__,
    b_Space___or__ := b_Space___or__,
    m_Space___or__ := ⟨a_Space___or__, i_Space___or__, k_Space___or__⟩,
    F_Space_is_within := F_Space_is_within,
    b_Space_is_within := b_Space_is_within,
    m_Space_is_within := ⟨a_Space_is_within, i_Space_is_within, k_Space_is_within⟩,
    F_Space__fits := F_Space__fits,
    b_Space__fits := b_Space__fits,
    m_Space__fits := ⟨a_Space__fits, i_Space__fits, k_Space__fits⟩,
    F__law_pool := F__law_pool,
    b__law_pool := b__law_pool,
    g__law_pool := PySem.W.mg_of X G a__law_pool,
    F__law_take := F__law_take,
    b__law_take := b__law_take,
    g__law_take := PySem.W.mg_of X G a__law_take,
    F__law_thin := F__law_thin,
    b__law_thin := b__law_thin,
    g__law_thin := PySem.W.mg_of X G a__law_thin,
    F__law_rank := F__law_rank,
    b__law_rank := b__law_rank,
    g__law_rank := PySem.W.mg_of X G a__law_rank,
    F__law_rows := F__law_rows,
    b__law_rows := b__law_rows,
    g__law_rows := PySem.W.mg_of X G a__law_rows,
    F_law := F_law,
    g_law := PySem.W.mg_of X G a_law,
    cl_Space := ⟨pg_Space, hd_Space, po_Space, sa_Space⟩,
    mg_Space := PySem.W.mg_of X G ac_Space,
    n_Space__width := nf_Space__width,
    n_Space__table := nf_Space__table,
    sf := x_sf,
    mo := x_mo,
    ne := x_ne,
    ct := x_ct,
    ca := x_ca,
    cg := x_cg,
    ck := x_ck,
    int := PySem.W.mg_none_of X G z_int,
    bool := PySem.W.mg_none_of X G z_bool,
    isinstance := PySem.W.mg_none_of X G z_isinstance,
    all := PySem.W.mg_none_of X G z_all,
    len := PySem.W.mg_none_of X G z_len,
    sorted := PySem.W.mg_none_of X G z_sorted,
    tuple := PySem.W.mg_none_of X G z_tuple,
    list := PySem.W.mg_none_of X G z_list,
    range := PySem.W.mg_none_of X G z_range,
    zip := PySem.W.mg_none_of X G z_zip,
    enumerate := PySem.W.mg_none_of X G z_enumerate,
    abs := PySem.W.mg_none_of X G z_abs,
    max := PySem.W.mg_none_of X G z_max,
    min := PySem.W.mg_none_of X G z_min,
    g_gcd := PySem.W.mg_of X G y_gcd }
  exact ⟨PySem.W.fnOf "law" "law" (defArgs s_law) (defBody s_law) (defScope s_law) .none kV_law dc_law pm_law an_law cd_law ct_law, fun s v => .of_eq rfl, fun base _ _ => ok_law T⟩
end K41
open PySem PySem.W PyProof.Rows
set_option maxRecDepth 100000 in
set_option maxHeartbeats 0 in
theorem PySem.Challenge.cw_allornothing_k41_spans_of_rows_holds : PySem.Challenge.rw_allornothing_k41_spans_of_rows.Holds := by
  w_on; o_law; k_head; (case hw => w_witness2)
  k_fill
  refine L2.walk_of (l := PySem.Challenge.rw_allornothing_k41_spans_of_rows) (n := 63) (k := 12) (x := "_law_script") (CX := fun _ => L2.CX0) (sp := fun w => K41.spLaw _) rfl (by decide) rfl ⟨rfl, by decide, by decide⟩ (fun w h Y => PySem.W.kIn_of Y) ?F (fun _ _ a ns hl _ hS => ⟨a, ns, rfl, hS, hl, fun _ => rfl⟩) (fun _ _ _ _ _ h => h)
  case F =>
    intro w mg fa h KX G hmg
    refine' K41.all_mk KX G hmg ?a_is_integer ?l_is_integer ?e_is_integer ?k_is_integer ?a_are_integers ?l_are_integers ?e_are_integers ?k_are_integers ?a_reduced ?l_reduced ?e_reduced ?k_reduced ?a_is_row ?l_is_row ?e_is_row ?k_is_row ?a_lead_of ?l_lead_of ?e_lead_of ?k_lead_of ?a_primitive ?l_primitive ?e_primitive ?k_primitive ?a_cleared ?l_cleared ?e_cleared ?k_cleared ?a_table_of ?l_table_of ?e_table_of ?k_table_of ?a_rows_of_table ?l_rows_of_table ?e_rows_of_table ?k_rows_of_table ?a_rest_of ?l_rest_of ?e_rest_of ?k_rest_of ?a_is_spanned ?l_is_spanned ?e_is_spanned ?k_is_spanned ?a_joined ?l_joined ?e_joined ?k_joined ?a_Space___init__ ?l_Space___init__ ?e_Space___init__ ?k_Space___init__ ?i_Space___init__ ?a_Space_width ?pg_Space_width ?pt_Space_width ?pq_Space_width ?l_Space_width ?e_Space_width ?k_Space_width ?a_Space_rows ?pg_Space_rows ?pt_Space_rows ?pq_Space_rows ?l_Space_rows ?e_Space_rows ?k_Space_rows ?a_Space___contains__ ?l_Space___contains__ ?e_Space___contains__ ?k_Space___contains__ ?i_Space___contains__ ?a_Space___len__ ?l_Space___len__ ?e_Space___len__ ?k_Space___len__ ?i_Space___len__ ?a_Space___bool__ ?l_Space___bool__ ?e_Space___bool__ ?k_Space___bool__ ?i_Space___bool__ ?a_Space___eq__ ?l_Space___eq__ ?e_Space___eq__ ?k_Space___eq__ ?i_Space___eq__ ?a_Space___or__ ?l_Space___or__ ?e_Space___or__ ?k_Space___or__ ?i_Space___or__ ?a_Space_is_within ?l_Space_is_within ?e_Space_is_within ?k_Space_is_within ?i_Space_is_within ?a_Space__fits ?l_Space__fits ?e_Space__fits ?k_Space__fits ?i_Space__fits ?a__law_pool ?l__law_pool ?e__law_pool ?k__law_pool ?a__law_take ?l__law_take ?e__law_take ?k__law_take ?a__law_thin ?l__law_thin ?e__law_thin ?k__law_thin ?a__law_rank ?l__law_rank ?e__law_rank ?k__law_rank ?a__law_rows ?l__law_rows ?e__law_rows ?k__law_rows ?a_law ?l_law ?e_law ?k_law ?ac_Space ?pg_Space ?hd_Space ?po_Space ?sa_Space ?mk_Space ?kc_Space ?nf_Space__width ?nf_Space__table ?x_sf ?x_mo ?x_ne ?x_ct ?x_ca ?x_cg ?x_ck ?z_int ?z_bool ?z_isinstance ?z_all ?z_len ?z_sorted ?z_tuple ?z_list ?z_range ?z_zip ?z_enumerate ?z_abs ?z_max ?z_min ?y_gcd
    (case ac_Space => k_is)
    (case a_is_integer => k_is)
    (case l_is_integer => k_is)
    (case e_is_integer => k_is)
    (case k_is_integer => k_is)
    (case a_are_integers => k_is)
    (case l_are_integers => k_is)
    (case e_are_integers => k_is)
    (case k_are_integers => k_is)
    (case a_reduced => k_is)
    (case l_reduced => k_is)
    (case e_reduced => k_is)
    (case k_reduced => k_is)
    (case a_is_row => k_is)
    (case l_is_row => k_is)
    (case e_is_row => k_is)
    (case k_is_row => k_is)
    (case a_lead_of => k_is)
    (case l_lead_of => k_is)
    (case e_lead_of => k_is)
    (case k_lead_of => k_is)
    (case a_primitive => k_is)
    (case l_primitive => k_is)
    (case e_primitive => k_is)
    (case k_primitive => k_is)
    (case a_cleared => k_is)
    (case l_cleared => k_is)
    (case e_cleared => k_is)
    (case k_cleared => k_is)
    (case a_table_of => k_is)
    (case l_table_of => k_is)
    (case e_table_of => k_is)
    (case k_table_of => k_is)
    (case a_rows_of_table => k_is)
    (case l_rows_of_table => k_is)
    (case e_rows_of_table => k_is)
    (case k_rows_of_table => k_is)
    (case a_rest_of => k_is)
    (case l_rest_of => k_is)
    (case e_rest_of => k_is)
    (case k_rest_of => k_is)
    (case a_is_spanned => k_is)
    (case l_is_spanned => k_is)
    (case e_is_spanned => k_is)
    (case k_is_spanned => k_is)
    (case a_joined => k_is)
    (case l_joined => k_is)
    (case e_joined => k_is)
    (case k_joined => k_is)
    (case a_Space___init__ => k_is)
    (case l_Space___init__ => k_is)
    (case e_Space___init__ => k_is)
    (case k_Space___init__ => k_is)
    (case i_Space___init__ => k_is)
    (case a_Space_width => k_is)
    (case pg_Space_width => k_is)
    (case pt_Space_width => k_is)
    (case pq_Space_width => k_is)
    (case l_Space_width => k_is)
    (case e_Space_width => k_is)
    (case k_Space_width => k_is)
    (case a_Space_rows => k_is)
    (case pg_Space_rows => k_is)
    (case pt_Space_rows => k_is)
    (case pq_Space_rows => k_is)
    (case l_Space_rows => k_is)
    (case e_Space_rows => k_is)
    (case k_Space_rows => k_is)
    (case a_Space___contains__ => k_is)
    (case l_Space___contains__ => k_is)
    (case e_Space___contains__ => k_is)
    (case k_Space___contains__ => k_is)
    (case i_Space___contains__ => k_is)
    (case a_Space___len__ => k_is)
    (case l_Space___len__ => k_is)
    (case e_Space___len__ => k_is)
    (case k_Space___len__ => k_is)
    (case i_Space___len__ => k_is)
    (case a_Space___bool__ => k_is)
    (case l_Space___bool__ => k_is)
    (case e_Space___bool__ => k_is)
    (case k_Space___bool__ => k_is)
    (case i_Space___bool__ => k_is)
    (case a_Space___eq__ => k_is)
    (case l_Space___eq__ => k_is)
    (case e_Space___eq__ => k_is)
    (case k_Space___eq__ => k_is)
    (case i_Space___eq__ => k_is)
    (case a_Space___or__ => k_is)
    (case l_Space___or__ => k_is)
    (case e_Space___or__ => k_is)
    (case k_Space___or__ => k_is)
    (case i_Space___or__ => k_is)
    (case a_Space_is_within => k_is)
    (case l_Space_is_within => k_is)
    (case e_Space_is_within => k_is)
    (case k_Space_is_within => k_is)
    (case i_Space_is_within => k_is)
    (case a_Space__fits => k_is)
    (case l_Space__fits => k_is)
    (case e_Space__fits => k_is)
    (case k_Space__fits => k_is)
    (case i_Space__fits => k_is)
    (case a__law_pool => k_is)
    (case l__law_pool => k_is)
    (case e__law_pool => k_is)
    (case k__law_pool => k_is)
    (case a__law_take => k_is)
    (case l__law_take => k_is)
    (case e__law_take => k_is)
    (case k__law_take => k_is)
    (case a__law_thin => k_is)
    (case l__law_thin => k_is)
    (case e__law_thin => k_is)
    (case k__law_thin => k_is)
    (case a__law_rank => k_is)
    (case l__law_rank => k_is)
    (case e__law_rank => k_is)
    (case k__law_rank => k_is)
    (case a__law_rows => k_is)
    (case l__law_rows => k_is)
    (case e__law_rows => k_is)
    (case k__law_rows => k_is)
    (case a_law => k_is)
    (case l_law => k_is)
    (case e_law => k_is)
    (case k_law => k_is)
    (case pg_Space => k_is)
    (case hd_Space => k_is)
    (case po_Space => k_is)
    (case sa_Space => k_is)
    (case mk_Space => k_is)
    (case kc_Space => k_is)
    (case nf_Space__width => k_is)
    (case nf_Space__table => k_is)
    (case x_sf => k_is)
    (case x_mo => k_is)
    (case x_ne => k_is)
    (case x_ct => k_is)
    (case x_ca => k_is)
    (case x_cg => k_is)
    (case x_ck => k_is)
    (case z_int => k_is)
    (case z_bool => k_is)
    (case z_isinstance => k_is)
    (case z_all => k_is)
    (case z_len => k_is)
    (case z_sorted => k_is)
    (case z_tuple => k_is)
    (case z_list => k_is)
    (case z_range => k_is)
    (case z_zip => k_is)
    (case z_enumerate => k_is)
    (case z_abs => k_is)
    (case z_max => k_is)
    (case z_min => k_is)
    (case y_gcd => k_is)
#print axioms PySem.Challenge.cw_allornothing_k41_spans_of_rows_holds
