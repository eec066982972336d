import PyProof.Rows.All
import Wide.All
import OpenK.AllK
import Wide.FinOn
import HandS.ForMost
import HandS.Wide
import HandS.Steps
import HandS.IsInst
import HandS.Gcd
import HandS.Zip
import HandS.DictComp
import HandS.Walk
import HandS.TupAny
import KE.GoesEnum
import KE.KMathGC
import PySem.Challenge.RW_allornothing_k42_kernels
set_option Elab.async false
set_option linter.all false
set_option maxRecDepth 100000
set_option maxHeartbeats 8000000
namespace LA
/-- the numbers of a row -/
def co (r : List Int) (p : Nat) : Int := r.getD p 0
theorem co_nil (p : Nat) : co [] p = 0 := rfl
theorem co_ge {r : List Int} {p : Nat} (h : r.length ≤ p) : co r p = 0 := by
  unfold co
  rw [List.getD_eq_getElem?_getD, List.getElem?_eq_none h]; rfl
theorem co_lt {r : List Int} {p : Nat} (h : p < r.length) : co r p = r[p] := by
  unfold co
  rw [List.getD_eq_getElem?_getD, List.getElem?_eq_getElem h]; rfl
theorem co_get {r : List Int} {p : Nat} {x : Int} (h : r[p]? = some x) : co r p = x := by
  unfold co
  rw [List.getD_eq_getElem?_getD, h]; rfl
theorem get_co {r : List Int} {p : Nat} (h : p < r.length) : r[p]? = some (co r p) := by rw [co_lt h, List.getElem?_eq_getElem h]
theorem co_map {r : List Int} {f : Int → Int} (h0 : f 0 = 0) (p : Nat) : co (r.map f) p = f (co r p) := by
  by_cases h : p < r.length
  · rw [co_lt h, co_lt (by rw [List.length_map]; exact h), List.getElem_map]
  · rw [co_ge (r := r) (by omega), co_ge (by rw [List.length_map]; omega), h0]
theorem co_zip {r s : List Int} {f : Int → Int → Int} (hl : r.length = s.length) (h0 : f 0 0 = 0) (p : Nat) : co (List.zipWith f r s) p = f (co r p) (co s p) := by
  by_cases h : p < r.length
  · rw [co_lt h, co_lt (r := s) (by omega), co_lt (by rw [List.length_zipWith]; omega), List.getElem_zipWith]
  · rw [co_ge (r := r) (by omega), co_ge (r := s) (by omega), co_ge (by rw [List.length_zipWith]; omega), h0]
theorem co_set {r : List Int} {i : Nat} {x : Int} (h : i < r.length) (p : Nat) : co (r.set i x) p = if p = i then x else co r p := by
  by_cases e : p = i
  · subst e; rw [if_pos rfl, co_lt (by rw [List.length_set]; exact h), List.getElem_set_self]
  · rw [if_neg e]
    unfold co
    rw [List.getD_eq_getElem?_getD, List.getD_eq_getElem?_getD, List.getElem?_set_ne (by omega)]
theorem co_ext {r s : List Int} (hl : r.length = s.length) (h : ∀ p, co r p = co s p) : r = s := by
  apply List.ext_getElem hl
  intro i h1 h2
  rw [← co_lt h1, ← co_lt h2, h i]
abbrev Vec := Nat → Int
/-- sums of multiples of rows -/
def lin : (Nat → Int) → List (List Int) → Vec
  | _, [], _ => 0
  | c, r :: rs, p => c 0 * co r p + lin (fun i => c (i + 1)) rs p
theorem lin_add (c d : Nat → Int) (S : List (List Int)) (p : Nat) : lin (fun i => c i + d i) S p = lin c S p + lin d S p := by
  induction S generalizing c d with
  | nil => rfl
  | cons r rs ih => show (c 0 + d 0) * _ + lin (fun i => c (i + 1) + d (i + 1)) rs p = _; rw [ih]; show _ = (c 0 * _ + _) + (d 0 * _ + _); grind
theorem lin_mul (k : Int) (c : Nat → Int) (S : List (List Int)) (p : Nat) : lin (fun i => k * c i) S p = k * lin c S p := by
  induction S generalizing c with
  | nil => exact (Int.mul_zero k).symm
  | cons r rs ih => show (k * c 0) * _ + lin (fun i => k * c (i + 1)) rs p = _; rw [ih]; show _ = k * (c 0 * _ + _); grind
theorem lin_none (c : Nat → Int) (S : List (List Int)) (p : Nat) (h : ∀ i s, S[i]? = some s → c i * co s p = 0) : lin c S p = 0 := by
  induction S generalizing c with
  | nil => rfl
  | cons r rs ih =>
    show c 0 * _ + lin (fun i => c (i + 1)) rs p = 0
    rw [ih (fun i => c (i + 1)) (fun i s e => h (i + 1) s (by simpa using e)), h 0 r rfl]
    rfl
/-- only the i-th row counts -/
theorem lin_one (c : Nat → Int) (S : List (List Int)) (p : Nat) (i : Nat) (r : List Int) (hr : S[i]? = some r) (h : ∀ j s, S[j]? = some s → j ≠ i → c j * co s p = 0) : lin c S p = c i * co r p := by
  induction S generalizing c i with
  | nil => simp at hr
  | cons s rs ih =>
    show c 0 * _ + lin (fun i => c (i + 1)) rs p = _
    cases i with
    | zero =>
      have e : s = r := by simpa using hr
      subst e
      rw [lin_none _ _ _ fun j t e => h (j + 1) t (by simpa using e) (by omega)]
      exact Int.add_zero _
    | succ i =>
      rw [ih (fun i => c (i + 1)) i (by simpa using hr) (fun j s e n => h (j + 1) s (by simpa using e) (by omega)), h 0 s rfl (by omega)]
      exact Int.zero_add _
theorem lin_some (c : Nat → Int) (S : List (List Int)) (p : Nat) (h : lin c S p ≠ 0) : ∃ i s, S[i]? = some s ∧ c i ≠ 0 ∧ co s p ≠ 0 := by
  by_cases q : ∃ i s, S[i]? = some s ∧ c i ≠ 0 ∧ co s p ≠ 0
  · exact q
  · refine absurd (lin_none c S p fun i s e => ?_) h
    by_cases h1 : c i = 0
    · rw [h1, Int.zero_mul]
    · by_cases h2 : co s p = 0
      · rw [h2, Int.mul_zero]
      · exact absurd ⟨i, s, e, h1, h2⟩ q
def put (c : Nat → Int) (i : Nat) (a : Int) : Nat → Int := fun j => if j = i then a else c j
theorem lin_put (c : Nat → Int) (S : List (List Int)) (p : Nat) (i : Nat) (r : List Int) (a : Int) (hr : S[i]? = some r) : lin (put c i a) S p = lin c S p + (a - c i) * co r p := by
  have h1 : lin (fun j => put c i a j + -1 * c j) S p = (put c i a i + -1 * c i) * co r p := lin_one _ S p i r hr fun j s e n => by
    unfold put; rw [if_neg n]; grind
  rw [lin_add (put c i a) (fun j => -1 * c j), lin_mul] at h1
  have : put c i a i = a := if_pos rfl
  rw [this] at h1
  grind
theorem lin_set (c : Nat → Int) (S : List (List Int)) (p : Nat) (i : Nat) (r x : List Int) (hr : S[i]? = some r) : lin c (S.set i x) p = lin c S p + c i * (co x p - co r p) := by
  induction S generalizing c i with
  | nil => simp at hr
  | cons s rs ih =>
    cases i with
    | zero =>
      have e : s = r := by simpa using hr
      subst e
      show c 0 * co x p + _ = c 0 * co s p + _ + c 0 * _
      grind
    | succ i =>
      show c 0 * co s p + lin (fun i => c (i + 1)) (rs.set i x) p = c 0 * co s p + lin (fun i => c (i + 1)) rs p + c (i + 1) * _
      rw [ih (fun i => c (i + 1)) i (by simpa using hr)]
      grind
/-- the span -/
inductive Sp (S : List (List Int)) : Vec → Prop
  | mem {r : List Int} : r ∈ S → Sp S (co r)
  | zero : Sp S fun _ => 0
  | add {u v : Vec} : Sp S u → Sp S v → Sp S fun p => u p + v p
  | smul {u : Vec} (c : Int) : Sp S u → Sp S fun p => c * u p
  | div {u : Vec} {k : Int} : k ≠ 0 → Sp S (fun p => k * u p) → Sp S u
theorem Sp.eq {S : List (List Int)} {u v : Vec} (h : Sp S u) (e : ∀ p, u p = v p) : Sp S v := by
  have : u = v := funext e
  exact this ▸ h
theorem Sp.le {S T : List (List Int)} (h : ∀ r ∈ S, Sp T (co r)) {u : Vec} (hu : Sp S u) : Sp T u := by
  induction hu with
  | mem m => exact h _ m
  | zero => exact .zero
  | add _ _ a b => exact .add a b
  | smul c _ a => exact .smul c a
  | div k _ a => exact .div k a
theorem Sp.sub {S T : List (List Int)} (h : ∀ r ∈ S, r ∈ T) {u : Vec} (hu : Sp S u) : Sp T u := Sp.le (fun r m => .mem (h r m)) hu
/-- k u = f v - t w, k not 0 -/
theorem Sp.rel {S : List (List Int)} {u v w : Vec} {k f t : Int} (hk : k ≠ 0) (hv : Sp S v) (hw : Sp S w) (e : ∀ p, k * u p = f * v p - t * w p) : Sp S u :=
  .div hk (Sp.eq (.add (.smul f hv) (.smul (-t) hw)) fun p => by rw [e p]; grind)
theorem Sp.rep {S : List (List Int)} {u : Vec} (h : Sp S u) : ∃ d : Int, d ≠ 0 ∧ ∃ c : Nat → Int, ∀ p, d * u p = lin c S p := by
  induction h with
  | @mem r m =>
    obtain ⟨i, hi, e⟩ := List.getElem_of_mem m
    refine ⟨1, by decide, fun j => if j = i then 1 else 0, fun p => ?_⟩
    rw [lin_one _ S p i r (by rw [List.getElem?_eq_getElem hi, e]) fun j s _ n => by rw [if_neg n, Int.zero_mul]]
    simp
  | zero => exact ⟨1, by decide, fun _ => 0, fun p => by rw [lin_none _ _ _ fun i s _ => Int.zero_mul _]; rfl⟩
  | add _ _ a b =>
    obtain ⟨d1, h1, c1, e1⟩ := a
    obtain ⟨d2, h2, c2, e2⟩ := b
    refine ⟨d1 * d2, Int.mul_ne_zero h1 h2, fun i => d2 * c1 i + d1 * c2 i, fun p => ?_⟩
    rw [lin_add (fun i => d2 * c1 i) (fun i => d1 * c2 i), lin_mul, lin_mul, ← e1, ← e2]
    grind
  | smul k _ a =>
    obtain ⟨d, h, c, e⟩ := a
    exact ⟨d, h, fun i => k * c i, fun p => by rw [lin_mul, ← e]; grind⟩
  | @div u k hk _ a =>
    obtain ⟨d, h, c, e⟩ := a
    exact ⟨d * k, Int.mul_ne_zero h hk, c, fun p => by rw [← e]; grind⟩
theorem Sp.nil {u : Vec} (h : Sp [] u) : ∀ p, u p = 0 := by
  obtain ⟨d, hd, c, e⟩ := h.rep
  intro p
  have : d * u p = 0 := e p
  rcases Int.mul_eq_zero.mp this with h | h
  · exact absurd h hd
  · exact h
theorem Sp.wide {S : List (List Int)} {w : Nat} (hS : ∀ r ∈ S, r.length = w) {u : Vec} (h : Sp S u) {p : Nat} (hp : w ≤ p) : u p = 0 := by
  induction h with
  | mem m => exact co_ge (by rw [hS _ m]; exact hp)
  | zero => rfl
  | add _ _ a b => show _ + _ = _; rw [a, b]; rfl
  | smul c _ a => show _ * _ = _; rw [a]; exact Int.mul_zero _
  | div k _ a =>
    rcases Int.mul_eq_zero.mp a with h | h
    · exact absurd h k
    · exact h
def SpEq (S T : List (List Int)) : Prop := ∀ u, Sp S u ↔ Sp T u
theorem SpEq.refl (S : List (List Int)) : SpEq S S := fun _ => Iff.rfl
theorem SpEq.symm {S T : List (List Int)} (h : SpEq S T) : SpEq T S := fun u => (h u).symm
theorem SpEq.trans {S T U : List (List Int)} (h : SpEq S T) (k : SpEq T U) : SpEq S U := fun u => (h u).trans (k u)
theorem SpEq.of {S T : List (List Int)} (h : ∀ r ∈ S, Sp T (co r)) (k : ∀ r ∈ T, Sp S (co r)) : SpEq S T := fun u => ⟨Sp.le h, Sp.le k⟩
theorem SpEq.mem {S T : List (List Int)} (h : ∀ r, r ∈ S ↔ r ∈ T) : SpEq S T := .of (fun r m => .mem ((h r).mp m)) fun r m => .mem ((h r).mpr m)
theorem SpEq.app {S S' T : List (List Int)} (h : SpEq S S') : SpEq (S ++ T) (S' ++ T) := .of
  (fun r m => (List.mem_append.mp m).elim (fun m => Sp.sub (fun _ m => List.mem_append_left _ m) ((h _).mp (.mem m))) fun m => .mem (List.mem_append_right _ m))
  (fun r m => (List.mem_append.mp m).elim (fun m => Sp.sub (fun _ m => List.mem_append_left _ m) ((h _).mpr (.mem m))) fun m => .mem (List.mem_append_right _ m))
/-- the lead of a vector -/
def Lead (u : Vec) (p : Nat) : Prop := u p ≠ 0 ∧ ∀ q, q < p → u q = 0
theorem Lead.uniq {u : Vec} {p q : Nat} (a : Lead u p) (b : Lead u q) : p = q := by
  rcases Nat.lt_trichotomy p q with h | h | h
  · exact absurd (b.2 p h) a.1
  · exact h
  · exact absurd (a.2 q h) b.1
/-- a table: each row has its lead, where all others have 0 -/
structure Tab (w : Nat) (T : List (Nat × List Int)) : Prop where
  len : ∀ l r, (l, r) ∈ T → r.length = w
  lead : ∀ l r, (l, r) ∈ T → Lead (co r) l
  other : ∀ l r l' r', (l, r) ∈ T → (l', r') ∈ T → l ≠ l' → co r l' = 0
  nodup : (T.map (·.1)).Nodup
def rowsOf (T : List (Nat × List Int)) : List (List Int) := T.map (·.2)
def keysOf (T : List (Nat × List Int)) : List Nat := T.map (·.1)
theorem Tab.nil (w : Nat) : Tab w [] := ⟨fun _ _ h => (by cases h), fun _ _ h => (by cases h), fun _ _ _ _ h => (by cases h), List.nodup_nil⟩
theorem Tab.same {w : Nat} {T : List (Nat × List Int)} (h : Tab w T) {l : Nat} {r r' : List Int} (a : (l, r) ∈ T) (b : (l, r') ∈ T) : r = r' := by
  have n := h.nodup
  clear h
  induction T with
  | nil => cases a
  | cons x xs ih =>
    have n' : x.1 ∉ xs.map (·.1) ∧ (xs.map (·.1)).Nodup := List.nodup_cons.mp n
    rcases List.mem_cons.mp a with rfl | a
    · rcases List.mem_cons.mp b with e | b
      · exact (Prod.mk.inj e).2.symm
      · exact absurd (List.mem_map_of_mem (f := (·.1)) b) n'.1
    · rcases List.mem_cons.mp b with e | b
      · exact absurd (e ▸ List.mem_map_of_mem (f := (·.1)) a) n'.1
      · exact ih a b n'.2
theorem Tab.lt {w : Nat} {T : List (Nat × List Int)} (h : Tab w T) {l : Nat} {r : List Int} (a : (l, r) ∈ T) : l < w := by
  by_cases q : l < w
  · exact q
  · exact absurd (co_ge (by rw [h.len l r a]; omega)) (h.lead l r a).1
/-- the leads of all that a table spans -/
theorem Tab.leads {w : Nat} {T : List (Nat × List Int)} (h : Tab w T) (p : Nat) : (∃ u, Sp (rowsOf T) u ∧ Lead u p) ↔ p ∈ keysOf T := by
  constructor
  · rintro ⟨u, hu, hl⟩
    by_cases hp : p ∈ keysOf T
    · exact hp
    exfalso
    obtain ⟨d, hd, c, e⟩ := hu.rep
    obtain ⟨i, s, hs, hc, hco⟩ := lin_some c _ p (by rw [← e p]; exact Int.mul_ne_zero hd hl.1)
    unfold rowsOf at hs
    rw [List.getElem?_map] at hs
    obtain ⟨⟨l, r⟩, hlr, e2⟩ := Option.map_eq_some_iff.mp hs
    have e2 : r = s := e2
    subst e2
    have hm : (l, r) ∈ T := List.mem_of_getElem? hlr
    have hne : l ≠ p := fun z => hp (z ▸ List.mem_map_of_mem (f := (·.1)) hm)
    have hlt : l < p := by
      rcases Nat.lt_or_ge p l with q | q
      · exact absurd ((h.lead l r hm).2 p q) hco
      · omega
    have hz : lin c (rowsOf T) l = c i * co r l := lin_one c _ l i r (by unfold rowsOf; rw [List.getElem?_map, hlr]; rfl) fun j s hj n => by
      unfold rowsOf at hj
      rw [List.getElem?_map] at hj
      obtain ⟨⟨l', r'⟩, hlr', e3⟩ := Option.map_eq_some_iff.mp hj
      have e3 : r' = s := e3
      subst e3
      have hm' : (l', r') ∈ T := List.mem_of_getElem? hlr'
      have hll : l' ≠ l := fun z => n (by
        have hi : (keysOf T)[i]? = some l := by unfold keysOf; rw [List.getElem?_map, hlr]; rfl
        have hj' : (keysOf T)[j]? = some l := by unfold keysOf; rw [List.getElem?_map, hlr', ← z]; rfl
        have hi1 := (List.getElem?_eq_some_iff.mp hi).1
        exact ((List.getElem?_inj hi1 h.nodup).mp (hi.trans hj'.symm)).symm)
      rw [h.other l' r' l r hm' hm hll, Int.mul_zero]
    rw [← e l, hl.2 l hlt, Int.mul_zero] at hz
    exact Int.mul_ne_zero hc (h.lead l r hm).1 hz.symm
  · intro hp
    obtain ⟨⟨l, r⟩, hm, e⟩ := List.mem_map.mp hp
    have e : l = p := e
    subst e
    exact ⟨co r, .mem (List.mem_map_of_mem (f := (·.2)) hm), h.lead l r hm⟩
/-- rows whose leads ascend -/
def Stair : List Nat → List (List Int) → Prop
  | [], [] => True
  | l :: ls, r :: rs => Lead (co r) l ∧ (∀ m ∈ ls, l < m) ∧ Stair ls rs
  | _, _ => False
theorem Stair.zero : ∀ {ls : List Nat} {S : List (List Int)}, Stair ls S → ∀ {q : Nat}, (∀ l ∈ ls, q < l) → ∀ c, lin c S q = 0
  | [], [], _, _, _, _ => rfl
  | l :: ls, r :: rs, h, q, hq, c => by
    show c 0 * co r q + lin _ rs q = 0
    rw [h.1.2 q (hq l (List.mem_cons_self ..)), Stair.zero h.2.2 (fun m hm => hq m (List.mem_cons_of_mem _ hm))]
    simp
  | [], _ :: _, h, _, _, _ => h.elim
  | _ :: _, [], h, _, _, _ => h.elim
theorem Stair.lead : ∀ {ls : List Nat} {S : List (List Int)}, Stair ls S → ∀ {c : Nat → Int} {p : Nat}, Lead (lin c S) p → p ∈ ls
  | [], [], _, _, _, h => absurd rfl h.1
  | l :: ls, r :: rs, h, c, p, hl => by
    by_cases h0 : c 0 = 0
    · refine List.mem_cons_of_mem _ (Stair.lead h.2.2 (c := fun i => c (i + 1)) ?_)
      have e : ∀ q, lin c (r :: rs) q = lin (fun i => c (i + 1)) rs q := fun q => by
        show c 0 * _ + _ = _
        rw [h0]; simp
      exact ⟨fun z => hl.1 ((e p).trans z), fun q hq => (e q).symm.trans (hl.2 q hq)⟩
    · have hp : Lead (lin c (r :: rs)) l := by
        refine ⟨?_, fun q hq => ?_⟩
        · show c 0 * co r l + lin _ rs l ≠ 0
          rw [Stair.zero h.2.2 h.2.1, Int.add_zero]
          exact Int.mul_ne_zero h0 h.1.1
        · show c 0 * co r q + lin _ rs q = 0
          rw [h.1.2 q hq, Stair.zero h.2.2 fun m hm => Nat.lt_trans hq (h.2.1 m hm)]
          simp
      rw [hl.uniq hp]
      exact List.mem_cons_self ..
  | [], _ :: _, h, _, _, _ => h.elim
  | _ :: _, [], h, _, _, _ => h.elim
theorem Stair.mem : ∀ {ls : List Nat} {S : List (List Int)}, Stair ls S → ∀ {p : Nat}, p ∈ ls → ∃ r ∈ S, Lead (co r) p
  | [], [], _, _, h => by cases h
  | l :: ls, r :: rs, h, p, hp => by
    rcases List.mem_cons.mp hp with rfl | hp
    · exact ⟨r, List.mem_cons_self .., h.1⟩
    · obtain ⟨s, hs, e⟩ := Stair.mem h.2.2 hp
      exact ⟨s, List.mem_cons_of_mem _ hs, e⟩
  | [], _ :: _, h, _, _ => h.elim
  | _ :: _, [], h, _, _ => h.elim
theorem Stair.leads {ls : List Nat} {S : List (List Int)} (h : Stair ls S) (p : Nat) : (∃ u, Sp S u ∧ Lead u p) ↔ p ∈ ls := by
  constructor
  · rintro ⟨u, hu, hl⟩
    obtain ⟨d, hd, c, e⟩ := hu.rep
    refine h.lead (c := c) ⟨?_, fun q hq => ?_⟩
    · rw [← e p]; exact Int.mul_ne_zero hd hl.1
    · rw [← e q, hl.2 q hq, Int.mul_zero]
  · intro hp
    obtain ⟨r, hr, e⟩ := h.mem hp
    exact ⟨co r, .mem hr, e⟩
theorem Stair.length : ∀ {ls : List Nat} {S : List (List Int)}, Stair ls S → ls.length = S.length
  | [], [], _ => rfl
  | _ :: _, _ :: _, h => congrArg (· + 1) (Stair.length h.2.2)
  | [], _ :: _, h => h.elim
  | _ :: _, [], h => h.elim
theorem Stair.nodup : ∀ {ls : List Nat} {S : List (List Int)}, Stair ls S → ls.Nodup
  | [], [], _ => List.nodup_nil
  | l :: ls, r :: rs, h => List.nodup_cons.mpr ⟨fun m => Nat.lt_irrefl _ (h.2.1 l m), Stair.nodup h.2.2⟩
  | [], _ :: _, h => h.elim
  | _ :: _, [], h => h.elim
theorem Stair.app : ∀ {ls : List Nat} {S : List (List Int)}, Stair ls S → ∀ {l : Nat} {r : List Int}, Lead (co r) l → (∀ m ∈ ls, m < l) → Stair (ls ++ [l]) (S ++ [r])
  | [], [], _, l, r, h, _ => ⟨h, fun _ m => (by cases m), True.intro⟩
  | l' :: ls, r' :: rs, hh, l, r, h, hm => ⟨hh.1, fun m hm2 => by
      rcases List.mem_append.mp hm2 with q | q
      · exact hh.2.1 m q
      · rw [List.mem_singleton.mp q]; exact hm l' (List.mem_cons_self ..), Stair.app hh.2.2 h fun m q => hm m (List.mem_cons_of_mem _ q)⟩
  | [], _ :: _, h, _, _, _, _ => h.elim
  | _ :: _, [], h, _, _, _, _ => h.elim
theorem same_len {a b : List Nat} (ha : a.Nodup) (hb : b.Nodup) (h : ∀ x, x ∈ a ↔ x ∈ b) : a.length = b.length := ((List.perm_ext_iff_of_nodup ha hb).mpr h).length_eq
/-- two ways to rows with leads of their own, of one span, have equally many -/
theorem stair_tab {w : Nat} {T : List (Nat × List Int)} (hT : Tab w T) {ls : List Nat} {S : List (List Int)} (hS : Stair ls S) (e : SpEq S (rowsOf T)) : S.length = T.length := by
  have h1 : ls.length = (keysOf T).length := same_len hS.nodup hT.nodup fun p => by
    rw [← hS.leads p, ← hT.leads p]
    exact ⟨fun ⟨u, a, b⟩ => ⟨u, (e u).mp a, b⟩, fun ⟨u, a, b⟩ => ⟨u, (e u).mpr a, b⟩⟩
  rw [← hS.length, h1]
  exact List.length_map _
/-- no sum of multiples is 0 but that of zeros -/
def Indep (S : List (List Int)) : Prop := ∀ c : Nat → Int, (∀ p, lin c S p = 0) → ∀ i, i < S.length → c i = 0
theorem Indep.step {S : List (List Int)} (h : Indep S) {i j : Nat} {r s x : List Int} {k f t : Int} (hi : S[i]? = some r) (hj : S[j]? = some s) (hij : i ≠ j) (hk : k ≠ 0) (hf : f ≠ 0) (e : ∀ p, k * co x p = f * co r p - t * co s p) : Indep (S.set i x) := by
  intro c hc m hm
  rw [List.length_set] at hm
  have hi' := (List.getElem?_eq_some_iff.mp hi).1
  have hj' := (List.getElem?_eq_some_iff.mp hj).1
  have key : ∀ p, lin (put (put (fun m => k * c m) i (f * c i)) j (k * c j - t * c i)) S p = 0 := fun p => by
    rw [lin_put _ S p j s _ hj, lin_put _ S p i r _ hi, lin_mul]
    have h1 := hc p
    rw [lin_set c S p i r x hi] at h1
    have h2 : put (fun m => k * c m) i (f * c i) j = k * c j := if_neg (Ne.symm hij)
    rw [h2]
    have h3 := e p
    grind
  have hz := h _ key
  have ci : c i = 0 := by
    have := hz i hi'
    unfold put at this
    rw [if_neg hij, if_pos rfl] at this
    rcases Int.mul_eq_zero.mp this with q | q
    · exact absurd q hf
    · exact q
  by_cases mi : m = i
  · rw [mi]; exact ci
  by_cases mj : m = j
  · have := hz j hj'
    unfold put at this
    rw [if_pos rfl, ci, Int.mul_zero, Int.sub_zero] at this
    rcases Int.mul_eq_zero.mp this with q | q
    · exact absurd q hk
    · rw [mj]; exact q
  · have := hz m hm
    unfold put at this
    rw [if_neg mj, if_neg mi] at this
    rcases Int.mul_eq_zero.mp this with q | q
    · exact absurd q hk
    · exact q
theorem Indep.swap {S : List (List Int)} (h : Indep S) {i j : Nat} {r s : List Int} (hi : S[i]? = some r) (hj : S[j]? = some s) (hij : i ≠ j) : Indep ((S.set i s).set j r) := by
  intro c hc m hm
  rw [List.length_set, List.length_set] at hm
  have hi' := (List.getElem?_eq_some_iff.mp hi).1
  have hj' := (List.getElem?_eq_some_iff.mp hj).1
  have key : ∀ p, lin (put (put c i (c j)) j (c i)) S p = 0 := fun p => by
    rw [lin_put _ S p j s _ hj, lin_put _ S p i r _ hi]
    have h1 := hc p
    rw [lin_set c (S.set i s) p j s r (by rw [List.getElem?_set_ne hij]; exact hj), lin_set c S p i r s hi] at h1
    have h2 : put c i (c j) j = c j := if_neg (Ne.symm hij)
    rw [h2]
    grind
  have hz := h _ key
  have ci : c j = 0 := by
    have := hz i hi'
    unfold put at this
    rwa [if_neg hij, if_pos rfl] at this
  have cj : c i = 0 := by
    have := hz j hj'
    unfold put at this
    rwa [if_pos rfl] at this
  by_cases mi : m = i
  · rw [mi]; exact cj
  by_cases mj : m = j
  · rw [mj]; exact ci
  · have := hz m hm
    unfold put at this
    rwa [if_neg mj, if_neg mi] at this
theorem Indep.no_zero {S : List (List Int)} (h : Indep S) {i : Nat} {r : List Int} (hi : S[i]? = some r) (hz : ∀ p, co r p = 0) : False := by
  have hi' := (List.getElem?_eq_some_iff.mp hi).1
  have := h (fun j => if j = i then 1 else 0) (fun p => lin_none _ S p fun j s e => by
    by_cases q : j = i
    · subst q
      rw [hi] at e
      rw [← Option.some.inj e, hz p, Int.mul_zero]
    · rw [if_neg q, Int.zero_mul]) i hi'
  rw [if_pos rfl] at this
  cases this
end LA
namespace LA
def gcdL (r : List Int) : Nat := r.foldl (fun g n => Nat.gcd g n.natAbs) 0
theorem gcdF_dvd (r : List Int) (g : Nat) : (r.foldl (fun g n => Nat.gcd g n.natAbs) g) ∣ g ∧ ∀ n ∈ r, (r.foldl (fun g n => Nat.gcd g n.natAbs) g) ∣ n.natAbs := by
  induction r generalizing g with
  | nil => exact ⟨Nat.dvd_refl _, fun _ h => by cases h⟩
  | cons x xs ih =>
    obtain ⟨a, b⟩ := ih (Nat.gcd g x.natAbs)
    refine ⟨Nat.dvd_trans a (Nat.gcd_dvd_left _ _), fun n hn => ?_⟩
    rcases List.mem_cons.mp hn with rfl | hn
    · exact Nat.dvd_trans a (Nat.gcd_dvd_right _ _)
    · exact b n hn
theorem gcdF_great (r : List Int) (g d : Nat) (h : d ∣ g) (k : ∀ n ∈ r, d ∣ n.natAbs) : d ∣ r.foldl (fun g n => Nat.gcd g n.natAbs) g := by
  induction r generalizing g with
  | nil => exact h
  | cons x xs ih => exact ih _ (Nat.dvd_gcd h (k x (List.mem_cons_self ..))) fun n hn => k n (List.mem_cons_of_mem _ hn)
theorem nat_dvd {g : Nat} {n : Int} : (g : Int) ∣ n ↔ g ∣ n.natAbs := ⟨fun h => Int.natAbs_dvd_natAbs.mpr h, fun h => Int.natAbs_dvd_natAbs.mp h⟩
theorem gcdL_dvd {r : List Int} {n : Int} (h : n ∈ r) : (gcdL r : Int) ∣ n := nat_dvd.mpr ((gcdF_dvd r 0).2 n h)
theorem gcdL_co (r : List Int) (p : Nat) : (gcdL r : Int) ∣ co r p := by
  by_cases h : p < r.length
  · rw [co_lt h]; exact gcdL_dvd (List.getElem_mem h)
  · rw [co_ge (by omega)]; exact Int.dvd_zero _
theorem gcdL_zero {r : List Int} (h : gcdL r = 0) (p : Nat) : co r p = 0 := by
  have := gcdL_co r p
  rw [h] at this
  exact Int.zero_dvd.mp this
theorem gcdL_le {r : List Int} {p : Nat} (h : co r p ≠ 0) : gcdL r ≤ (co r p).natAbs := Nat.le_of_dvd (Int.natAbs_pos.mpr h) (nat_dvd.mp (gcdL_co r p))
def leadL : List Int → Nat
  | [] => 0
  | x :: xs => if x ≠ 0 then 0 else leadL xs + 1
theorem leadL_le : ∀ r : List Int, leadL r ≤ r.length
  | [] => Nat.le_refl _
  | x :: xs => by
    unfold leadL
    split
    · exact Nat.zero_le _
    · exact Nat.succ_le_succ (leadL_le xs)
theorem leadL_before : ∀ (r : List Int) {q : Nat}, q < leadL r → co r q = 0
  | [], q, h => absurd h (Nat.not_lt_zero _)
  | x :: xs, q, h => by
    unfold leadL at h
    split at h
    · exact absurd h (Nat.not_lt_zero _)
    · rename_i hx
      have hx : x = 0 := Classical.byContradiction hx
      cases q with
      | zero => exact hx
      | succ q => exact leadL_before xs (Nat.lt_of_succ_lt_succ h)
theorem leadL_at : ∀ (r : List Int), leadL r < r.length → co r (leadL r) ≠ 0
  | [], h => absurd h (Nat.not_lt_zero _)
  | x :: xs, h => by
    unfold leadL at h ⊢
    split
    · rename_i hx; exact hx
    · rename_i hx
      rw [if_neg hx] at h
      exact leadL_at xs (Nat.lt_of_succ_lt_succ h)
theorem leadL_lead {r : List Int} (h : leadL r < r.length) : Lead (co r) (leadL r) := ⟨leadL_at r h, fun q hq => leadL_before r hq⟩
theorem leadL_none {r : List Int} (h : leadL r = r.length) (p : Nat) : co r p = 0 := by
  by_cases q : p < r.length
  · exact leadL_before r (by omega)
  · exact co_ge (by omega)
theorem leadL_of {r : List Int} {p : Nat} (h : Lead (co r) p) : leadL r = p := by
  have hl : leadL r < r.length := by
    rcases Nat.lt_or_ge (leadL r) r.length with q | q
    · exact q
    · exact absurd (leadL_none (Nat.le_antisymm (leadL_le r) q) p) h.1
  exact (leadL_lead hl).uniq h
def signG (r : List Int) : Int := if co r (leadL r) < 0 then -(gcdL r : Int) else (gcdL r : Int)
def primL (r : List Int) : List Int := if gcdL r = 0 then r else r.map (fun n => n.fdiv (signG r))
theorem signG_ne {r : List Int} (h : gcdL r ≠ 0) : signG r ≠ 0 := by unfold signG; split <;> omega
theorem signG_dvd (r : List Int) (p : Nat) : signG r ∣ co r p := by
  unfold signG
  split
  · exact Int.neg_dvd.mpr (gcdL_co r p)
  · exact gcdL_co r p
theorem primL_len (r : List Int) : (primL r).length = r.length := by
  unfold primL
  split
  · rfl
  · exact List.length_map _
theorem fdiv_mul {a b : Int} (h : b ∣ a) : b * a.fdiv b = a := Int.mul_fdiv_cancel' h
theorem primL_co {r : List Int} (h : gcdL r ≠ 0) (p : Nat) : signG r * co (primL r) p = co r p := by
  unfold primL
  rw [if_neg h, co_map (f := fun n => n.fdiv (signG r)) (Int.zero_fdiv _)]
  exact fdiv_mul (signG_dvd r p)
theorem primL_mul (r : List Int) : ∃ c : Int, c ≠ 0 ∧ ∀ p, co r p = c * co (primL r) p := by
  by_cases h : gcdL r = 0
  · exact ⟨1, by decide, fun p => by unfold primL; rw [if_pos h, Int.one_mul]⟩
  · exact ⟨signG r, signG_ne h, fun p => (primL_co h p).symm⟩
theorem natAbs_of_mul {a b c : Int} (h : a = c * b) (hc : c ≠ 0) : b.natAbs ≤ a.natAbs := by
  rw [h, Int.natAbs_mul]
  exact Nat.le_mul_of_pos_left _ (Int.natAbs_pos.mpr hc)
theorem lead_mul {u v : Vec} {c : Int} (hc : c ≠ 0) (e : ∀ p, u p = c * v p) {l : Nat} : Lead u l ↔ Lead v l := by
  unfold Lead
  constructor
  · rintro ⟨a, b⟩
    refine ⟨fun z => a (by rw [e, z, Int.mul_zero]), fun q hq => ?_⟩
    have := b q hq
    rw [e] at this
    rcases Int.mul_eq_zero.mp this with z | z
    · exact absurd z hc
    · exact z
  · rintro ⟨a, b⟩
    exact ⟨fun z => a (by
      rw [e] at z
      rcases Int.mul_eq_zero.mp z with z | z
      · exact absurd z hc
      · exact z), fun q hq => by rw [e, b q hq, Int.mul_zero]⟩
/-- all numbers below 2 ^ n -/
def Bd (n : Nat) (r : List Int) : Prop := ∀ p, (co r p).natAbs < 2 ^ n
theorem Bd.mono {n m : Nat} {r : List Int} (h : Bd n r) (k : n ≤ m) : Bd m r := fun p => Nat.lt_of_lt_of_le (h p) (Nat.pow_le_pow_right (by decide) k)
theorem Bd.prim {n : Nat} {r : List Int} (h : Bd n r) : Bd n (primL r) := fun p => by
  obtain ⟨c, hc, e⟩ := primL_mul r
  exact Nat.lt_of_le_of_lt (natAbs_of_mul (e p) hc) (h p)
theorem Bd.mem {n : Nat} {r : List Int} (h : Bd n r) {x : Int} (m : x ∈ r) : x.natAbs < 2 ^ n := by
  obtain ⟨i, hi, e⟩ := List.getElem_of_mem m
  have := h i
  rwa [co_lt hi, e] at this
theorem Bd.gcd {n : Nat} {r : List Int} (h : Bd n r) : gcdL r < 2 ^ n := by
  by_cases z : ∃ p, co r p ≠ 0
  · obtain ⟨p, hp⟩ := z
    exact Nat.lt_of_le_of_lt (gcdL_le hp) (h p)
  · have : gcdL r = 0 := by
      have hz : ∀ x ∈ r, x = 0 := fun x hx => by
        obtain ⟨i, hi, e⟩ := List.getElem_of_mem hx
        by_cases q : x = 0
        · exact q
        · exact absurd ⟨i, by rw [co_lt hi, e]; exact q⟩ z
      exact Nat.eq_zero_of_zero_dvd (gcdF_great r 0 0 (Nat.dvd_refl _) fun x hx => by rw [hz x hx]; exact Nat.dvd_refl _)
    rw [this]; exact Nat.two_pow_pos n
theorem Bd.sign {n : Nat} {r : List Int} (h : Bd n r) : (signG r).natAbs < 2 ^ n := by
  have := h.gcd
  unfold signG
  split <;> omega
theorem bd_comb {a b : Nat} {f n t o : Int} (hf : f.natAbs < 2 ^ b) (hn : n.natAbs < 2 ^ a) (ht : t.natAbs < 2 ^ a) (ho : o.natAbs < 2 ^ b) : (f * n - t * o).natAbs < 2 ^ (a + b + 1) := by
  have h1 : (f * n).natAbs < 2 ^ (a + b) := by
    rw [Int.natAbs_mul, Nat.pow_add, Nat.mul_comm]
    exact Nat.mul_lt_mul'' hn hf
  have h2 : (t * o).natAbs < 2 ^ (a + b) := by
    rw [Int.natAbs_mul, Nat.pow_add]
    exact Nat.mul_lt_mul'' ht ho
  rw [Nat.pow_succ]
  omega
def clearP (row other : List Int) (lead : Nat) : List Int := List.zipWith (fun n t => co other lead * n - co row lead * t) row other
def clearL (row other : List Int) (lead : Nat) : List Int :=
  if co other lead = 1 then List.zipWith (fun n t => n - co row lead * t) row other else primL (clearP row other lead)
theorem clearP_co {row other : List Int} {lead : Nat} (hl : row.length = other.length) (p : Nat) : co (clearP row other lead) p = co other lead * co row p - co row lead * co other p :=
  co_zip (f := fun n t => co other lead * n - co row lead * t) hl (by rw [Int.mul_zero, Int.mul_zero]; rfl) p
theorem clearL_len {row other : List Int} {lead : Nat} (hl : row.length = other.length) : (clearL row other lead).length = row.length := by
  unfold clearL clearP
  split
  · rw [List.length_zipWith]; omega
  · rw [primL_len, List.length_zipWith]; omega
theorem clearL_co {row other : List Int} {lead : Nat} (hl : row.length = other.length) : ∃ k : Int, k ≠ 0 ∧ ∀ p, k * co (clearL row other lead) p = co other lead * co row p - co row lead * co other p := by
  unfold clearL
  split
  · rename_i e
    exact ⟨1, by decide, fun p => by rw [Int.one_mul, co_zip (f := fun n t => n - co row lead * t) hl (by rw [Int.mul_zero]; rfl), e, Int.one_mul]⟩
  · obtain ⟨c, hc, e⟩ := primL_mul (clearP row other lead)
    exact ⟨c, hc, fun p => by rw [← e p, clearP_co hl]⟩
theorem Bd.clearP {a b : Nat} {row other : List Int} {lead : Nat} (hl : row.length = other.length) (h : Bd a row) (k : Bd b other) : Bd (a + b + 1) (clearP row other lead) := fun p => by
  rw [clearP_co hl]
  exact bd_comb (k lead) (h p) (h lead) (k p)
theorem Bd.clear {a b : Nat} {row other : List Int} {lead : Nat} (hl : row.length = other.length) (h : Bd a row) (k : Bd b other) : Bd (a + b + 1) (clearL row other lead) := by
  unfold clearL
  split
  · rename_i e
    intro p
    rw [co_zip (f := fun n t => n - co row lead * t) hl (by rw [Int.mul_zero]; rfl)]
    have := bd_comb (f := co other lead) (k lead) (h p) (h lead) (k p)
    rwa [e, Int.one_mul] at this
  · exact (Bd.clearP hl h k).prim
def restS (rest : List Int) (x : Nat × List Int) : List Int := if co rest x.1 ≠ 0 then clearL rest x.2 x.1 else rest
def restL (T : List (Nat × List Int)) (row : List Int) : List Int := T.foldl restS row
/-- k rest = f row - u, u in the span -/
def Rel (S : List (List Int)) (rest row : List Int) : Prop := ∃ k f : Int, k ≠ 0 ∧ f ≠ 0 ∧ ∃ u, Sp S u ∧ ∀ p, k * co rest p = f * co row p - u p
theorem Rel.refl (S : List (List Int)) (r : List Int) : Rel S r r := ⟨1, 1, by decide, by decide, _, .zero, fun p => by simp⟩
theorem Rel.sub {S S' : List (List Int)} (h : ∀ r ∈ S, r ∈ S') {a b : List Int} (k : Rel S a b) : Rel S' a b := by
  obtain ⟨k, f, hk, hf, u, hu, e⟩ := k
  exact ⟨k, f, hk, hf, u, hu.sub h, e⟩
theorem Rel.clear {S : List (List Int)} {rest row o : List Int} {l : Nat} (h : Rel S rest row) (ho : o ∈ S) (hl : rest.length = o.length) (h0 : co o l ≠ 0) : Rel S (clearL rest o l) row := by
  obtain ⟨k, f, hk, hf, u, hu, e⟩ := h
  obtain ⟨c, hc, e2⟩ := clearL_co (lead := l) hl
  refine ⟨k * c, co o l * f, Int.mul_ne_zero hk hc, Int.mul_ne_zero h0 hf, fun p => co o l * u p + k * co rest l * co o p, .add (.smul _ hu) (.smul _ (.mem ho)), fun p => ?_⟩
  have h1 := e p
  have h2 := e2 p
  grind
theorem restL_all {w : Nat} {T : List (Nat × List Int)} (hT : Tab w T) (T1 T2 : List (Nat × List Int)) (hsub : ∀ x ∈ T2, x ∈ T) (S : List (List Int)) (hS : ∀ x ∈ T2, x.2 ∈ S) (row rest : List Int) (hr : rest.length = w) (h : Rel S rest row)
    (hz : ∀ l r, (l, r) ∈ T1 → (l, r) ∈ T ∧ co rest l = 0) : (restL T2 rest).length = w ∧ Rel S (restL T2 rest) row ∧ (∀ l r, (l, r) ∈ T1 ∨ (l, r) ∈ T2 → co (restL T2 rest) l = 0) := by
  induction T2 generalizing T1 rest with
  | nil => exact ⟨hr, h, fun l r m => m.elim (fun m => (hz l r m).2) fun m => by cases m⟩
  | cons x xs ih =>
    obtain ⟨l, o⟩ := x
    have hm : (l, o) ∈ T := hsub _ (List.mem_cons_self ..)
    have hlo : rest.length = o.length := by rw [hr, hT.len l o hm]
    have step : (restS rest (l, o)).length = w ∧ Rel S (restS rest (l, o)) row ∧ co (restS rest (l, o)) l = 0 ∧ ∀ l' r', (l', r') ∈ T1 → co (restS rest (l, o)) l' = 0 := by
      unfold restS
      by_cases hc : co rest l ≠ 0
      · rw [if_pos hc]
        obtain ⟨c, hcne, e⟩ := clearL_co (row := rest) (other := o) (lead := l) hlo
        have zero : ∀ q, co o l * co rest q - co rest l * co o q = 0 → co (clearL rest o l) q = 0 := fun q hq => by
          have := e q
          rw [hq] at this
          rcases Int.mul_eq_zero.mp this with z | z
          · exact absurd z hcne
          · exact z
        refine ⟨(clearL_len hlo).trans hr, h.clear (hS _ (List.mem_cons_self ..)) hlo (hT.lead l o hm).1, zero l (by grind), fun l' r' m' => ?_⟩
        obtain ⟨mT, z⟩ := hz l' r' m'
        by_cases ell : l = l'
        · subst ell; exact zero l (by grind)
        · exact zero l' (by rw [z, hT.other l o l' r' hm mT ell]; simp)
      · rw [if_neg hc]
        have hc : co rest l = 0 := Classical.byContradiction hc
        exact ⟨hr, h, hc, fun l' r' m' => (hz l' r' m').2⟩
    have := ih ((l, o) :: T1) (fun y hy => hsub y (List.mem_cons_of_mem _ hy)) (fun y hy => hS y (List.mem_cons_of_mem _ hy)) (restS rest (l, o)) step.1 step.2.1 (fun l' r' m' => by
      rcases List.mem_cons.mp m' with e | m'
      · cases e
        exact ⟨hm, step.2.2.1⟩
      · exact ⟨(hz l' r' m').1, step.2.2.2 l' r' m'⟩)
    refine ⟨this.1, this.2.1, fun l' r' m' => this.2.2 l' r' ?_⟩
    rcases m' with m' | m'
    · exact .inl (List.mem_cons_of_mem _ m')
    · rcases List.mem_cons.mp m' with e | m'
      · cases e
        exact .inl (List.mem_cons_self ..)
      · exact .inr m'
theorem mem_rows {T : List (Nat × List Int)} {l : Nat} {r : List Int} (h : (l, r) ∈ T) : r ∈ rowsOf T := List.mem_map_of_mem (f := (·.2)) h
theorem restL_ok {w : Nat} {T : List (Nat × List Int)} (hT : Tab w T) {row : List Int} (hr : row.length = w) : (restL T row).length = w ∧ Rel (rowsOf T) (restL T row) row ∧ ∀ l r, (l, r) ∈ T → co (restL T row) l = 0 := by
  have := restL_all hT [] T (fun _ h => h) (rowsOf T) (fun x h => mem_rows (l := x.1) h) row row hr (.refl _ _) fun _ _ h => by cases h
  exact ⟨this.1, this.2.1, fun l r m => this.2.2 l r (.inr m)⟩
theorem restL_len {w : Nat} {T : List (Nat × List Int)} (h : ∀ l r, (l, r) ∈ T → r.length = w) {row : List Int} (hr : row.length = w) : (restL T row).length = w := by
  induction T generalizing row with
  | nil => exact hr
  | cons x xs ih =>
    refine ih (fun l r m => h l r (List.mem_cons_of_mem _ m)) ?_
    have := h x.1 x.2 (List.mem_cons_self ..)
    unfold restS
    split
    · exact (clearL_len (by omega)).trans hr
    · exact hr
theorem restL_bd {w b : Nat} {T : List (Nat × List Int)} (h : ∀ l r, (l, r) ∈ T → r.length = w ∧ Bd b r) {a : Nat} {row : List Int} (hr : row.length = w) (hb : Bd a row) : Bd (a + T.length * (b + 1)) (restL T row) := by
  induction T generalizing row a with
  | nil => simpa [restL] using hb
  | cons x xs ih =>
    obtain ⟨h1, h2⟩ := h x.1 x.2 (List.mem_cons_self ..)
    have step : (restS row x).length = w ∧ Bd (a + b + 1) (restS row x) := by
      unfold restS
      split
      · exact ⟨(clearL_len (by omega)).trans hr, hb.clear (by omega) h2⟩
      · exact ⟨hr, hb.mono (by omega)⟩
    have := ih (fun l r m => h l r (List.mem_cons_of_mem _ m)) step.1 step.2
    refine Bd.mono this ?_
    rw [List.length_cons, Nat.add_mul]
    omega
def putS (rest : List Int) (lead : Nat) (x : Nat × List Int) : Nat × List Int := (x.1, if co x.2 lead = 0 then x.2 else primL (clearL x.2 rest lead))
def joinL (T : List (Nat × List Int)) (row : List Int) : List (Nat × List Int) :=
  if leadL (primL (restL T row)) = (primL (restL T row)).length then T else T.map (putS (primL (restL T row)) (leadL (primL (restL T row)))) ++ [(leadL (primL (restL T row)), primL (restL T row))]
theorem mul_zero_or {a b : Int} (h : a * b = 0) (ha : a ≠ 0) : b = 0 := (Int.mul_eq_zero.mp h).resolve_left ha
/-- one row more -/
theorem join_ok {w : Nat} {T : List (Nat × List Int)} (hT : Tab w T) {row : List Int} (hr : row.length = w) : Tab w (joinL T row) ∧ SpEq (rowsOf (joinL T row)) (rowsOf T ++ [row]) := by
  obtain ⟨h1, h2, h3⟩ := restL_ok hT hr
  obtain ⟨c, hc, ec⟩ := primL_mul (restL T row)
  have hplen : (primL (restL T row)).length = w := (primL_len _).trans h1
  have hpz : ∀ l r, (l, r) ∈ T → co (primL (restL T row)) l = 0 := fun l r m => mul_zero_or ((ec l).symm.trans (h3 l r m)) hc
  obtain ⟨k, f, hk, hf, u, hu, eu⟩ := h2
  have inT : ∀ r ∈ rowsOf T, Sp (rowsOf T ++ [row]) (co r) := fun r m => .mem (List.mem_append_left _ m)
  have inR : Sp (rowsOf T ++ [row]) (co row) := .mem (List.mem_append_right _ (List.mem_singleton.mpr rfl))
  have huu : Sp (rowsOf T ++ [row]) u := hu.le inT
  have hrest : Sp (rowsOf T ++ [row]) (co (primL (restL T row))) := by
    refine .div (k := k * c) (Int.mul_ne_zero hk hc) (Sp.eq (.add (.smul f inR) (.smul (-1) huu)) fun p => ?_)
    have a := eu p
    have b := ec p
    grind
  unfold joinL
  generalize hR : primL (restL T row) = R at *
  by_cases hlead : leadL R = R.length
  · rw [if_pos hlead]
    refine ⟨hT, .of inT fun r m => ?_⟩
    rcases List.mem_append.mp m with m | m
    · exact .mem m
    · rw [List.mem_singleton.mp m]
      refine .div (k := f) hf (Sp.eq hu fun p => ?_)
      have a := eu p
      rw [ec p, leadL_none hlead p, Int.mul_zero, Int.mul_zero] at a
      omega
  · rw [if_neg hlead]
    have hlt : leadL R < R.length := by have := leadL_le R; omega
    have hL := leadL_lead hlt
    generalize leadL R = L at *
    have hLk : ∀ l r, (l, r) ∈ T → l ≠ L := fun l r m z => hL.1 (z ▸ hpz l r m)
    have new : ∀ l r, (l, r) ∈ T → ((putS R L (l, r)).2.length = w ∧ co (putS R L (l, r)).2 L = 0 ∧ Lead (co (putS R L (l, r)).2) l ∧ (∀ l' r', (l', r') ∈ T → l ≠ l' → co (putS R L (l, r)).2 l' = 0)
        ∧ Sp (rowsOf T ++ [row]) (co (putS R L (l, r)).2) ∧ ∀ S, Sp S (co R) → Sp S (co (putS R L (l, r)).2) → Sp S (co r)) := by
      intro l r m
      unfold putS
      by_cases hz : co r L = 0
      · simp only [if_pos hz]
        exact ⟨hT.len l r m, hz, hT.lead l r m, fun l' r' m' n => hT.other l r l' r' m m' n, inT r (mem_rows m), fun S _ h => h⟩
      · simp only [if_neg hz]
        have hlr : r.length = R.length := by rw [hT.len l r m, hplen]
        obtain ⟨k1, hk1, e1⟩ := clearL_co (row := r) (other := R) (lead := L) hlr
        obtain ⟨k2, hk2, e2⟩ := primL_mul (clearL r R L)
        have e : ∀ p, (k1 * k2) * co (primL (clearL r R L)) p = co R L * co r p - co r L * co R p := fun p => by
          rw [← e1 p, e2 p]; grind
        have hkk := Int.mul_ne_zero hk1 hk2
        have zero : ∀ q, co R L * co r q - co r L * co R q = 0 → co (primL (clearL r R L)) q = 0 := fun q hq => mul_zero_or ((e q).trans hq) hkk
        have hlL : l < L := by
          rcases Nat.lt_trichotomy l L with q | q | q
          · exact q
          · exact absurd q (hLk l r m)
          · exact absurd ((hT.lead l r m).2 L q) hz
        refine ⟨?_, zero L (by grind), ⟨fun z => ?_, fun q hq => zero q (by rw [(hT.lead l r m).2 q hq, hL.2 q (by omega)]; simp)⟩, fun l' r' m' n => zero l' (by rw [hT.other l r l' r' m m' n, hpz l' r' m']; simp), Sp.rel hkk (inT r (mem_rows m)) hrest e, fun S hR hN => ?_⟩
        · rw [primL_len, clearL_len hlr]; exact hT.len l r m
        · have := e l
          rw [z, hpz l r m, Int.mul_zero, Int.mul_zero, Int.sub_zero] at this
          exact Int.mul_ne_zero hL.1 (hT.lead l r m).1 this.symm
        · exact .div (k := co R L) hL.1 (Sp.eq (.add (.smul (k1 * k2) hN) (.smul (co r L) hR)) fun p => by have := e p; grind)
    have memNew : ∀ l s, (l, s) ∈ T.map (putS R L) ++ [(L, R)] → (∃ r, (l, r) ∈ T ∧ s = (putS R L (l, r)).2) ∨ (l = L ∧ s = R) := fun l s m => by
      rcases List.mem_append.mp m with m | m
      · obtain ⟨⟨l', r'⟩, m', e'⟩ := List.mem_map.mp m
        have e1 : l' = l := congrArg Prod.fst e'
        have e2 : (putS R L (l', r')).2 = s := congrArg Prod.snd e'
        subst e1
        exact .inl ⟨r', m', e2.symm⟩
      · cases List.mem_singleton.mp m
        exact .inr ⟨rfl, rfl⟩
    refine ⟨⟨fun l s m => ?_, fun l s m => ?_, fun l s l' s' m m' n => ?_, ?_⟩, .of (fun s m => ?_) fun s m => ?_⟩
    · rcases memNew l s m with ⟨r, hm, rfl⟩ | ⟨rfl, rfl⟩
      · exact (new l r hm).1
      · exact hplen
    · rcases memNew l s m with ⟨r, hm, rfl⟩ | ⟨rfl, rfl⟩
      · exact (new l r hm).2.2.1
      · exact hL
    · rcases memNew l s m with ⟨r, hm, rfl⟩ | ⟨rfl, rfl⟩
      · rcases memNew l' s' m' with ⟨r', hm', rfl⟩ | ⟨rfl, rfl⟩
        · exact (new l r hm).2.2.2.1 l' r' hm' n
        · exact (new l r hm).2.1
      · rcases memNew l' s' m' with ⟨r', hm', rfl⟩ | ⟨rfl, rfl⟩
        · exact hpz l' r' hm'
        · exact absurd rfl n
    · rw [List.map_append, List.map_map]
      refine List.nodup_append.mpr ⟨hT.nodup, List.nodup_cons.mpr ⟨by simp, List.nodup_nil⟩, fun a ha b hb => ?_⟩
      obtain ⟨⟨l, r⟩, m, e⟩ := List.mem_map.mp ha
      have e : l = a := e
      have hb : b = L := by simpa using hb
      subst e
      rw [hb]
      exact hLk l r m
    · obtain ⟨⟨l, s'⟩, m', e⟩ := List.mem_map.mp m
      have e : s' = s := e
      subst e
      rcases memNew l s' m' with ⟨r, hm, rfl⟩ | ⟨rfl, rfl⟩
      · exact (new l r hm).2.2.2.2.1
      · exact hrest
    · have hRin : Sp (rowsOf (T.map (putS R L) ++ [(L, R)])) (co R) := .mem (List.mem_map.mpr ⟨(L, R), List.mem_append_right _ (List.mem_singleton.mpr rfl), rfl⟩)
      have old : ∀ r ∈ rowsOf T, Sp (rowsOf (T.map (putS R L) ++ [(L, R)])) (co r) := fun r m => by
        obtain ⟨⟨l, r'⟩, m', e⟩ := List.mem_map.mp m
        have e : r' = r := e
        subst e
        exact (new l r' m').2.2.2.2.2 _ hRin (.mem (List.mem_map.mpr ⟨putS R L (l, r'), List.mem_append_left _ (List.mem_map_of_mem m'), rfl⟩))
      rcases List.mem_append.mp m with m | m
      · exact old s m
      · rw [List.mem_singleton.mp m]
        refine .div (k := f) hf (Sp.eq (.add (.smul (k * c) hRin) (hu.le old)) fun p => ?_)
        have a := eu p
        have b := ec p
        grind
theorem join_len (T : List (Nat × List Int)) (row : List Int) : (joinL T row).length = T.length ∨ (joinL T row).length = T.length + 1 := by
  unfold joinL
  split
  · exact .inl rfl
  · exact .inr (by rw [List.length_append, List.length_map]; rfl)
def tabL (rows : List (List Int)) : List (Nat × List Int) := rows.foldl joinL []
theorem tabF_ok {w : Nat} (rows : List (List Int)) (T : List (Nat × List Int)) (S : List (List Int)) (hT : Tab w T) (hS : SpEq (rowsOf T) S) (hr : ∀ r ∈ rows, r.length = w) : Tab w (rows.foldl joinL T) ∧ SpEq (rowsOf (rows.foldl joinL T)) (S ++ rows) := by
  induction rows generalizing T S with
  | nil => exact ⟨hT, by rw [List.append_nil]; exact hS⟩
  | cons r rs ih =>
    obtain ⟨a, b⟩ := join_ok hT (hr r (List.mem_cons_self ..))
    have := ih (joinL T r) (S ++ [r]) a (b.trans hS.app) fun s m => hr s (List.mem_cons_of_mem _ m)
    rw [List.append_assoc] at this
    exact this
theorem tab_ok {w : Nat} {rows : List (List Int)} (hr : ∀ r ∈ rows, r.length = w) : Tab w (tabL rows) ∧ SpEq (rowsOf (tabL rows)) rows := tabF_ok rows [] [] (.nil w) (.refl _) hr
/-- bits of a table of t rows whose rows have a bits -/
def bits (a : Nat) : Nat → Nat
  | 0 => 0
  | t + 1 => bits a t + (a + t * (bits a t + 1)) + 1
def Bits (a : Nat) (T : List (Nat × List Int)) : Prop := ∀ l r, (l, r) ∈ T → Bd (bits a T.length) r
theorem Bits.nil (a : Nat) : Bits a [] := fun _ _ h => by cases h
theorem Bits.join {w a : Nat} {T : List (Nat × List Int)} (hT : Tab w T) (h : Bits a T) {row : List Int} (hr : row.length = w) (hb : Bd a row) : Bits a (joinL T row) := by
  have hR : Bd (a + T.length * (bits a T.length + 1)) (primL (restL T row)) := (restL_bd (fun l r m => ⟨hT.len l r m, h l r m⟩) hr hb).prim
  have hRl : (primL (restL T row)).length = w := (primL_len _).trans (restL_len hT.len hr)
  unfold joinL
  generalize primL (restL T row) = R at *
  split
  · exact h
  · intro l s m
    rw [List.length_append, List.length_map]
    show Bd (bits a (T.length + 1)) s
    unfold bits
    rcases List.mem_append.mp m with m | m
    · obtain ⟨⟨l', r'⟩, m', e'⟩ := List.mem_map.mp m
      have e2 : (putS R (leadL R) (l', r')).2 = s := congrArg Prod.snd e'
      subst e2
      unfold putS
      dsimp only
      split
      · exact (h l' r' m').mono (by omega)
      · exact ((h l' r' m').clear (by rw [hT.len l' r' m', hRl]) hR).prim.mono (by omega)
    · cases List.mem_singleton.mp m
      exact hR.mono (by omega)
theorem keys_in {w : Nat} {T : List (Nat × List Int)} (h : Tab w T) : ((List.range w).filter fun p => decide (p ∈ keysOf T)).length = T.length := by
  have key : ((List.range w).filter fun p => decide (p ∈ keysOf T)).length = (keysOf T).length := by
    refine same_len (List.nodup_range.filter fun p => decide (p ∈ keysOf T)) h.nodup fun x => ?_
    rw [List.mem_filter, List.mem_range]
    constructor
    · exact fun z => of_decide_eq_true z.2
    · intro hx
      refine ⟨?_, decide_eq_true hx⟩
      obtain ⟨⟨l, r⟩, m, e⟩ := List.mem_map.mp hx
      have e : l = x := e
      subst e
      exact h.lt m
  rw [key]
  exact List.length_map _
theorem tab_len_le {w : Nat} {T : List (Nat × List Int)} (h : Tab w T) : T.length ≤ w := by
  rw [← keys_in h]
  exact Nat.le_trans (List.length_filter_le _ _) (by rw [List.length_range]; exact Nat.le_refl _)
def freesOf (w : Nat) (T : List (Nat × List Int)) : List Nat := (List.range w).filter fun p => !decide (p ∈ keysOf T)
theorem split_len (l : List Nat) (f : Nat → Bool) : (l.filter f).length + (l.filter fun p => !f p).length = l.length := by
  induction l with
  | nil => rfl
  | cons x xs ih =>
    rw [List.filter_cons, List.filter_cons]
    cases f x <;> simp <;> omega
theorem frees_len {w : Nat} {T : List (Nat × List Int)} (h : Tab w T) : (freesOf w T).length = w - T.length := by
  have := split_len (List.range w) fun p => decide (p ∈ keysOf T)
  rw [keys_in h, List.length_range] at this
  unfold freesOf
  omega
end LA
namespace LA
/-- sums of products -/
def dot : Nat → Vec → Vec → Int
  | 0, _, _ => 0
  | n + 1, u, v => dot n u v + u n * v n
theorem dot_add (n : Nat) (k u v : Vec) : dot n k (fun p => u p + v p) = dot n k u + dot n k v := by
  induction n with
  | zero => rfl
  | succ n ih => show dot n k _ + _ = _; rw [ih]; show _ = (dot n k u + _) + (dot n k v + _); grind
theorem dot_mul (n : Nat) (k u : Vec) (c : Int) : dot n k (fun p => c * u p) = c * dot n k u := by
  induction n with
  | zero => exact (Int.mul_zero c).symm
  | succ n ih => show dot n k _ + _ = _; rw [ih]; show _ = c * (dot n k u + _); grind
theorem dot_lmul (n : Nat) (k u : Vec) (c : Int) : dot n (fun p => c * k p) u = c * dot n k u := by
  induction n with
  | zero => exact (Int.mul_zero c).symm
  | succ n ih => show dot n _ u + _ = _; rw [ih]; show _ = c * (dot n k u + _); grind
theorem dot_zero (n : Nat) (k u : Vec) (h : ∀ p, p < n → k p * u p = 0) : dot n k u = 0 := by
  induction n with
  | zero => rfl
  | succ n ih => show dot n k u + _ = _; rw [ih fun p hp => h p (by omega), h n (by omega)]; rfl
theorem dot_two (n : Nat) (k u : Vec) (a b : Nat) (ha : a < n) (hb : b < n) (hab : a ≠ b) (h : ∀ p, p < n → p ≠ a → p ≠ b → k p * u p = 0) : dot n k u = k a * u a + k b * u b := by
  have one : ∀ n a, a < n → ∀ k u : Vec, (∀ p, p < n → p ≠ a → k p * u p = 0) → dot n k u = k a * u a := by
    intro n
    induction n with
    | zero => intro a h; exact absurd h (Nat.not_lt_zero _)
    | succ n ih =>
      intro a ha k u h
      show dot n k u + _ = _
      by_cases e : a = n
      · subst e; rw [dot_zero _ _ _ fun p hp => h p (by omega) (by omega)]; simp
      · rw [ih a (by omega) k u fun p hp q => h p (by omega) q, h n (by omega) (by omega)]; simp
  induction n with
  | zero => exact absurd ha (Nat.not_lt_zero _)
  | succ n ih =>
    show dot n k u + _ = _
    by_cases ea : a = n
    · subst ea
      rw [one _ b (by omega) k u fun p hp q => h p (by omega) (by omega) q]
      omega
    · by_cases eb : b = n
      · subst eb
        rw [one _ a (by omega) k u fun p hp q => h p (by omega) q (by omega)]
      · rw [ih (by omega) (by omega) fun p hp q r => h p (by omega) q r, h n (by omega) (by omega) (by omega)]
        omega
theorem dot_sp {n : Nat} {k : Vec} {S : List (List Int)} (h : ∀ r ∈ S, dot n k (co r) = 0) {u : Vec} (hu : Sp S u) : dot n k u = 0 := by
  induction hu with
  | mem m => exact h _ m
  | zero => exact dot_zero _ _ _ fun p _ => Int.mul_zero _
  | add _ _ a b => rw [dot_add, a, b]; rfl
  | smul c _ a => rw [dot_mul, a, Int.mul_zero]
  | div hk _ a => rw [dot_mul] at a; exact mul_zero_or a hk
def scaleS (s : Nat) (x : Nat × List Int) : Nat := Nat.lcm s (co x.2 x.1).natAbs
def scaleL (T : List (Nat × List Int)) : Nat := T.foldl scaleS 1
theorem scaleF (T : List (Nat × List Int)) (s : Nat) : s ∣ T.foldl scaleS s ∧ ∀ l r, (l, r) ∈ T → (co r l).natAbs ∣ T.foldl scaleS s := by
  induction T generalizing s with
  | nil => exact ⟨Nat.dvd_refl _, fun _ _ h => by cases h⟩
  | cons x xs ih =>
    obtain ⟨a, b⟩ := ih (scaleS s x)
    refine ⟨Nat.dvd_trans (Nat.dvd_lcm_left _ _) a, fun l r m => ?_⟩
    rcases List.mem_cons.mp m with e | m
    · subst e
      exact Nat.dvd_trans (Nat.dvd_lcm_right _ _) a
    · exact b l r m
theorem scaleF_pos (T : List (Nat × List Int)) (h : ∀ l r, (l, r) ∈ T → co r l ≠ 0) (s : Nat) (hs : 0 < s) : 0 < T.foldl scaleS s := by
  induction T generalizing s with
  | nil => exact hs
  | cons x xs ih => exact ih (fun l r m => h l r (List.mem_cons_of_mem _ m)) _ (Nat.lcm_pos hs (Int.natAbs_pos.mpr (h x.1 x.2 (List.mem_cons_self ..))))
theorem scaleF_le (b : Nat) (T : List (Nat × List Int)) (h : ∀ l r, (l, r) ∈ T → Bd b r) (s a : Nat) (hs : s ≤ 2 ^ a) : T.foldl scaleS s ≤ 2 ^ (a + T.length * b) := by
  induction T generalizing s a with
  | nil => simpa using hs
  | cons x xs ih =>
    have h1 := h x.1 x.2 (List.mem_cons_self ..) x.1
    have : scaleS s x ≤ 2 ^ (a + b) := by
      unfold scaleS
      refine Nat.le_trans (Nat.div_le_self _ _) ?_
      rw [Nat.pow_add]
      exact Nat.mul_le_mul hs (Nat.le_of_lt h1)
    have := ih (fun l r m => h l r (List.mem_cons_of_mem _ m)) _ _ this
    rw [List.length_cons, Nat.add_mul]
    rwa [show a + (xs.length * b + 1 * b) = a + b + xs.length * b from by omega]
def numS (free : Nat) (scale : Int) (nums : List Int) (x : Nat × List Int) : List Int := nums.set x.1 ((-(co x.2 free) * scale).fdiv (co x.2 x.1))
def numsL (T : List (Nat × List Int)) (free w : Nat) : List Int := T.foldl (numS free (scaleL T)) ((List.replicate w 0).set free (scaleL T))
theorem numsF_len (T : List (Nat × List Int)) (free : Nat) (s : Int) (n : List Int) : (T.foldl (numS free s) n).length = n.length := by
  induction T generalizing n with
  | nil => rfl
  | cons x xs ih => rw [List.foldl_cons, ih]; exact List.length_set
theorem numsL_len (T : List (Nat × List Int)) (free w : Nat) : (numsL T free w).length = w := by
  unfold numsL
  rw [numsF_len, List.length_set, List.length_replicate]
theorem numsF_co {w : Nat} {T : List (Nat × List Int)} (hn : (keysOf T).Nodup) (hw : ∀ l r, (l, r) ∈ T → l < w) (free : Nat) (s : Int) (n : List Int) (hl : n.length = w) :
    (∀ p, p ∉ keysOf T → co (T.foldl (numS free s) n) p = co n p) ∧ ∀ l r, (l, r) ∈ T → co (T.foldl (numS free s) n) l = (-(co r free) * s).fdiv (co r l) := by
  induction T generalizing n with
  | nil => exact ⟨fun _ _ => rfl, fun _ _ h => by cases h⟩
  | cons x xs ih =>
    have nx : x.1 ∉ keysOf xs ∧ (keysOf xs).Nodup := List.nodup_cons.mp hn
    have hx := hw x.1 x.2 (List.mem_cons_self ..)
    obtain ⟨a, b⟩ := ih nx.2 (fun l r m => hw l r (List.mem_cons_of_mem _ m)) (numS free s n x) (by unfold numS; rw [List.length_set]; exact hl)
    refine ⟨fun p hp => ?_, fun l r m => ?_⟩
    · have h1 : p ≠ x.1 := fun z => hp (z ▸ List.mem_cons_self ..)
      have h2 : p ∉ keysOf xs := fun z => hp (List.mem_cons_of_mem _ z)
      rw [List.foldl_cons, a p h2]
      unfold numS
      rw [co_set (by omega), if_neg h1]
    · rcases List.mem_cons.mp m with e | m
      · subst e
        rw [List.foldl_cons, a l nx.1]
        unfold numS
        rw [co_set (by show l < n.length; rw [hl]; exact hx)]
        exact if_pos rfl
      · exact b l r m
theorem co_repl (w p : Nat) : co (List.replicate w 0) p = 0 := by
  by_cases h : p < w
  · rw [co_lt (by rw [List.length_replicate]; exact h), List.getElem_replicate]
  · exact co_ge (by rw [List.length_replicate]; omega)
theorem scale_ne {w : Nat} {T : List (Nat × List Int)} (hT : Tab w T) : (scaleL T : Int) ≠ 0 := by
  have := scaleF_pos T (fun l r m => (hT.lead l r m).1) 1 (by decide)
  have : 0 < scaleL T := this
  omega
theorem numsL_co {w : Nat} {T : List (Nat × List Int)} (hT : Tab w T) {free : Nat} (hf : free < w) (hk : free ∉ keysOf T) :
    (∀ p, p ∉ keysOf T → co (numsL T free w) p = if p = free then (scaleL T : Int) else 0) ∧ ∀ l r, (l, r) ∈ T → co r l * co (numsL T free w) l = -(co r free) * scaleL T := by
  obtain ⟨a, b⟩ := numsF_co (w := w) hT.nodup (fun l r m => hT.lt m) free (scaleL T) ((List.replicate w 0).set free (scaleL T)) (by rw [List.length_set, List.length_replicate])
  refine ⟨fun p hp => ?_, fun l r m => ?_⟩
  · unfold numsL
    rw [a p hp, co_set (by rw [List.length_replicate]; exact hf), co_repl]
  · unfold numsL
    rw [b l r m]
    exact fdiv_mul (Int.dvd_mul_of_dvd_right (nat_dvd.mpr (by
      have := (scaleF T 1).2 l r m
      have h2 : (co r l).natAbs ∣ scaleL T := this
      exact h2) |> fun h => (Int.natAbs_dvd.mp h)))
def kernelL (T : List (Nat × List Int)) (free w : Nat) : List Int := primL (numsL T free w)
theorem kernelL_len (T : List (Nat × List Int)) (free w : Nat) : (kernelL T free w).length = w := (primL_len _).trans (numsL_len T free w)
theorem kernelL_free {w : Nat} {T : List (Nat × List Int)} (hT : Tab w T) {free : Nat} (hf : free < w) (hk : free ∉ keysOf T) : co (kernelL T free w) free ≠ 0 ∧ ∀ p, p ∉ keysOf T → p ≠ free → co (kernelL T free w) p = 0 := by
  obtain ⟨a, b⟩ := numsL_co hT hf hk
  obtain ⟨c, hc, e⟩ := primL_mul (numsL T free w)
  refine ⟨fun z => ?_, fun p hp n => ?_⟩
  · have := a free hk
    rw [if_pos rfl, e free] at this
    have z : co (primL (numsL T free w)) free = 0 := z
    rw [z, Int.mul_zero] at this
    exact scale_ne hT this.symm
  · have := a p hp
    rw [if_neg n, e p] at this
    exact mul_zero_or this hc
theorem kernelL_dot {w : Nat} {T : List (Nat × List Int)} (hT : Tab w T) {free : Nat} (hf : free < w) (hk : free ∉ keysOf T) {u : Vec} (hu : Sp (rowsOf T) u) : dot w (co (kernelL T free w)) u = 0 := by
  obtain ⟨a, b⟩ := numsL_co hT hf hk
  obtain ⟨c, hc, e⟩ := primL_mul (numsL T free w)
  refine dot_sp (fun r m => ?_) hu
  obtain ⟨⟨l, r'⟩, m', e'⟩ := List.mem_map.mp m
  have e' : r' = r := e'
  subst e'
  have hlf : l ≠ free := fun z => hk (z ▸ List.mem_map_of_mem (f := (·.1)) m')
  have : dot w (fun p => c * co (primL (numsL T free w)) p) (co r') = 0 := by
    rw [dot_two w _ _ free l hf (hT.lt m') (Ne.symm hlf) fun p hp h1 h2 => ?_]
    · rw [← e, ← e, a free hk, if_pos rfl]
      have := b l r' m'
      grind
    · by_cases hpk : p ∈ keysOf T
      · obtain ⟨⟨l2, r2⟩, m2, e2⟩ := List.mem_map.mp hpk
        have e2 : l2 = p := e2
        subst e2
        rw [hT.other l r' l2 r2 m' m2 (Ne.symm h2), Int.mul_zero]
      · rw [← e, a p hpk, if_neg h1, Int.zero_mul]
  rw [dot_lmul] at this
  exact mul_zero_or this hc
theorem kernelL_bd {w b : Nat} {T : List (Nat × List Int)} (hT : Tab w T) (hb : ∀ l r, (l, r) ∈ T → Bd b r) {free : Nat} (hf : free < w) (hk : free ∉ keysOf T) : Bd (b + T.length * b + 1) (numsL T free w) := by
  obtain ⟨a, c⟩ := numsL_co hT hf hk
  have hs : scaleL T ≤ 2 ^ (0 + T.length * b) := scaleF_le b T hb 1 0 (by decide)
  rw [Nat.zero_add] at hs
  have hlt : 2 ^ (T.length * b) < 2 ^ (b + T.length * b + 1) := Nat.pow_lt_pow_right (by decide) (by omega)
  intro p
  by_cases hp : p ∈ keysOf T
  · obtain ⟨⟨l, r⟩, m, e⟩ := List.mem_map.mp hp
    have e : l = p := e
    subst e
    have h1 := c l r m
    have h2 : (co (numsL T free w) l).natAbs ≤ (-(co r free) * (scaleL T : Int)).natAbs := natAbs_of_mul h1.symm (hT.lead l r m).1
    refine Nat.lt_of_le_of_lt h2 ?_
    rw [Int.natAbs_mul, Int.natAbs_neg]
    have h3 := hb l r m free
    have h4 : (co r free).natAbs * (scaleL T : Int).natAbs ≤ 2 ^ b * 2 ^ (T.length * b) := Nat.mul_le_mul (Nat.le_of_lt h3) hs
    rw [← Nat.pow_add] at h4
    exact Nat.lt_of_le_of_lt h4 (Nat.pow_lt_pow_right (by decide) (by omega))
  · rw [a p hp]
    split
    · exact Nat.lt_of_le_of_lt hs hlt
    · exact Nat.two_pow_pos _
theorem kernels_indep {w : Nat} {T : List (Nat × List Int)} (hT : Tab w T) : Indep ((freesOf w T).map fun f => kernelL T f w) := by
  intro c hc i hi
  rw [List.length_map] at hi
  have hm : (freesOf w T)[i] ∈ freesOf w T := List.getElem_mem hi
  have hmem : ∀ f ∈ freesOf w T, f < w ∧ f ∉ keysOf T := fun f m => by
    obtain ⟨a, b⟩ := List.mem_filter.mp m
    exact ⟨List.mem_range.mp a, fun z => by rw [decide_eq_true z] at b; cases b⟩
  have := hc (freesOf w T)[i]
  rw [lin_one c _ _ i (kernelL T (freesOf w T)[i] w) (by rw [List.getElem?_map, List.getElem?_eq_getElem hi]; rfl) fun j s hj n => ?_] at this
  · rcases Int.mul_eq_zero.mp this with z | z
    · exact z
    · exact absurd z (kernelL_free hT (hmem _ hm).1 (hmem _ hm).2).1
  · rw [List.getElem?_map] at hj
    obtain ⟨f, hf, e⟩ := Option.map_eq_some_iff.mp hj
    subst e
    have mf : f ∈ freesOf w T := List.mem_of_getElem? hf
    have hne : (freesOf w T)[i] ≠ f := fun z => n (by
      have nd : (freesOf w T).Nodup := List.nodup_range.filter _
      have hj1 := (List.getElem?_eq_some_iff.mp hf).1
      exact (List.getElem?_inj hj1 nd).mp (hf.trans (z ▸ (List.getElem?_eq_getElem hi)).symm))
    rw [(kernelL_free hT (hmem f mf).1 (hmem f mf).2).2 _ (hmem _ hm).2 hne, Int.mul_zero]
/-! ### the law's own elimination -/
def thinL (r : List Int) : List Int := if 1 < gcdL r then r.map (fun n => n.fdiv (gcdL r)) else r
theorem thinL_len (r : List Int) : (thinL r).length = r.length := by
  unfold thinL
  split
  · exact List.length_map _
  · rfl
theorem thinL_mul (r : List Int) : ∃ c : Int, c ≠ 0 ∧ ∀ p, co r p = c * co (thinL r) p := by
  unfold thinL
  split
  · rename_i h
    refine ⟨gcdL r, by omega, fun p => ?_⟩
    rw [co_map (f := fun n => n.fdiv (gcdL r)) (Int.zero_fdiv _)]
    exact (fdiv_mul (gcdL_co r p)).symm
  · exact ⟨1, by decide, fun p => (Int.one_mul _).symm⟩
theorem Bd.thin {n : Nat} {r : List Int} (h : Bd n r) : Bd n (thinL r) := fun p => by
  obtain ⟨c, hc, e⟩ := thinL_mul r
  exact Nat.lt_of_le_of_lt (natAbs_of_mul (e p) hc) (h p)
def crossL (w : Nat) (first other : List Int) (at' : Nat) : List Int := (List.range w).map fun p => co first at' * co other p - co other at' * co first p
theorem crossL_len (w : Nat) (first other : List Int) (at' : Nat) : (crossL w first other at').length = w := by
  unfold crossL
  rw [List.length_map, List.length_range]
theorem crossL_co {w : Nat} {first other : List Int} {at' : Nat} (h1 : first.length = w) (h2 : other.length = w) (p : Nat) : co (crossL w first other at') p = co first at' * co other p - co other at' * co first p := by
  by_cases h : p < w
  · rw [co_lt (by rw [crossL_len]; exact h)]
    unfold crossL
    rw [List.getElem_map, List.getElem_range]
  · have e1 : co other p = 0 := co_ge (by omega)
    have e2 : co first p = 0 := co_ge (by omega)
    rw [co_ge (r := crossL w first other at') (by rw [crossL_len]; omega), e1, e2, Int.mul_zero, Int.mul_zero]
    rfl
theorem Bd.cross {w b : Nat} {first other : List Int} {at' : Nat} (h1 : first.length = w) (h2 : other.length = w) (hf : Bd b first) (ho : Bd b other) : Bd (b + b + 1) (crossL w first other at') := fun p => by
  rw [crossL_co h1 h2]
  exact bd_comb (hf at') (ho p) (ho at') (hf p)
/-- the state of the elimination -/
structure RI (w : Nat) (rows left : List (List Int)) (total at' : Nat) : Prop where
  n : left.length = rows.length
  len : ∀ r ∈ left, r.length = w
  stair : ∃ ls, Stair ls (left.take total) ∧ ∀ l ∈ ls, l < at'
  low : ∀ i r, left[i]? = some r → total ≤ i → ∀ q, q < at' → co r q = 0
  sp : SpEq left rows
  ind : Indep rows → Indep left
theorem RI.start {w : Nat} {rows : List (List Int)} (h : ∀ r ∈ rows, r.length = w) : RI w rows rows 0 0 :=
  ⟨rfl, h, ⟨[], True.intro, fun _ h => by cases h⟩, fun _ _ _ _ q hq => absurd hq (Nat.not_lt_zero _), .refl _, id⟩
/-- no row has a number there -/
theorem RI.skip {w : Nat} {rows left : List (List Int)} {total at' : Nat} (h : RI w rows left total at') (hz : ∀ i r, left[i]? = some r → total ≤ i → co r at' = 0) : RI w rows left total (at' + 1) := by
  obtain ⟨ls, a, b⟩ := h.stair
  refine ⟨h.n, h.len, ⟨ls, a, fun l m => Nat.lt_succ_of_lt (b l m)⟩, fun i r e t q hq => ?_, h.sp, h.ind⟩
  rcases Nat.lt_succ_iff_lt_or_eq.mp hq with z | z
  · exact h.low i r e t q z
  · rw [z]; exact hz i r e t
theorem mem_set_of {S : List (List Int)} {i : Nat} {x r : List Int} (h : r ∈ S.set i x) : r ∈ S ∨ r = x := List.mem_or_eq_of_mem_set h
/-- two rows change places -/
theorem RI.swap {w : Nat} {rows left : List (List Int)} {total at' j : Nat} {r s : List Int} (h : RI w rows left total at') (hi : left[total]? = some r) (hj : left[j]? = some s) (ht : total ≤ j) : RI w rows ((left.set total s).set j r) total at' := by
  by_cases e : total = j
  · subst e
    have : r = s := Option.some.inj (hi.symm.trans hj)
    subst this
    have : (left.set total r).set total r = left := by
      apply List.ext_getElem?
      intro m
      by_cases q : m = total
      · subst q
        have := (List.getElem?_eq_some_iff.mp hi).1
        rw [List.getElem?_set_self (by rw [List.length_set]; exact this), hi]
      · rw [List.getElem?_set_ne (Ne.symm q), List.getElem?_set_ne (Ne.symm q)]
    rw [this]
    exact h
  have hi' := (List.getElem?_eq_some_iff.mp hi).1
  have hj' := (List.getElem?_eq_some_iff.mp hj).1
  have hmem : ∀ x, x ∈ (left.set total s).set j r → x ∈ left := fun x m => by
    rcases mem_set_of m with m | rfl
    · rcases mem_set_of m with m | rfl
      · exact m
      · exact List.mem_of_getElem? hj
    · exact List.mem_of_getElem? hi
  have hget : ∀ m : Nat, m ≠ total → m ≠ j → ((left.set total s).set j r)[m]? = left[m]? := fun m a b => by
    rw [List.getElem?_set_ne (Ne.symm b), List.getElem?_set_ne (Ne.symm a)]
  have g1 : ((left.set total s).set j r)[total]? = some s := by rw [List.getElem?_set_ne (Ne.symm e), List.getElem?_set_self hi']
  have g2 : ((left.set total s).set j r)[j]? = some r := List.getElem?_set_self (by rw [List.length_set]; exact hj')
  refine ⟨?_, fun x m => h.len x (hmem x m), ?_, fun i x ex t q hq => ?_, ?_, fun z => (h.ind z).swap hi hj e⟩
  · rw [List.length_set, List.length_set]; exact h.n
  · rw [List.take_set_of_le (by omega), List.take_set_of_le (by omega)]
    exact h.stair
  · by_cases a : i = total
    · subst a
      rw [g1] at ex
      exact Option.some.inj ex ▸ h.low j s hj ht q hq
    · by_cases b : i = j
      · subst b
        rw [g2] at ex
        exact Option.some.inj ex ▸ h.low total r hi (Nat.le_refl _) q hq
      · exact h.low i x (by rw [← hget i a b]; exact ex) t q hq
  · refine SpEq.trans (.mem fun x => ⟨hmem x, fun m => ?_⟩) h.sp
    obtain ⟨m', hm', em⟩ := List.getElem_of_mem m
    by_cases a : m' = total
    · subst a
      have : r = x := by rw [List.getElem?_eq_getElem hm', em] at hi; exact (Option.some.inj hi).symm
      subst this
      exact List.mem_of_getElem? g2
    · by_cases b : m' = j
      · subst b
        have : s = x := by rw [List.getElem?_eq_getElem hm', em] at hj; exact (Option.some.inj hj).symm
        subst this
        exact List.mem_of_getElem? g1
      · exact List.mem_of_getElem? (i := m') (by rw [hget m' a b, List.getElem?_eq_getElem hm', em])
/-- one row is put right; k rows are done -/
theorem RI.elim {w : Nat} {rows left : List (List Int)} {total at' k : Nat} {first other x : List Int} (h : RI w rows left total at') (hf : left[total]? = some first) (h0 : co first at' ≠ 0) (hk : left[k]? = some other) (ht : total < k) (hx : x = thinL (crossL w first other at')) :
    RI w rows (left.set k x) total at' ∧ co x at' = 0 := by
  have l1 := h.len first (List.mem_of_getElem? hf)
  have l2 := h.len other (List.mem_of_getElem? hk)
  obtain ⟨c, hc, e⟩ := thinL_mul (crossL w first other at')
  rw [← hx] at e
  have e2 : ∀ p, c * co x p = co first at' * co other p - co other at' * co first p := fun p => by rw [← e p, crossL_co l1 l2]
  have zero : ∀ q, co first at' * co other q - co other at' * co first q = 0 → co x q = 0 := fun q hq => mul_zero_or ((e2 q).trans hq) hc
  have hk' := (List.getElem?_eq_some_iff.mp hk).1
  have hxw : x.length = w := by rw [hx, thinL_len, crossL_len]
  have hgx : (left.set k x)[k]? = some x := List.getElem?_set_self hk'
  have hgf : (left.set k x)[total]? = some first := by rw [List.getElem?_set_ne (by omega)]; exact hf
  refine ⟨⟨by rw [List.length_set]; exact h.n, fun r m => ?_, ?_, fun i r er t q hq => ?_, ?_, fun z => (h.ind z).step hk hf (by omega) hc h0 e2⟩, zero at' (by grind)⟩
  · rcases mem_set_of m with m | rfl
    · exact h.len r m
    · exact hxw
  · rw [List.take_set_of_le (by omega)]
    exact h.stair
  · by_cases a : i = k
    · subst a
      rw [hgx] at er
      have := Option.some.inj er
      subst this
      exact zero q (by rw [h.low i other hk t q hq, h.low total first hf (Nat.le_refl _) q hq]; simp)
    · rw [List.getElem?_set_ne (Ne.symm a)] at er
      exact h.low i r er t q hq
  · refine SpEq.trans (.of (fun r m => ?_) fun r m => ?_) h.sp
    · rcases mem_set_of m with m | rfl
      · exact .mem m
      · exact Sp.rel hc (.mem (List.mem_of_getElem? hk)) (.mem (List.mem_of_getElem? hf)) e2
    · obtain ⟨m', hm', em⟩ := List.getElem_of_mem m
      by_cases a : m' = k
      · subst a
        have : other = r := by rw [List.getElem?_eq_getElem hm', em] at hk; exact (Option.some.inj hk).symm
        subst this
        exact .div h0 (Sp.eq (.add (.smul c (.mem (List.mem_of_getElem? hgx))) (.smul (co other at') (.mem (List.mem_of_getElem? hgf)))) fun p => by have := e2 p; grind)
      · exact .mem (List.mem_of_getElem? (i := m') (by rw [List.getElem?_set_ne (Ne.symm a), List.getElem?_eq_getElem hm', em]))
/-- all rows below are put right -/
theorem RI.next {w : Nat} {rows left : List (List Int)} {total at' : Nat} {first : List Int} (h : RI w rows left total at') (hf : left[total]? = some first) (h0 : co first at' ≠ 0) (hz : ∀ i r, left[i]? = some r → total < i → co r at' = 0) : RI w rows left (total + 1) (at' + 1) := by
  obtain ⟨ls, a, b⟩ := h.stair
  refine ⟨h.n, h.len, ⟨ls ++ [at'], ?_, fun l m => ?_⟩, fun i r e t q hq => ?_, h.sp, h.ind⟩
  · rw [List.take_add_one, hf]
    exact a.app ⟨h0, fun q hq => h.low total first hf (Nat.le_refl _) q hq⟩ b
  · rcases List.mem_append.mp m with m | m
    · exact Nat.lt_succ_of_lt (b l m)
    · rw [List.mem_singleton.mp m]; omega
  · rcases Nat.lt_succ_iff_lt_or_eq.mp hq with z | z
    · exact h.low i r e (by omega) q z
    · rw [z]; exact hz i r e (by omega)
/-- what a rank tells -/
def IsRank (rows : List (List Int)) (n : Nat) : Prop := (∃ ls S, Stair ls S ∧ SpEq S rows ∧ S.length = n) ∧ (Indep rows → n = rows.length)
theorem RI.done {w : Nat} {rows left : List (List Int)} {total at' : Nat} (h : RI w rows left total at') (ht : total ≤ left.length) (hd : w ≤ at' ∨ left.length ≤ total) : IsRank rows total := by
  obtain ⟨ls, a, b⟩ := h.stair
  have zero : ∀ i r, left[i]? = some r → total ≤ i → ∀ p, co r p = 0 := fun i r e t p => by
    rcases hd with hd | hd
    · by_cases q : p < at'
      · exact h.low i r e t p q
      · exact co_ge (by rw [h.len r (List.mem_of_getElem? e)]; omega)
    · have := (List.getElem?_eq_some_iff.mp e).1
      omega
  refine ⟨⟨ls, left.take total, a, SpEq.trans (.of (fun r m => .mem (List.mem_of_mem_take m)) fun r m => ?_) h.sp, by rw [List.length_take]; omega⟩, fun ind => ?_⟩
  · obtain ⟨i, hi, e⟩ := List.getElem_of_mem m
    have e : left[i]? = some r := by rw [List.getElem?_eq_getElem hi, e]
    by_cases q : i < total
    · exact .mem (List.mem_of_getElem? (i := i) (by rw [List.getElem?_take_of_lt q]; exact e))
    · exact Sp.eq .zero fun p => (zero i r e (by omega) p).symm
  · rcases Nat.lt_or_ge total left.length with q | q
    · exact ((h.ind ind).no_zero (List.getElem?_eq_getElem q) (zero total _ (List.getElem?_eq_getElem q) (Nat.le_refl _))).elim
    · rw [← h.n]; omega
theorem IsRank.tab {w n : Nat} {rows : List (List Int)} (h : IsRank rows n) {T : List (Nat × List Int)} (hT : Tab w T) (e : SpEq (rowsOf T) rows) : n = T.length := by
  obtain ⟨ls, S, a, b, c⟩ := h.1
  rw [← c]
  exact stair_tab hT a (b.trans e.symm)
end LA
namespace EnT
open PySem PySem.Spec PyProof.Rows L2
open Sem (wp)
/-! enumerate of a tuple; math.lcm: rules of our own over what the library draws -/
theorem made1 {v : Value} {o : Obj} {G : Heap → Prop} (B : Begins v o G) :
    Meets (Builtin.«enumerate.__new__» ⟨[.type "enumerate", v], []⟩) (fun _ R s => G s.heap ∧
      R (.ok (.ret (.ref (s.heap.push o).objs.size)))
        { s with heap := (s.heap.push o).push { cls := .type "enumerate", data := .fields #[.none, .bool false, .ref s.heap.objs.size, rawInt 0, .none, .none] } }) := by
  refine .of_wp fun prog w A R s both => ?_
  obtain ⟨begun, rest⟩ := both
  obtain ⟨hp, gl, dp, tk, os⟩ := s
  have sub := sub_enumerate
  have it1 : ∀ {A' : Around} {E' : Value → Shared → Prop} {Q' : Value → Shared → Prop}, Q' (.ref hp.objs.size) ⟨hp.push o, gl, dp, tk, os⟩ → wpAny (model prog w) A' (pyIter v) Q' E' ⟨hp, gl, dp, tk, os⟩ := fun z => B.iter prog w _ _ _ _ begun z
  wp_walk using it1
  refine wpAny_stack_any fun _ => wpAny_pure ?_
  split
  · rename_i c _ _ _ _ _
    cases (c == Value.type "enumerate")
    all_goals
      wp_walk using it1
      exact ⟨_, rfl, rest⟩
  · wp_walk using it1
    exact ⟨_, rfl, rest⟩
theorem called1 {prog : Program} {w : World} {A : Around} {E : Value → Shared → Prop} {s : Shared} {v : Value} {o : Obj} {G : Heap → Prop} {Q : Value → Shared → Prop} (B : Begins v o G) (begun : G s.heap)
    (then_ : ∀ h2, IsEnum h2 (s.heap.objs.size + 1) s.heap.objs.size 0 .none → h2.get? s.heap.objs.size = some o → h2.objs.size = s.heap.objs.size + 2 →
      (∀ b u, s.heap.get? b = some u → h2.get? b = some u) → Q (.ref (s.heap.objs.size + 1)) { s with heap := h2 }) : wpAny (model prog w) A (call (.type "enumerate") [v]) Q E s := by
  have size1 : (s.heap.push o).objs.size = s.heap.objs.size + 1 := Heap.size_push ..
  refine callType_new F.called_enumerate (by decide) (F.typeCall_enumerate_1 _) (F.newCall_enumerate_1 _) (fun ob => F.args_object_init_2 ob _) F.entry_enumerate_new (made1 B) ⟨begun, ?_⟩
  have last := Heap.get?_push_size (s.heap.push o) (o := { cls := .type "enumerate", data := .fields #[.none, .bool false, .ref s.heap.objs.size, rawInt 0, .none, .none] }) rfl
  rw [size1] at last
  show _ ∧ _
  rw [size1]
  exact ⟨⟨_, last, rfl⟩, then_ _ last (Heap.get?_push_of_some _ (Heap.get?_push_size _ B.free)) (by rw [Heap.size_push, size1]) fun b u z => Heap.get?_push_of_some _ (Heap.get?_push_of_some _ z)⟩
/-- the tuple at a, its items with their numbers in new pairs -/
def IteT (K : PySem.W.Frag) (a : Addr) : It where
  go i H := ∃ (xs : List V) (x : V), SqT K H a xs ∧ xs[i]? = some x
  yld i H v H' := ∃ T x, v = .ref T ∧ H T = none ∧ H' = upd H T (.tup [.int (i : Nat), x]) ∧ ∀ xs, SqT K H a xs → xs[i]? = some x
  stop i H := ∃ xs : List V, SqT K H a xs ∧ xs.length = i
theorem turnT {P : Program} {w : World} {K : PySem.W.Frag} {elts : List Expr} {kk : Nat} {tpos : Pos} (a e it : Addr) :
    Turn P w K (.Tuple elts kk tpos) (IteT K a) [e, it] e (fun i h => (∃ old, IsEnum h e it ((i : Nat) : Int) old) ∧ h.IsTupleIter it a i ∧ e ≠ it) := by
  have two : ∀ {b : Addr}, b ∈ [e, it] → b = e ∨ b = it := fun {b} m => by simpa using m
  refine ⟨by simp, fun i h st b hb => ?_, fun i h h2 st k => ?_, ?_, ?_, fun A i s Q E st h => ?_⟩
  · obtain ⟨⟨old, he⟩, ⟨o, ho, _, hd⟩, _⟩ := st
    rcases two hb with rfl | rfl
    · exact ⟨_, he, fun v z => by cases z⟩
    · exact ⟨o, ho, fun v z => by rw [hd] at z; cases z⟩
  · obtain ⟨⟨old, he⟩, hi, ne⟩ := st
    exact ⟨⟨old, k e (by simp) _ he⟩, hi.at fun o z => k it (by simp) o z, ne⟩
  · intro X eP ew eK calm i pins s σ H E I fresh st going
    subst eP ew eK
    obtain ⟨⟨old, he⟩, hit, ne⟩ := st
    obtain ⟨xs, x, sq, hx⟩ := going
    obtain ⟨its, rv, tup, _⟩ := I.tuple sq
    obtain ⟨u, hu, ru⟩ := rv.get hx
    obtain ⟨ot, hot, otc, otd⟩ := id tup
    obtain ⟨oi, hoi, hic, hid⟩ := id hit
    have e_lt : e < s.heap.objs.size := Heap.lt_size he
    have i_lt : it < s.heap.objs.size := Heap.lt_size hoi
    have a_it : a ≠ it := fun z => by
      rw [z, hoi] at hot
      cases hot
      rw [otc] at hic
      simp at hic
    have a_e : e ≠ a := fun z => by
      rw [← z, he] at hot
      cases hot
      simp at otc
    have hilen : i < its.toArray.size := by
      have := (List.getElem?_eq_some_iff.mp hu).1
      simpa using this
    refine wpAny_pyNext_enum_itemD (Draws.tuple (A := X.A.in1) (I.ok.hd calm) it a a_it its.toArray) he ⟨hit, tup⟩ hilen ne (by simp [ne, a_e]) fun u2 h2 tk hu2 hout hst hT hsz kept => ?_
    have eu : u2 = u := by
      have h3 : its.toArray[i]? = some u := by simpa using hu
      exact Option.some.inj (hu2.symm.trans h3)
    subst eu
    refine ⟨_, rfl, wpAny_letOwnedTupleGo_enum (s := { s with heap := h2, toks := tk + 1 }) hout fun h3 he3 sb => ?_⟩
    have hT3 : h3.get? s.heap.objs.size = some { cls := .type "tuple", data := .seq #[.int i tk, u2] } := (sb.2 _ (Nat.ne_of_gt e_lt)).trans hT
    have laid : ObjOk X.prog X.w (upd H s.heap.objs.size (.tup [.int (i : Nat), x])) h3 s.heap.objs.size (.tup [.int (i : Nat), x]) :=
      ⟨by show 2 ≤ sizeLine; decide, [.int i tk, u2], .cons ⟨_, rfl⟩ (.cons ru .nil), ⟨_, hT3, rfl, _, rfl⟩⟩
    refine ⟨.ref s.heap.objs.size, _, I.turnedNew (t' := tk + 1) (ch := [e, it]) (fun b ob off z => ?_) fresh (Nat.le_refl _) laid, rfl, ⟨_, x, rfl, I.hok.fresh (Nat.le_refl _), rfl, fun ys hy => ?_⟩, ⟨⟨u2, ?_⟩, ?_, ne⟩, fun b hb => ?_⟩
    · have b_e : b ≠ e := fun z => off (by simp [z])
      have b_it : b ≠ it := fun z => off (by simp [z])
      exact (sb.2 b b_e).trans (kept b ob b_e b_it z)
    · rw [I.tuple_inj hy sq]
      exact hx
    · have num : ((i + 1 : Nat) : Int) = (i : Int) + 1 := by omega
      rw [num]
      exact he3
    · exact hst.1.at fun o z => (sb.2 it (Ne.symm ne)).trans z
    · have b_lt : b < s.heap.objs.size := by rcases two hb with rfl | rfl <;> assumption
      rw [upd_ne (Nat.ne_of_lt b_lt)]
      exact (fresh b hb).1
  · intro X eP ew eK calm i pins s σ H E I fresh st stop
    subst eP ew eK
    obtain ⟨⟨old, he⟩, hit, ne⟩ := st
    obtain ⟨xs, sq, hx⟩ := stop
    obtain ⟨its, rv, tup, _⟩ := I.tuple sq
    obtain ⟨ot, hot, otc, otd⟩ := id tup
    obtain ⟨oi, hoi, hic, hid⟩ := id hit
    have a_it : a ≠ it := fun z => by
      rw [z, hoi] at hot
      cases hot
      rw [otc] at hic
      simp at hic
    have e_a : e ≠ a := fun z => by
      rw [← z, he] at hot
      cases hot
      simp at otc
    have len : i = its.toArray.size := by
      rw [← hx, List.size_toArray]
      exact rv.length
    obtain ⟨f0, f1, f2, f3, f4, f5⟩ := fresh it (by simp)
    refine wpAny_pyNext_enum_endD (Draws.tuple (A := X.A.in1) (I.ok.hd calm) it a a_it its.toArray) he ⟨len ▸ hit, tup⟩ fun h2 kept => ?_
    exact ⟨rfl, I.turned (t' := s.toks) (fun b o off z => kept b o off z) f0 f1 f3 f4 f5⟩
  · obtain ⟨⟨_, he⟩, _⟩ := st
    exact wpAny_pyIter_enum he h
def iEnumT (K : PySem.W.Frag) (ta : TA) : TI := fun σ H R => ta σ H fun vs H1 => ∃ a xs, vs = [.ref a] ∧ SqT K H1 a xs ∧ R (IteT K a) H1
theorem pi_enumT {X : Cx} {e : Expr} {ta : TA} {p pos tpos : Pos} {elts : List Expr} {kk : Nat} (hg : Gl X "enumerate") (hm : X.mg "enumerate" = none) (ha : PA X [e] ta) (plain : starEach [e] X.env = [(false, eval e X.env)] := by rfl) :
    PI X (.Tuple elts kk tpos) (.Call (.Name "enumerate" p) [e] [] pos) (iEnumT X.K ta) := by
  refine ⟨fun pins s σ H R I want => ?_⟩
  have args := ha.run pos pins s σ H _ I want
  refine Call_ (ld_blt I hg hm boot_enumerate (callWith_type1 (thn args fun us s2 given => ?_) plain rfl))
  obtain ⟨vs, H2, I2, rel, a, xs, rfl, sq, q⟩ := given
  cases rel with
  | cons r rr =>
    cases rr
    cases r
    obtain ⟨its, rv, tup, _⟩ := I2.tuple sq
    refine called1 (begins_tuple a its.toArray) tup fun h3 he hit size kept => wpAny_pyIter_enum he ?_
    have both : ∀ b ∈ [s2.heap.objs.size + 1, s2.heap.objs.size], s2.heap.objs.size ≤ b := fun b m => by
      have : b = s2.heap.objs.size + 1 ∨ b = s2.heap.objs.size := by simpa using m
      rcases this with rfl | rfl
      · exact Nat.le_succ _
      · exact Nat.le_refl _
    exact ⟨s2.heap.objs.size + 1, [s2.heap.objs.size + 1, s2.heap.objs.size], _, _, H2, rfl, I2.kept (t' := s2.toks) kept, turnT a (s2.heap.objs.size + 1) s2.heap.objs.size,
      ⟨⟨.none, he⟩, ⟨_, hit, rfl, rfl⟩, Nat.succ_ne_self _⟩, fun b m => I2.fpOk (both b m) (I2.hok.fresh (both b m)), q⟩
def rLcm : List V → Hp → VK → Prop := fun vs H Q => ∃ a b : Int, vs = [.int a, .int b] ∧ a.natAbs < 2 ^ 9000 ∧ b.natAbs < 2 ^ 9000 ∧ Q (.int ((Nat.lcm a.natAbs b.natAbs : Nat) : Int)) H
theorem cr_lcm {X : Cx} : CallR X (.builtin "math.lcm") rLcm := by
  intro pins s σ H vs us Q I r h
  obtain ⟨a, b, rfl, ha, hb, q⟩ := h
  obtain ⟨t, u, rfl⟩ := Vals.int2 r
  have room : ∀ {n : Nat}, n < 2 ^ 9000 → ¬ n.log2 / 30 + 1 > 450 := fun {n} hn => by
    have : n.log2 < 9000 := by
      by_cases z : n = 0
      · subst z; decide
      · exact (Nat.log2_lt z).mpr hn
    omega
  have one : (1 : Nat) < 2 ^ 9000 := Nat.one_lt_two_pow (by decide)
  have small : (((Nat.lcm 1 a.natAbs).lcm b.natAbs : Nat) : Int).natAbs.log2 < bitsLine := by
    rw [Nat.lcm_one_left]
    show (a.natAbs.lcm b.natAbs).log2 < bitsLine
    have le : a.natAbs.lcm b.natAbs ≤ 2 ^ 9000 * 2 ^ 9000 := Nat.le_trans (Nat.div_le_self _ _) (Nat.mul_le_mul (Nat.le_of_lt ha) (Nat.le_of_lt hb))
    rw [← Nat.pow_add] at le
    have : (a.natAbs.lcm b.natAbs).log2 < 18001 := by
      by_cases z : a.natAbs.lcm b.natAbs = 0
      · rw [z]; decide
      · exact (Nat.log2_lt z).mpr (Nat.lt_of_le_of_lt le (Nat.pow_lt_pow_right (by decide) (by decide)))
    exact Nat.lt_trans this (by decide)
  have g := PySem.W.mg_run_lcm a t b u (room (by show max 1 a.natAbs < 2 ^ 9000; omega)) (room (by show max a.natAbs b.natAbs < 2 ^ 9000; omega)) small
  rw [Nat.lcm_one_left] at g
  exact call_function_meets PySem.W.MGF.kind_lcm PySem.W.MGF.plain_lcm PySem.W.MGF.entry_lcm (PySem.W.MGF.args_lcm _ _) g.meets ⟨.int _, H, I.tok _, ⟨_, rfl⟩, q⟩
/-- // by any divisor but 0 below 2 ^ 9000 -/
def CDivB (_ j : Int) : Prop := j ≠ 0 ∧ j.natAbs < 2 ^ 9000
theorem op_fdivB {X : Cx} : OpR X (binaryOp .FloorDiv) (rI CDivB fun i j => .int (i.fdiv j)) := opI fun i j _ _ _ _ _ hc q =>
  floordiv_int hc.1 q (.inl (PyProof.noPylong_of_log2 ((Nat.log2_lt (by have := hc.1; omega)).mpr hc.2)))
/-- one walk or another one -/
theorem pi_or {X : Cx} {tg it : Expr} {v w : TI} (a : PI X tg it v) (b : PI X tg it w) : PI X tg it fun σ H R => v σ H R ∨ w σ H R :=
  ⟨fun pins s σ H R I h => h.elim (a.run pins s σ H R I) (b.run pins s σ H R I)⟩
/-- name = {k: v for ..} on one line, the name a local -/
theorem sw_dict {kx vx : Expr} {gs : List Comprehension} {scope : Scope} {pos py : Pos} {y : Str} {line : Nat} {env : Env} (hk : env.scope.kind = .function) (hy : env.scope.names.lookup y = some .local) (hl : (py.line == pos.line) = true)
    (off : (scope.names.any fun z => z.1 == y && (z.2 == .local || z.2 == .cell)) = false) : swapsWith (.DictComp kx vx gs scope pos) (some (.Name y py)) line env = pure true := by
  have kind : env.kindOf y = some .local := hy
  have block : env.blockKind = .function := by
    unfold Env.blockKind
    rw [hk]
    rfl
  unfold swapsWith
  simp only [block, kind, off, Expr.pos, hl]
  rfl
theorem ps_setDc {X : Cx} {i : Nat} {y : Str} {py : Pos} {kx vx tg iter : Expr} {ifs : List Expr} {scope : Scope} {own : List (Str × Nat)} {pos spos : Pos} {wi : TI} {g : TG} {tt : TT} {tk tv : TE}
    (calm : X.calm = true) (nodup : X.N.Nodup) (hy : X.N[i]? = some y) (loc : X.env.scope.names.lookup y = some .local)
    (swaps : swapsWith (.DictComp kx vx [⟨tg, iter, ifs, 0⟩] scope pos) (some (.Name y py)) spos.line X.env = pure true) (walk : PI X tg iter wi) (blk : BlkOk X.N X.env.scope scope own)
    (pgs : ∀ (s2 : Shared) (H2 : Hp) (C2 : Addr) (cl : List (Str × Addr)) (fp : List Addr), PG (X.blk s2 H2 scope (compEnvC scope cl C2 X.env) fp) tg g)
    (pts : ∀ (s2 : Shared) (H2 : Hp) (C2 : Addr) (cl : List (Str × Addr)) (fp : List Addr), PTs (X.blk s2 H2 scope (compEnvC scope cl C2 X.env) fp) ifs tt)
    (pks : ∀ (s2 : Shared) (H2 : Hp) (C2 : Addr) (cl : List (Str × Addr)) (fp : List Addr), PE (X.blk s2 H2 scope (compEnvC scope cl C2 X.env) fp) kx tk)
    (pvs : ∀ (s2 : Shared) (H2 : Hp) (C2 : Addr) (cl : List (Str × Addr)) (fp : List Addr), PE (X.blk s2 H2 scope (compEnvC scope cl C2 X.env) fp) vx tv)
    (fold : ∀ z, foldedSetIterable iter X.env z = pure z := by intro _; rfl) : PS X (.Assign [.Name y py] (.DictComp kx vx [⟨tg, iter, ifs, 0⟩] scope pos) spos) (tAsg (tDc wi g tt tk tv (own.map (·.2))) (gName i)) := by
  constructor
  intro pins s σ H Dn I want
  rw [exec_Assign_Name_used _ _ _ _ swaps]
  refine wpAny_bind (wpAny_standAt ?_)
  refine wpAny_bind ?_
  show wpAny _ X.A (do
    let _ ← comprehension (.DictComp kx vx [⟨tg, iter, ifs, 0⟩] scope pos) scope X.env (firstIterPos [⟨tg, iter, ifs, 0⟩] pos) newDict false (eval iter X.env) (some (assign (.Name y py) X.env))) _ _ s
  have want2 : tDc wi g tt tk tv (own.map (·.2)) σ H (fun x H2 => gName i x σ H2 Dn.nx) := want
  have core := dc_core (pos := pos) (Qf := fun _ s2 => SP X pins Dn .next s2) (use := some (assign (.Name y py) X.env)) (pos' := firstIterPos [⟨tg, iter, ifs, 0⟩] pos) calm nodup I walk blk pgs pts pks pvs fold want2 ?_
  · exact wpAny_bind (thn core fun _ s2 got => wpAny_pure (wpAny_pure got))
  · intro L C s2 m H2 I2 q ns off
    obtain ⟨f0, f1, f2, f3, f4, f5⟩ := off
    show wpAny _ _ (assign (.Name y py) X.env (.ref L)) _ _ _
    refine wpAny_assign_Name (store_ok2 (v := V.ref L) I2 nodup hy (.inl loc) rfl ?_ (.inr loc))
    rintro s3 I3 ⟨b, sb, hb⟩
    have apart : C ≠ b := hb.elim (fun z => z ▸ f1) fun z e => f4 y b z e.symm
    exact ⟨m, ns.sameBut sb apart, fun h4 sb4 => ⟨_, H2, I3.turned (t' := s3.toks) (fun c o hc e => (sb4.2 c hc).trans e) f0 f1 f3 f4 f5, q⟩⟩
end EnT
namespace K42
open PySem PySem.Spec PyProof.Rows L2 LA
/-! ### words for all -/
theorem same_upd {H : Hp} {p : Addr} {o : HO} (h : H p = none) : Same H (upd H p o) := fun b x e => by
  rw [upd_ne (ne_of_none e h)]
  exact e
/-- a new object of ours changes: what stood before stands -/
theorem same_mut {H H' : Hp} {p : Addr} {o : HO} (s : Same H H') (h : H p = none) : Same H (upd H' p o) := fun b x e => by
  rw [upd_ne (ne_of_none e h)]
  exact s _ _ e
theorem bigLine {n : Nat} (h : n ≤ 1000000) : n < sizeLine := Nat.lt_of_le_of_lt h (by decide)
theorem bigLe {n : Nat} (h : n ≤ 1000000) : n ≤ sizeLine := Nat.le_of_lt (bigLine h)
theorem st_ite {c : TT} {t1 t2 : TS} {σ : L2.St} {H : Hp} {D : Ends} {b : Bool} (h : Ans c σ H b) (h1 : b = true → t1 D σ H) (h2 : b = false → t2 D σ H) : tIfS c t1 t2 D σ H := by
  cases b with
  | true => exact st_yes h (h1 rfl)
  | false => exact st_no h (h2 rfl)
abbrev rListOf (K : PySem.W.Frag) : List V → Hp → VK → Prop := fun zs H Q => ∃ p ys, zs = [.ref p] ∧ (SqL K H p ys ∨ SqT K H p ys) ∧ ∀ l, H l = none → Q (.ref l) (upd H l (.lst ys))
abbrev rTupOf (K : PySem.W.Frag) : List V → Hp → VK → Prop := fun zs H Q => ∃ p ys, zs = [.ref p] ∧ ((SqL K H p ys ∧ ∀ l, H l = none → Q (.ref l) (upd H l (.tup ys))) ∨ (SqT K H p ys ∧ Q (.ref p) H))
theorem get_map {α β : Type} {f : α → β} {l : List α} {i : Nat} {y : β} (h : (l.map f)[i]? = some y) : ∃ x, l[i]? = some x ∧ f x = y := by
  rw [List.getElem?_map] at h
  exact Option.map_eq_some_iff.mp h
theorem atI_co {r : List Int} {l : Nat} (h : l < r.length) : atI (r.map V.int) (l : Int) = some (.int (co r l)) := by
  refine atI_nat (j := l) ?_
  rw [List.getElem?_map, get_co h]
  rfl
theorem dint {i j : Int} : decide (V.int i = V.int j) = decide (i = j) := by
  by_cases h : i = j
  · rw [decide_eq_true h, decide_eq_true (congrArg V.int h)]
  · rw [decide_eq_false h, decide_eq_false fun z => h (V.int.inj z)]
/-- rows as tuples -/
def RowsAt (H : Hp) : List Addr → List (List Int) → Prop
  | [], [] => True
  | a :: as, r :: rs => H a = some (.tup (r.map V.int)) ∧ RowsAt H as rs
  | _, _ => False
theorem RowsAt.same {H H' : Hp} (s : Same H H') : ∀ {as : List Addr} {rs : List (List Int)}, RowsAt H as rs → RowsAt H' as rs
  | [], [], _ => trivial
  | _ :: _, _ :: _, h => ⟨s _ _ h.1, RowsAt.same s h.2⟩
  | [], _ :: _, h => h.elim
  | _ :: _, [], h => h.elim
theorem RowsAt.app {H : Hp} {a : Addr} {r : List Int} (ha : H a = some (.tup (r.map V.int))) : ∀ {as : List Addr} {rs : List (List Int)}, RowsAt H as rs → RowsAt H (as ++ [a]) (rs ++ [r])
  | [], [], _ => ⟨ha, trivial⟩
  | _ :: _, _ :: _, h => ⟨h.1, RowsAt.app ha h.2⟩
  | [], _ :: _, h => h.elim
  | _ :: _, [], h => h.elim
theorem RowsAt.len {H : Hp} : ∀ {as : List Addr} {rs : List (List Int)}, RowsAt H as rs → as.length = rs.length
  | [], [], _ => rfl
  | _ :: _, _ :: _, h => congrArg (· + 1) (RowsAt.len h.2)
  | [], _ :: _, h => h.elim
  | _ :: _, [], h => h.elim
theorem RowsAt.get {H : Hp} : ∀ {as : List Addr} {rs : List (List Int)} {i : Nat} {a : Addr}, RowsAt H as rs → as[i]? = some a → ∃ r, rs[i]? = some r ∧ H a = some (.tup (r.map V.int))
  | _ :: _, r :: _, 0, a, h, e => ⟨r, rfl, by rw [← Option.some.inj (show some _ = some a from e)]; exact h.1⟩
  | _ :: _, _ :: _, i + 1, _, h, e => RowsAt.get (i := i) h.2 e
  | [], [], _, _, _, e => by cases e
  | [], _ :: _, _, _, h, _ => h.elim
  | _ :: _, [], _, _, h, _ => h.elim
theorem RowsAt.off {H : Hp} {p : Addr} {u o : HO} (hp : H p = some u) (hu : ∀ xs, u ≠ .tup xs) : ∀ {as : List Addr} {rs : List (List Int)}, RowsAt H as rs → RowsAt (upd H p o) as rs
  | [], [], _ => trivial
  | _ :: _, _ :: _, h => ⟨by rw [upd_ne (ne_of h.1 hp (fun z => hu _ z.symm))]; exact h.1, RowsAt.off hp hu h.2⟩
  | [], _ :: _, h => h.elim
  | _ :: _, [], h => h.elim
/-- the dict of a table -/
def kvsOf : List (Nat × List Int) → List Addr → List (Key × V)
  | x :: T, a :: as => (Sum.inl (x.1 : Int), .ref a) :: kvsOf T as
  | _, _ => []
def TabAt (H : Hp) (d : Addr) (T : List (Nat × List Int)) : Prop := ∃ as, RowsAt H as (rowsOf T) ∧ H d = some (.dK (kvsOf T as))
theorem TabAt.same {H H' : Hp} (s : Same H H') {d : Addr} {T : List (Nat × List Int)} (h : TabAt H d T) : TabAt H' d T := by
  obtain ⟨as, a, b⟩ := h
  exact ⟨as, a.same s, s _ _ b⟩
theorem kvs_len : ∀ {T : List (Nat × List Int)} {as : List Addr}, as.length = T.length → (kvsOf T as).length = T.length
  | [], [], _ => rfl
  | _ :: _, _ :: _, h => congrArg (· + 1) (kvs_len (Nat.succ.inj h))
  | [], _ :: _, h => by cases h
  | _ :: _, [], h => by cases h
theorem kvs_get : ∀ {T : List (Nat × List Int)} {as : List Addr} {i : Nat}, as.length = T.length → i < T.length → ∃ l r a, T[i]? = some (l, r) ∧ as[i]? = some a ∧ (kvsOf T as)[i]? = some (Sum.inl (l : Int), .ref a)
  | (l, r) :: _, a :: _, 0, _, _ => ⟨l, r, a, rfl, rfl, rfl⟩
  | _ :: T, _ :: as, i + 1, h, hi => kvs_get (T := T) (as := as) (i := i) (Nat.succ.inj h) (Nat.lt_of_succ_lt_succ hi)
  | [], _, _, _, hi => absurd hi (Nat.not_lt_zero _)
  | _ :: _, [], _, h, _ => by cases h
theorem kvs_app : ∀ {T : List (Nat × List Int)} {as : List Addr} (l : Nat) (r : List Int) (a : Addr), as.length = T.length → kvsOf (T ++ [(l, r)]) (as ++ [a]) = kvsOf T as ++ [(Sum.inl (l : Int), .ref a)]
  | [], [], _, _, _, _ => rfl
  | _ :: _, _ :: _, l, r, a, h => congrArg (_ :: ·) (kvs_app l r a (Nat.succ.inj h))
  | [], _ :: _, _, _, _, h => by cases h
  | _ :: _, [], _, _, _, h => by cases h
theorem kvs_val : ∀ {T : List (Nat × List Int)} {as : List Addr} (p : Nat), as.length = T.length → (valV (kvsOf T as) (Sum.inl (p : Int))).isSome = decide (p ∈ keysOf T)
  | [], [], p, _ => by
    rw [decide_eq_false (show p ∉ keysOf [] from List.not_mem_nil)]
    rfl
  | x :: T, a :: as, p, h => by
    have ih := kvs_val (T := T) (as := as) p (Nat.succ.inj h)
    unfold valV at ih ⊢
    unfold kvsOf
    rw [List.find?_cons]
    by_cases e : x.1 = p
    · have : decide ((Sum.inl (x.1 : Int) : Key) = Sum.inl (p : Int)) = true := decide_eq_true (by rw [e])
      rw [this, decide_eq_true (show p ∈ keysOf (x :: T) from e ▸ List.mem_cons_self ..)]
      rfl
    · have : decide ((Sum.inl (x.1 : Int) : Key) = Sum.inl (p : Int)) = false := decide_eq_false fun z => e (Int.ofNat.inj (Sum.inl.inj z))
      rw [this]
      have e2 : decide (p ∈ keysOf (x :: T)) = decide (p ∈ keysOf T) := by
        by_cases m : p ∈ keysOf T
        · rw [decide_eq_true m, decide_eq_true (show p ∈ keysOf (x :: T) from List.mem_cons_of_mem _ m)]
        · rw [decide_eq_false m, decide_eq_false fun z => by
            rcases List.mem_cons.mp z with z | z
            · exact e z.symm
            · exact m z]
      rw [e2]
      exact ih
  | [], _ :: _, _, h => by cases h
  | _ :: _, [], _, h => by cases h
/-! ### the text -/
def top (i : Nat) : Stmt := PySem.Challenge.pw_allornothing_k42_kernels.main.body.getD i (.Pass ⟨0, 0, 0, 0⟩)
abbrev s_is_integer : Stmt := top 5
abbrev s_are_integers : Stmt := top 6
abbrev s_kernel : Stmt := top 8
abbrev s_product : Stmt := top 9
abbrev s_is_row : Stmt := top 10
abbrev s_lead_of : Stmt := top 11
abbrev s_primitive : Stmt := top 12
abbrev s_cleared : Stmt := top 13
abbrev s_table_of : Stmt := top 14
abbrev s_rest_of : Stmt := top 15
abbrev s_joined : Stmt := top 16
abbrev s_kernel_row : Stmt := top 17
abbrev s__law_pool : Stmt := top 19
abbrev s__law_take : Stmt := top 20
abbrev s__law_thin : Stmt := top 21
abbrev s__law_rank : Stmt := top 22
abbrev s_law : Stmt := top 23
/-- where the text's defs and classes stand -/
structure Ads where
  f_is_integer : Addr
  f_is_integer_d : FuncData
  f_are_integers : Addr
  f_are_integers_d : FuncData
  f_kernel : Addr
  f_kernel_d : FuncData
  f_product : Addr
  f_product_d : FuncData
  f_is_row : Addr
  f_is_row_d : FuncData
  f_lead_of : Addr
  f_lead_of_d : FuncData
  f_primitive : Addr
  f_primitive_d : FuncData
  f_cleared : Addr
  f_cleared_d : FuncData
  f_table_of : Addr
  f_table_of_d : FuncData
  f_rest_of : Addr
  f_rest_of_d : FuncData
  f_joined : Addr
  f_joined_d : FuncData
  f_kernel_row : Addr
  f_kernel_row_d : FuncData
  f__law_pool : Addr
  f__law_pool_d : FuncData
  f__law_take : Addr
  f__law_take_d : FuncData
  f__law_thin : Addr
  f__law_thin_d : FuncData
  f__law_rank : Addr
  f__law_rank_d : FuncData
  f_law : Addr
  f_law_d : FuncData
/-- what the top has left -/
structure Txt (K : PySem.W.Frag) (mg : Str → Option Value) (a : Ads) : Prop where
  F_is_integer : Fun K "is_integer" "is_integer" s_is_integer a.f_is_integer a.f_is_integer_d
  b_is_integer : Binds K a.f_is_integer_d ["value"] []
  g_is_integer : mg "is_integer" = some (.ref a.f_is_integer)
  F_are_integers : Fun K "are_integers" "are_integers" s_are_integers a.f_are_integers a.f_are_integers_d
  b_are_integers : Binds K a.f_are_integers_d ["values"] []
  g_are_integers : mg "are_integers" = some (.ref a.f_are_integers)
  F_kernel : Fun K "kernel" "kernel" s_kernel a.f_kernel a.f_kernel_d
  b_kernel : Binds K a.f_kernel_d ["rows", "width"] []
  g_kernel : mg "kernel" = some (.ref a.f_kernel)
  F_product : Fun K "product" "product" s_product a.f_product a.f_product_d
  b_product : Binds K a.f_product_d ["one", "other"] []
  g_product : mg "product" = some (.ref a.f_product)
  F_is_row : Fun K "is_row" "is_row" s_is_row a.f_is_row a.f_is_row_d
  b_is_row : Binds K a.f_is_row_d ["value", "width"] []
  g_is_row : mg "is_row" = some (.ref a.f_is_row)
  F_lead_of : Fun K "lead_of" "lead_of" s_lead_of a.f_lead_of a.f_lead_of_d
  b_lead_of : Binds K a.f_lead_of_d ["row"] []
  g_lead_of : mg "lead_of" = some (.ref a.f_lead_of)
  F_primitive : Fun K "primitive" "primitive" s_primitive a.f_primitive a.f_primitive_d
  b_primitive : Binds K a.f_primitive_d ["row"] []
  g_primitive : mg "primitive" = some (.ref a.f_primitive)
  F_cleared : Fun K "cleared" "cleared" s_cleared a.f_cleared a.f_cleared_d
  b_cleared : Binds K a.f_cleared_d ["row", "other", "lead"] []
  g_cleared : mg "cleared" = some (.ref a.f_cleared)
  F_table_of : Fun K "table_of" "table_of" s_table_of a.f_table_of a.f_table_of_d
  b_table_of : Binds K a.f_table_of_d ["rows", "width"] []
  g_table_of : mg "table_of" = some (.ref a.f_table_of)
  F_rest_of : Fun K "rest_of" "rest_of" s_rest_of a.f_rest_of a.f_rest_of_d
  b_rest_of : Binds K a.f_rest_of_d ["table", "row"] []
  g_rest_of : mg "rest_of" = some (.ref a.f_rest_of)
  F_joined : Fun K "joined" "joined" s_joined a.f_joined a.f_joined_d
  b_joined : Binds K a.f_joined_d ["table", "row"] []
  g_joined : mg "joined" = some (.ref a.f_joined)
  F_kernel_row : Fun K "kernel_row" "kernel_row" s_kernel_row a.f_kernel_row a.f_kernel_row_d
  b_kernel_row : Binds K a.f_kernel_row_d ["table", "free", "width"] []
  g_kernel_row : mg "kernel_row" = some (.ref a.f_kernel_row)
  F__law_pool : Fun K "_law_pool" "_law_pool" s__law_pool a.f__law_pool a.f__law_pool_d
  b__law_pool : Binds K a.f__law_pool_d ["_law_script", "_law_k"] []
  g__law_pool : mg "_law_pool" = some (.ref a.f__law_pool)
  F__law_take : Fun K "_law_take" "_law_take" s__law_take a.f__law_take a.f__law_take_d
  b__law_take : Binds K a.f__law_take_d ["_law_pool_here", "_law_wide"] []
  g__law_take : mg "_law_take" = some (.ref a.f__law_take)
  F__law_thin : Fun K "_law_thin" "_law_thin" s__law_thin a.f__law_thin a.f__law_thin_d
  b__law_thin : Binds K a.f__law_thin_d ["_law_row"] []
  g__law_thin : mg "_law_thin" = some (.ref a.f__law_thin)
  F__law_rank : Fun K "_law_rank" "_law_rank" s__law_rank a.f__law_rank a.f__law_rank_d
  b__law_rank : Binds K a.f__law_rank_d ["_law_rows"] []
  g__law_rank : mg "_law_rank" = some (.ref a.f__law_rank)
  F_law : Fun K "law" "law" s_law a.f_law a.f_law_d
  g_law : mg "law" = some (.ref a.f_law)
  int : mg "int" = none
  bool : mg "bool" = none
  isinstance : mg "isinstance" = none
  all : mg "all" = none
  len : mg "len" = none
  sum : mg "sum" = none
  tuple : mg "tuple" = none
  list : mg "list" = none
  range : mg "range" = none
  zip : mg "zip" = none
  enumerate : mg "enumerate" = none
  abs : mg "abs" = none
  max : mg "max" = none
  min : mg "min" = none
  g_gcd : mg "gcd" = some (.builtin "math.gcd")
  g_lcm : mg "lcm" = some (.builtin "math.lcm")

def spIsInt : Sp := fun vs H Q _ => ∃ i : Int, vs = [.int i] ∧ Q (.bl true) H
def spInts : Sp := fun vs H Q _ => ∃ (p : Addr) (r : List Int), vs = [.ref p] ∧ H p = some (.tup (r.map V.int)) ∧ r.length ≤ 1000 ∧ ∀ H', Same H H' → Q (.bl true) H'
def spIsRow : Sp := fun vs H Q _ => ∃ (p : Addr) (r : List Int), vs = [.ref p, .int (r.length : Nat)] ∧ H p = some (.tup (r.map V.int)) ∧ r.length ≤ 1000 ∧ ∀ H', Same H H' → Q (.bl true) H'
/-- ints in a row, a list or a tuple -/
def RowAt (H : Hp) (p : Addr) (r : List Int) : Prop := H p = some (.lst (r.map V.int)) ∨ H p = some (.tup (r.map V.int))
theorem RowAt.same {H H' : Hp} {p : Addr} {r : List Int} (s : Same H H') (h : RowAt H p r) : RowAt H' p r := h.elim (fun h => .inl (s _ _ h)) fun h => .inr (s _ _ h)
def spLead : Sp := fun vs H Q _ => ∃ (p : Addr) (r : List Int), vs = [.ref p] ∧ RowAt H p r ∧ r.length ≤ 1000 ∧ ∀ H', Same H H' → Q (.int (leadL r : Nat)) H'
def spPrim : Sp := fun vs H Q _ => ∃ (p : Addr) (r : List Int), vs = [.ref p] ∧ RowAt H p r ∧ r.length ≤ 1000 ∧ Bd 9000 r ∧ ∀ H' q, Same H H' → H' q = some (.tup ((primL r).map V.int)) → Q (.ref q) H'
section
variable {P : Program} {w : World} {K : PySem.W.Frag} {mg : Str → Option Value} {base : Heap} {a : Ads}
theorem sc_is_integer : FnScope ["value"] ["value"] (defScope s_is_integer) := ⟨rfl, rfl, rfl, by decide +kernel, rfl, by decide +kernel, by decide +kernel⟩
theorem ok_is_integer (T : Txt K mg a) : FnOk P w K mg base CX0 1 a.f_is_integer a.f_is_integer_d ["value"] spIsInt := by
  refine T.F_is_integer.ok sc_is_integer (fun vs H Q E h => ?_) (fun cdv A outer s H vs Q E hr h => ?_)
  · obtain ⟨i, rfl, _⟩ := h
    rfl
  obtain ⟨i, rfl, q⟩ := h
  refine ⟨_, (pss_one (ps_ret (pe_and (pe_callB call_isi (by rfl) T.isinstance (by decide +kernel) (pa_cons (pv 0) (pa_cons (pe_bltn (v := .ty "int") (by rfl) T.int (by decide +kernel) rfl) pa_nil))) (pe_one (pe_not (pe_callB call_isi (by rfl) T.isinstance (by decide +kernel) (pa_cons (pv 0) (pa_cons (pe_bltn (v := .ty "bool") (by rfl) T.bool (by decide +kernel) rfl) pa_nil)))))))), ?_⟩
  refine ⟨_, rfl, .int i, .ty "int", .type "int", .type "int", true, rfl, .ty "int", .base (.int i), kit_ty (by decide +kernel), _, rfl, ite2 (fun _ => ?_) (fun e => absurd rfl e)⟩
  exact ⟨_, rfl, .int i, .ty "bool", .type "int", .type "bool", false, rfl, .ty "bool", .base (.int i), kit_ty (by decide +kernel), _, rfl, q⟩
theorem sc_are_integers : FnScope ["values", "value"] ["values"] (defScope s_are_integers) := ⟨rfl, rfl, rfl, by decide +kernel, rfl, by decide +kernel, by decide +kernel⟩
theorem ok_are_integers (T : Txt K mg a) : FnOk P w K mg base CX0 2 a.f_are_integers a.f_are_integers_d ["values"] spInts := by
  refine T.F_are_integers.ok sc_are_integers (fun vs H Q E h => ?_) (fun cdv A outer s H vs Q E hr h => ?_)
  · obtain ⟨p, r, rfl, _⟩ := h
    rfl
  obtain ⟨p, r, rfl, hp, hl, q⟩ := h
  refine ⟨_, (pss_one (ps_ret (pe_callB (cr_all rfl) (by rfl) T.all (by decide +kernel) (pa_cons (pe_lc (own := [("value", 1)]) (g := gName 1) (tt := tYes) (by rfl) sc_are_integers.nd (pi_tup (pv 0)) (blkOk_by (own := [("value", 1)]) (N := ["values", "value"]) (sc := defScope s_are_integers) (by decide +kernel)) (fun _ _ _ _ _ => pg_name (i := 1) sc_are_integers.nd rfl (Or.inl rfl)) (fun _ _ _ _ _ => pts_nil) (fun _ _ _ _ _ => (pe_call (ok_is_integer T) (hr.mono (by decide)) (by rfl) T.g_is_integer T.F_is_integer.kp T.b_is_integer .nil pass0 (pa_cons (pv 1) pa_nil)))) pa_nil)))), ?_⟩
  refine ⟨_, rfl, p, rfl, ⟨_, SqT.of hp⟩, fun D hD => ?_⟩
  refine lc_it (walk_tup (K := K) (a := p) (xs := r.map V.int)) (fun i H' => Same H H' ∧ H' D = some (.lst ((List.replicate i true).map V.bl))) ⟨same_upd hD, upd_same⟩ (fun i H' _ h => SqT.of (h.1 _ _ hp)) ?_ ?_
  · rintro i x H1 H2 hi ⟨s1, hD1⟩ ⟨rfl, hx⟩
    obtain ⟨n, hn, rfl⟩ := get_map hx
    rw [List.length_map] at hi
    refine ⟨rfl, _, rfl, n, rfl, _, hD1, ?_, same_mut s1 hD, ?_⟩
    · rw [List.length_map, List.length_replicate]
      exact bigLine (by omega)
    · rw [upd_same, List.replicate_succ', List.map_append]
      rfl
  · rintro H1 ⟨s1, hD1⟩
    refine ⟨D, _, rfl, SqL.of hD1, ?_⟩
    have e : (List.replicate (r.map V.int).length true).all id = true := by
      rw [List.all_eq_true]
      intro b hb
      rw [List.eq_of_mem_replicate hb]
      rfl
    rw [e]
    exact q H1 s1
theorem sc_is_row : FnScope ["value", "width"] ["value", "width"] (defScope s_is_row) := ⟨rfl, rfl, rfl, by decide +kernel, rfl, by decide +kernel, by decide +kernel⟩
theorem ok_is_row (T : Txt K mg a) : FnOk P w K mg base CX0 3 a.f_is_row a.f_is_row_d ["value", "width"] spIsRow := by
  refine T.F_is_row.ok sc_is_row (fun vs H Q E h => ?_) (fun cdv A outer s H vs Q E hr h => ?_)
  · obtain ⟨p, r, rfl, _⟩ := h
    rfl
  obtain ⟨p, r, rfl, hp, hl, q⟩ := h
  refine ⟨_, (pss_one (ps_ret (pe_and (pe_callB call_isi (by rfl) T.isinstance (by decide +kernel) (pa_cons (pv 0) (pa_cons (pe_bltn (v := .ty "tuple") (by rfl) T.tuple (by decide +kernel) rfl) pa_nil))) (pe_and (pe_cmpR op_eq (pe_callB call_len_seq (by rfl) T.len PySem.boot_len (pa_cons (pv 0) pa_nil)) (pv 1) (nomark _)) (pe_one (pe_call (ok_are_integers T) (hr.mono (by decide)) (by rfl) T.g_are_integers T.F_are_integers.kp T.b_are_integers .nil pass0 (pa_cons (pv 0) pa_nil))))))), ?_⟩
  refine ⟨_, rfl, .ref p, .ty "tuple", .type "tuple", .type "tuple", true, rfl, .ty "tuple", .base (.tup hp), kit_ty (by decide +kernel), _, rfl, ite2 (fun _ => ?_) (fun e => absurd rfl e)⟩
  refine ⟨_, rfl, p, _, rfl, .inr (SqT.of hp), _, rfl, rfl, _, rfl, ite2 (fun _ => ?_) (fun e => absurd (by rw [List.length_map]; exact decide_eq_true rfl) e)⟩
  exact ⟨_, rfl, p, r, rfl, hp, hl, q⟩
end
end K42
namespace K42
open PySem PySem.Spec PyProof.Rows L2 LA
theorem walk_enumT {K : PySem.W.Frag} {a : Addr} {xs : List V} : Walk (EnT.IteT K a) xs.length (fun H => SqT K H a xs) (YPair (fun i => some (.int (i : Nat))) (fun i => xs[i]?)) := by
  refine ⟨fun i _ hi q => ⟨xs, xs[i], q, List.getElem?_eq_getElem hi⟩, fun _ q => ⟨xs, q, rfl⟩, fun i H v H' _ q y => ?_⟩
  obtain ⟨T, x, h1, h2, h3, h4⟩ := y
  exact ⟨T, .int (i : Nat), x, h1, h2, h3, rfl, h4 xs q⟩
theorem walk_zipT {K : PySem.W.Frag} {a b : Addr} {xs ys : List V} (hl : xs.length = ys.length) : Walk (RZ.ItzT K a b) xs.length (fun H => SqT K H a xs ∧ SqT K H b ys) (YPair (fun i => xs[i]?) (fun i => ys[i]?)) := by
  refine ⟨fun i _ hi q => ⟨xs, ys, xs[i], ys[i], q.1, q.2, List.getElem?_eq_getElem hi, List.getElem?_eq_getElem (by omega)⟩, fun _ q => ⟨xs, ys, q.1, q.2, .inl (Nat.le_refl _)⟩, fun i H v H' _ q y => ?_⟩
  obtain ⟨T, x, z, h1, h2, h3, h4, h5⟩ := y
  exact ⟨T, x, z, h1, h2, h3, h4 xs q.1, h5 ys q.2⟩
theorem leadL_all {r : List Int} (h : ∀ p, p < r.length → co r p = 0) : leadL r = r.length := by
  rcases Nat.lt_or_ge (leadL r) r.length with q | q
  · exact absurd (h _ q) (leadL_at r q)
  · exact Nat.le_antisymm (leadL_le r) q
/-- the ints of a list or of a tuple, one after the other -/
theorem row_walk {K : PySem.W.Frag} {i : Nat} {σ : L2.St} {H : Hp} {p : Addr} {xs : List V} {o : HO} {R : It → Hp → Prop} (ho : o = .lst xs ∨ o = .tup xs) (hp : H p = some o) (hi : σ[i]? = some (some (.ref p)))
    (k : ∀ J, Walk J xs.length (fun H' => H' p = some o) (YAt xs) → R J H) : iList K (tVar i) σ H R ∨ iTup K (tVar i) σ H R := by
  rcases ho with rfl | rfl
  · exact .inl ⟨_, hi, p, rfl, ⟨_, SqL.of hp⟩, k _ (walk_list.mono (fun _ h => SqL.of h) fun _ _ _ _ _ _ y => y)⟩
  · exact .inr ⟨_, hi, p, rfl, ⟨_, SqT.of hp⟩, k _ (walk_tup.mono (fun _ h => SqT.of h) fun _ _ _ _ _ _ y => y)⟩
section
variable {P : Program} {w : World} {K : PySem.W.Frag} {mg : Str → Option Value} {base : Heap} {a : Ads}
theorem sc_lead_of : FnScope ["row", "at", "number"] ["row"] (defScope s_lead_of) := ⟨rfl, rfl, rfl, by decide +kernel, rfl, by decide +kernel, by decide +kernel⟩
theorem ok_lead_of (T : Txt K mg a) : FnOk P w K mg base CX0 1 a.f_lead_of a.f_lead_of_d ["row"] spLead := by
  refine T.F_lead_of.ok sc_lead_of (fun vs H Q E h => ?_) (fun cdv A outer s H vs Q E hr h => ?_)
  · obtain ⟨p, r, rfl, _⟩ := h
    rfl
  obtain ⟨p, r, rfl, hp, hl, q⟩ := h
  refine ⟨_, (pss_cons (ps_for PassesOwn.never rfl (EnT.pi_or (pi_enum (by rfl) T.enumerate (pa_cons (pv 0) pa_nil)) (EnT.pi_enumT (by rfl) T.enumerate (pa_cons (pv 0) pa_nil))) (pg_tup (by rfl) (pgs_cons (pg_name (i := 1) sc_lead_of.nd rfl (Or.inl rfl)) (pgs_cons (pg_name (i := 2) sc_lead_of.nd rfl (Or.inl rfl)) pgs_nil)))
      (pss_one (ps_if (pt_cmpR op_ne (pv 2) pe_int (nomark _))
        (pss_one (ps_ret (pv 1)))
        pss_nil)))
    (pss_one (ps_ret (pe_callB call_len_seq (by rfl) T.len PySem.boot_len (pa_cons (pv 0) pa_nil))))), ?_⟩
  have body : ∀ (i : Nat) (x : V) (σ : L2.St) (H1 H2 : Hp), i < (r.map V.int).length → (∃ v1 v2, σ = [some (.ref p), v1, v2] ∧ Same H H1 ∧ ∀ j, j < i → co r j = 0) → YPair (fun i => some (.int (i : Nat))) (fun i => (r.map V.int)[i]?) i H1 x H2 →
      ∃ T n, x = .ref T ∧ H2 T = some (.tup [.int (i : Nat), .int n]) ∧ co r i = n ∧ Same H H2 := fun i x σ H1 H2 hi ⟨_, _, _, s1, _⟩ ⟨T, y1, y2, e1, nT, e2, e3, e4⟩ => by
    obtain ⟨n, hn, rfl⟩ := get_map e4
    cases e3
    subst e1 e2
    exact ⟨T, n, rfl, upd_same, co_get hn, s1.trans (same_upd nT)⟩
  have loop : ∀ (i : Nat) (x : V) (σ : L2.St) (H1 H2 : Hp), i < (r.map V.int).length → (∃ v1 v2, σ = [some (.ref p), v1, v2] ∧ Same H H1 ∧ ∀ j, j < i → co r j = 0) → YPair (fun i => some (.int (i : Nat))) (fun i => (r.map V.int)[i]?) i H1 x H2 → True := fun _ _ _ _ _ _ _ _ => trivial
  rcases hp with hp | hp
  · refine .inl ⟨_, rfl, p, _, rfl, SqL.of hp, for_it (walk_enum (K := K) (a := p) (xs := r.map V.int)) (fun i σ H' => ∃ v1 v2, σ = [some (.ref p), v1, v2] ∧ Same H H' ∧ ∀ j, j < i → co r j = 0) ⟨_, _, rfl, Same.refl H, fun j hj => absurd hj (Nat.not_lt_zero _)⟩ (fun i σ H' _ ⟨_, _, _, s1, _⟩ => SqL.of (s1 _ _ hp)) ?_ ?_⟩
    · intro i x σ H1 H2 hi inv y
      obtain ⟨T, n, rfl, hT, hn, s2⟩ := body i x σ H1 H2 hi inv y
      obtain ⟨v1, v2, rfl, s1, hz⟩ := inv
      refine ⟨T, _, rfl, SqT.of hT, rfl, _, _, rfl, _, _, rfl, rfl, ?_⟩
      refine ⟨_, rfl, rfl, _, rfl, ite2 (fun e => ?_) (fun e => ?_)⟩
      · rw [dint] at e
        have e : n ≠ 0 := by simpa using e
        have : leadL r = i := leadL_of ⟨by rw [hn]; exact e, hz⟩
        refine ⟨_, rfl, ?_⟩
        rw [← this]
        exact q H2 s2
      · rw [dint] at e
        have e : n = 0 := by simpa using e
        refine ⟨_, _, rfl, s2, fun j hj => ?_⟩
        rcases Nat.lt_succ_iff_lt_or_eq.mp hj with z | z
        · exact hz j z
        · rw [z, hn, e]
    · rintro σ H1 ⟨v1, v2, rfl, s1, hz⟩
      rw [List.length_map] at hz
      refine ⟨_, rfl, p, _, rfl, .inl (SqL.of (s1 _ _ hp)), ?_⟩
      rw [List.length_map, ← leadL_all hz]
      exact q H1 s1
  · refine .inr ⟨_, rfl, p, _, rfl, SqT.of hp, for_it (walk_enumT (K := K) (a := p) (xs := r.map V.int)) (fun i σ H' => ∃ v1 v2, σ = [some (.ref p), v1, v2] ∧ Same H H' ∧ ∀ j, j < i → co r j = 0) ⟨_, _, rfl, Same.refl H, fun j hj => absurd hj (Nat.not_lt_zero _)⟩ (fun i σ H' _ ⟨_, _, _, s1, _⟩ => SqT.of (s1 _ _ hp)) ?_ ?_⟩
    · intro i x σ H1 H2 hi inv y
      obtain ⟨T, n, rfl, hT, hn, s2⟩ := body i x σ H1 H2 hi inv y
      obtain ⟨v1, v2, rfl, s1, hz⟩ := inv
      refine ⟨T, _, rfl, SqT.of hT, rfl, _, _, rfl, _, _, rfl, rfl, ?_⟩
      refine ⟨_, rfl, rfl, _, rfl, ite2 (fun e => ?_) (fun e => ?_)⟩
      · rw [dint] at e
        have e : n ≠ 0 := by simpa using e
        have : leadL r = i := leadL_of ⟨by rw [hn]; exact e, hz⟩
        refine ⟨_, rfl, ?_⟩
        rw [← this]
        exact q H2 s2
      · rw [dint] at e
        have e : n = 0 := by simpa using e
        refine ⟨_, _, rfl, s2, fun j hj => ?_⟩
        rcases Nat.lt_succ_iff_lt_or_eq.mp hj with z | z
        · exact hz j z
        · rw [z, hn, e]
    · rintro σ H1 ⟨v1, v2, rfl, s1, hz⟩
      rw [List.length_map] at hz
      refine ⟨_, rfl, p, _, rfl, .inr (SqT.of (s1 _ _ hp)), ?_⟩
      rw [List.length_map, ← leadL_all hz]
      exact q H1 s1
def gcdN (r : List Int) (i : Nat) : Nat := gcdL (r.take i)
theorem gcdN_succ {r : List Int} {i : Nat} {n : Int} (h : r[i]? = some n) : gcdN r (i + 1) = Nat.gcd (gcdN r i) n.natAbs := by
  unfold gcdN gcdL
  rw [List.take_add_one, h, List.foldl_append]
  rfl
theorem gcdN_all (r : List Int) : gcdN r r.length = gcdL r := by
  unfold gcdN
  rw [List.take_length]
theorem lead_lt {r : List Int} (h : gcdL r ≠ 0) : leadL r < r.length := by
  rcases Nat.lt_or_ge (leadL r) r.length with q | q
  · exact q
  · exfalso
    have hz := leadL_none (Nat.le_antisymm (leadL_le r) q)
    apply h
    refine Nat.eq_zero_of_zero_dvd (gcdF_great r 0 0 (Nat.dvd_refl _) fun n hn => ?_)
    obtain ⟨i, hi, e⟩ := List.getElem_of_mem hn
    rw [← e, ← co_lt hi, hz i]
    exact Nat.dvd_refl _
theorem sc_primitive : FnScope ["row", "common", "number"] ["row"] (defScope s_primitive) := ⟨rfl, rfl, rfl, by decide +kernel, rfl, by decide +kernel, by decide +kernel⟩
theorem ok_primitive (T : Txt K mg a) : FnOk P w K mg base CX0 2 a.f_primitive a.f_primitive_d ["row"] spPrim := by
  refine T.F_primitive.ok sc_primitive (fun vs H Q E h => ?_) (fun cdv A outer s H vs Q E hr h => ?_)
  · obtain ⟨p, r, rfl, _⟩ := h
    rfl
  obtain ⟨p, r, rfl, hp, hl, hb, q⟩ := h
  refine ⟨_, (pss_cons (ps_set (i := 1) sc_primitive.nd rfl (Or.inr rfl) pe_int)
    (pss_cons (ps_for PassesOwn.never rfl (EnT.pi_or (pi_list (pv 0)) (pi_tup (pv 0))) (pg_name (i := 2) sc_primitive.nd rfl (Or.inl rfl))
      (pss_one (ps_set (i := 1) sc_primitive.nd rfl (Or.inr rfl) (pe_callBfun cr_gcd (by rfl) T.g_gcd (pa_cons (pv 1) (pa_cons (pv 2) pa_nil))))))
    (pss_cons (ps_if (pt_cmpR op_eq (pv 1) pe_int (nomark _))
      (pss_one (ps_ret (pe_callTy call_tuple_of (by rfl) T.tuple (by decide +kernel) (pa_cons (pv 0) pa_nil))))
      pss_nil)
    (pss_cons (ps_if (pt_cmpR op_lt (pe_ix ix_seq (pv 0) (pe_call (ok_lead_of T) (hr.mono (by decide)) (by rfl) T.g_lead_of T.F_lead_of.kp T.b_lead_of .nil pass0 (pa_cons (pv 0) pa_nil)) (fun _ _ => rfl)) pe_int (nomark _))
      (pss_one (ps_set (i := 1) sc_primitive.nd rfl (Or.inr rfl) (pe_un un_neg (pv 1))))
      pss_nil)
    (pss_one (ps_ret (pe_callTy call_tuple_of (by rfl) T.tuple (by decide +kernel) (pa_cons (pe_lc (own := [("number", 2)]) (g := gName 2) (tt := tYes) (by rfl) sc_primitive.nd (EnT.pi_or (pi_list (pv 0)) (pi_tup (pv 0))) (blkOk_by (own := [("number", 2)]) (N := ["row", "common", "number"]) (sc := defScope s_primitive) (by decide +kernel)) (fun _ _ _ _ _ => pg_name (i := 2) sc_primitive.nd rfl (Or.inl rfl)) (fun _ _ _ _ _ => pts_nil) (fun _ _ _ _ _ => (pe_op EnT.op_fdivB (pv 2) (pv 1)))) pa_nil)))))))), ?_⟩
  obtain ⟨o, ho, hp'⟩ : ∃ o, (o = HO.lst (r.map V.int) ∨ o = HO.tup (r.map V.int)) ∧ H p = some o := hp.elim (fun z => ⟨_, .inl rfl, z⟩) fun z => ⟨_, .inr rfl, z⟩
  have at' : ∀ {H1}, Same H H1 → RowAt H1 p r := fun s1 => hp.same s1
  refine row_walk ho hp' rfl fun J wk => for_it wk (fun i σ H' => ∃ v2, σ = [some (.ref p), some (.int (gcdN r i : Nat)), v2] ∧ H' = H) ⟨_, rfl, rfl⟩ (fun i σ H' _ ⟨_, _, e⟩ => e ▸ hp') ?_ ?_
  · rintro i x σ H1 H2 hi ⟨v2, rfl, rfl⟩ ⟨rfl, hx⟩
    obtain ⟨n, hn, rfl⟩ := get_map hx
    refine ⟨_, rfl, _, rfl, _, n, rfl, ?_⟩
    refine ⟨some (.int n), ?_, rfl⟩
    rw [gcdN_succ hn]
    rfl
  rintro σ H1 ⟨v2, rfl, rfl⟩
  rw [List.length_map, gcdN_all]
  refine ⟨_, rfl, rfl, _, rfl, ite2 (fun e => ?_) (fun e => ?_)⟩
  · rw [dint] at e
    have e : gcdL r = 0 := by have := of_decide_eq_true e; omega
    have er : primL r = r := by unfold primL; rw [if_pos e]
    rw [er] at q
    rcases hp with hp | hp
    · exact ⟨_, rfl, p, _, rfl, .inl ⟨SqL.of hp, fun l nl => q _ l (same_upd nl) upd_same⟩⟩
    · exact ⟨_, rfl, p, _, rfl, .inr ⟨SqT.of hp, q _ p (Same.refl _) hp⟩⟩
  rw [dint] at e
  have e : gcdL r ≠ 0 := fun z => e (by rw [z]; rfl)
  have hll := lead_lt e
  have ix : ∀ {H2 : Hp} {Q2 : VK}, Same H1 H2 → Q2 (.int (co r (leadL r))) H2 → rIx K (.ref p) (.int (leadL r : Nat)) H2 Q2 := fun {H2 Q2} s2 z => by
    rcases hp with hp | hp
    · exact .inl ⟨p, _, _, _, rfl, rfl, SqL.of (s2 _ _ hp), atI_co hll, z⟩
    · exact .inr (.inl ⟨p, _, _, _, rfl, rfl, SqT.of (s2 _ _ hp), atI_co hll, z⟩)
  refine ⟨_, rfl, _, rfl, p, r, rfl, hp, hl, fun H2 s2 => ix s2 ⟨_, _, rfl, rfl, _, rfl, ?_⟩⟩
  -- the list of the parts
  have last : ∀ v2, tRet (tCB (fun xs H Q => ∃ p ys, xs = [.ref p] ∧ ((SqL K H p ys ∧ ∀ l, H l = none → Q (.ref l) (upd H l (.tup ys))) ∨ (SqT K H p ys ∧ Q (.ref p) H)))
      (tCons (tLc (fun σ H R => iList K (tVar 0) σ H R ∨ iTup K (tVar 0) σ H R) (gName 2) tYes (tOp (rI EnT.CDivB fun i j => .int (i.fdiv j)) (tVar 2) (tVar 1)) [2]) tNil))
      { nx := fun x H' => Q V.non H', rt := Q } [some (.ref p), some (.int (LA.signG r)), v2] H2 := fun v2 => by
    refine row_walk ho (s2 _ _ hp') rfl fun J wk D hD => ?_
    refine lc_it wk (fun i H' => Same H2 H' ∧ H' D = some (.lst ((((r.take i).map fun n => n.fdiv (LA.signG r))).map V.int))) ⟨same_upd hD, upd_same⟩ (fun i H' _ h => h.1 _ _ (s2 _ _ hp')) ?_ ?_
    · rintro i x H3 H4 hi ⟨s3, hD3⟩ ⟨rfl, hx⟩
      obtain ⟨n, hn, rfl⟩ := get_map hx
      rw [List.length_map] at hi
      refine ⟨rfl, _, rfl, _, rfl, n, _, rfl, rfl, ⟨signG_ne e, hb.sign⟩, _, hD3, ?_, same_mut s3 hD, ?_⟩
      · rw [List.length_map, List.length_map, List.length_take]
        exact bigLine (by omega)
      · rw [upd_same, List.take_add_one, hn, List.map_append, List.map_append]
        rfl
    · rintro H3 ⟨s3, hD3⟩
      rw [List.length_map, List.take_length] at hD3
      refine ⟨D, _, rfl, .inl ⟨SqL.of hD3, fun l nl => q _ l ((s2.trans s3).trans (same_upd nl)) ?_⟩⟩
      rw [upd_same]
      unfold primL
      rw [if_neg e]
  refine ite2 (fun e2 => ?_) (fun e2 => ?_)
  · have e2 : co r (leadL r) < 0 := of_decide_eq_true e2
    refine ⟨_, rfl, _, rfl, ?_⟩
    have es : LA.signG r = -(gcdL r : Int) := by unfold LA.signG; rw [if_pos e2]
    have := last v2
    rw [es] at this
    exact this
  · have e2 : ¬ co r (leadL r) < 0 := fun z => e2 (decide_eq_true z)
    have es : LA.signG r = (gcdL r : Int) := by unfold LA.signG; rw [if_neg e2]
    have := last v2
    rw [es] at this
    exact this
end
end K42
namespace K42
open PySem PySem.Spec PyProof.Rows L2 LA
/-- what a comprehension asks: a word for its turns -/
abbrev Turns (J : It) (g : TG) (tt : TT) (te : TE) (vs : List Nat) (σ : L2.St) (H0 : Hp) (D : Addr) (Qd : Hp → Prop) : Prop :=
  ∃ Wd : Nat → Nat → Hp → Prop, (∃ k, Wd 0 k (upd H0 D (.lst []))) ∧
    ∀ i k Hi, Wd i k Hi → (J.stop i Hi ∧ Qd Hi) ∨ (J.go i Hi ∧ ∃ Nt : Hp → Prop, (∀ Hj, Nt Hj → ∃ k', k' < k ∧ Wd (i + 1) k' Hj) ∧
      ∀ x Hj, J.yld i Hi x Hj → g x (wipe σ vs) Hj fun σ2 H2 => wipe σ2 vs = wipe σ vs ∧
        tt σ2 H2 fun b H3 => if b = true then te σ2 H3 fun y H4 => ∃ acc, H4 D = some (.lst acc) ∧ acc.length < sizeLine ∧ Nt (upd H4 D (.lst (acc ++ [y]))) else Nt H3)
/-- f of each pair of two rows, in a new list -/
theorem lc_zip {K : PySem.W.Frag} {i j : Nat} {p q D : Addr} {r s : List Int} {f : Int → Int → Int} {te : TE} {vs : List Nat} {σ : L2.St} {H : Hp} {Qd : Hp → Prop}
    (hp : H p = some (.tup (r.map V.int))) (hq : H q = some (.tup (s.map V.int))) (hl : r.length = s.length) (h1 : r.length ≤ 1000) (hD : H D = none) (hw : ∀ u v, wipe (((wipe σ vs).set i u).set j v) vs = wipe σ vs)
    (hs : ∀ (c : Nat) n t H' (Q' : VK), r[c]? = some n → s[c]? = some t → Q' (.int (f n t)) H' → te (((wipe σ vs).set i (some (.int n))).set j (some (.int t))) H' Q') (hd : ∀ H', Same H H' → H' D = some (.lst ((List.zipWith f r s).map V.int)) → Qd H') :
    Turns (RZ.ItzT K p q) (gTup K 2 (gCons (gName i) (gCons (gName j) gNil))) tYes te vs σ H D Qd := by
  refine lc_it (walk_zipT (K := K) (a := p) (b := q) (xs := r.map V.int) (ys := s.map V.int) (by rw [List.length_map, List.length_map]; exact hl)) (fun c H' => Same H H' ∧ H' D = some (.lst (((List.zipWith f r s).take c).map V.int)))
    ⟨same_upd hD, upd_same⟩ (fun c H' _ h => ⟨SqT.of (h.1 _ _ hp), SqT.of (h.1 _ _ hq)⟩) ?_ ?_
  · rintro c z H1 H2 hc ⟨s1, hD1⟩ ⟨T, y1, y2, rfl, nT, rfl, e1, e2⟩
    obtain ⟨n, hn, rfl⟩ := get_map e1
    obtain ⟨t, ht, rfl⟩ := get_map e2
    have hDT : D ≠ T := ne_of_none hD1 nT
    refine ⟨T, _, rfl, SqT.of upd_same, rfl, _, _, rfl, _, _, rfl, rfl, hw _ _, ?_⟩
    refine hs c n t _ _ hn ht ⟨_, by rw [upd_ne hDT]; exact hD1, ?_, same_mut (s1.trans (same_upd nT)) hD, ?_⟩
    · rw [List.length_map, List.length_take, List.length_zipWith]
      exact bigLine (by omega)
    · have hz : (List.zipWith f r s)[c]? = some (f n t) := by rw [List.getElem?_zipWith, hn, ht]
      rw [upd_same, List.take_add_one, hz, List.map_append]
      rfl
  · rintro H1 ⟨s1, hD1⟩
    have : (List.zipWith f r s).take (r.map V.int).length = List.zipWith f r s := List.take_of_length_le (by rw [List.length_zipWith, List.length_map]; omega)
    rw [this] at hD1
    exact hd H1 s1 hD1
def spClear : Sp := fun vs H Q _ => ∃ (p q : Addr) (l : Nat) (r o : List Int) (m n : Nat), vs = [.ref p, .ref q, .int (l : Nat)] ∧ H p = some (.tup (r.map V.int)) ∧ H q = some (.tup (o.map V.int)) ∧ r.length = o.length ∧ r.length ≤ 1000 ∧ l < r.length ∧
  Bd m r ∧ Bd n o ∧ m + n + 1 ≤ 9000 ∧ ∀ H' z, Same H H' → H' z = some (.tup ((clearL r o l).map V.int)) → Q (.ref z) H'
def spRest : Sp := fun vs H Q _ => ∃ (d p : Addr) (T : List (Nat × List Int)) (r : List Int) (m n : Nat), vs = [.ref d, .ref p] ∧ TabAt H d T ∧ H p = some (.tup (r.map V.int)) ∧ (∀ l o, (l, o) ∈ T → o.length = r.length ∧ l < r.length ∧ Bd n o) ∧ r.length ≤ 1000 ∧
  Bd m r ∧ m + T.length * (n + 1) ≤ 9000 ∧ ∀ H' z, Same H H' → H' z = some (.tup ((restL T r).map V.int)) → Q (.ref z) H'
def spJoin : Sp := fun vs H Q _ => ∃ (d p : Addr) (T : List (Nat × List Int)) (r : List Int) (m n : Nat), vs = [.ref d, .ref p] ∧ TabAt H d T ∧ Tab r.length T ∧ H p = some (.tup (r.map V.int)) ∧ (∀ l o, (l, o) ∈ T → Bd n o) ∧ r.length ≤ 1000 ∧
  Bd m r ∧ n + (m + T.length * (n + 1)) + 1 ≤ 9000 ∧ ∀ H' z, Same H H' → TabAt H' z (joinL T r) → Q (.ref z) H'
def spProd : Sp := fun vs H Q _ => ∃ (p q : Addr) (r o : List Int) (m n : Nat), vs = [.ref p, .ref q] ∧ H p = some (.tup (r.map V.int)) ∧ H q = some (.tup (o.map V.int)) ∧ r.length = o.length ∧ r.length ≤ 1000 ∧ Bd m r ∧ Bd n o ∧ m + n ≤ 900000 ∧
  ∀ H', Same H H' → Q (.int (List.zipWith (fun n t => n * t) r o).sum) H'
theorem Bd.wide {n m : Nat} {r : List Int} (h : Bd n r) (k : n ≤ m) {x : Int} (hx : x ∈ r) : x.natAbs < 2 ^ (m + 1) := (h.mono (Nat.le_succ_of_le k)).mem hx
theorem mulOk {x y : Int} {m n : Nat} (hx : x.natAbs < 2 ^ m) (hy : y.natAbs < 2 ^ n) (h : m + n ≤ 900000) : CMulW x y :=
  wide_mul (a := m + 1) (b := n + 1) (Nat.lt_of_lt_of_le hx (Nat.pow_le_pow_right (by decide) (by omega))) (Nat.lt_of_lt_of_le hy (Nat.pow_le_pow_right (by decide) (by omega))) (by omega) (by omega) (by omega)
theorem mem_of_get {r : List Int} {c : Nat} {n : Int} (h : r[c]? = some n) : n ∈ r := List.mem_of_getElem? h
section
variable {P : Program} {w : World} {K : PySem.W.Frag} {mg : Str → Option Value} {base : Heap} {a : Ads}
theorem sc_cleared : FnScope ["row", "other", "lead", "factor", "times", "number", "taken"] ["row", "other", "lead"] (defScope s_cleared) := ⟨rfl, rfl, rfl, by decide +kernel, rfl, by decide +kernel, by decide +kernel⟩
theorem ok_cleared (T : Txt K mg a) : FnOk P w K mg base CX0 3 a.f_cleared a.f_cleared_d ["row", "other", "lead"] spClear := by
  refine T.F_cleared.ok sc_cleared (fun vs H Q E h => ?_) (fun cdv A outer s H vs Q E hr h => ?_)
  · obtain ⟨p, q, l, r, o, m, n, rfl, _⟩ := h
    rfl
  obtain ⟨p, z, l, r, o, m, n, rfl, hp, hz, hl, h1, hlt, hm, hn, hmn, q⟩ := h
  refine ⟨_, (pss_cons (ps_set (i := 3) sc_cleared.nd rfl (Or.inr rfl) (pe_ix ix_tup (pv 1) (pv 2) (fun _ _ => rfl)))
    (pss_cons (ps_set (i := 4) sc_cleared.nd rfl (Or.inr rfl) (pe_ix ix_tup (pv 0) (pv 2) (fun _ _ => rfl)))
    (pss_cons (ps_if (pt_cmpR op_eq (pv 3) pe_int (nomark _))
      (pss_one (ps_ret (pe_callTy call_tuple_of (by rfl) T.tuple (by decide +kernel) (pa_cons (pe_lc (own := [("number", 5), ("taken", 6)]) (g := gTup K 2 (gCons (gName 5) (gCons (gName 6) gNil))) (tt := tYes) (by rfl) sc_cleared.nd (RZ.pi_zipA (by rfl) T.zip (pa_cons (pv 0) (pa_cons (pv 1) pa_nil))) (blkOk_by (own := [("number", 5), ("taken", 6)]) (N := ["row", "other", "lead", "factor", "times", "number", "taken"]) (sc := defScope s_cleared) (by decide +kernel)) (fun _ _ _ _ _ => pg_tup (by rfl) (pgs_cons (pg_name (i := 5) sc_cleared.nd rfl (Or.inl rfl)) (pgs_cons (pg_name (i := 6) sc_cleared.nd rfl (Or.inl rfl)) pgs_nil))) (fun _ _ _ _ _ => pts_nil) (fun _ _ _ _ _ => (pe_op op_sub (pv 5) (pe_op op_mulW (pv 4) (pv 6))))) pa_nil))))
      pss_nil)
    (pss_one (ps_ret (pe_call (ok_primitive T) (hr.mono (by decide)) (by rfl) T.g_primitive T.F_primitive.kp T.b_primitive .nil pass0 (pa_cons (pe_lc (own := [("number", 5), ("taken", 6)]) (g := gTup K 2 (gCons (gName 5) (gCons (gName 6) gNil))) (tt := tYes) (by rfl) sc_cleared.nd (RZ.pi_zipA (by rfl) T.zip (pa_cons (pv 0) (pa_cons (pv 1) pa_nil))) (blkOk_by (own := [("number", 5), ("taken", 6)]) (N := ["row", "other", "lead", "factor", "times", "number", "taken"]) (sc := defScope s_cleared) (by decide +kernel)) (fun _ _ _ _ _ => pg_tup (by rfl) (pgs_cons (pg_name (i := 5) sc_cleared.nd rfl (Or.inl rfl)) (pgs_cons (pg_name (i := 6) sc_cleared.nd rfl (Or.inl rfl)) pgs_nil))) (fun _ _ _ _ _ => pts_nil) (fun _ _ _ _ _ => (pe_op op_sub (pe_op op_mulW (pv 3) (pv 5)) (pe_op op_mulW (pv 4) (pv 6))))) pa_nil))))))), ?_⟩
  refine ⟨_, rfl, _, rfl, z, _, _, _, rfl, rfl, SqT.of hz, atI_co (by omega), _, rfl, _, rfl, p, _, _, _, rfl, rfl, SqT.of hp, atI_co hlt, ?_⟩
  refine ⟨_, rfl, rfl, _, rfl, ite2 (fun e => ?_) (fun e => ?_)⟩
  · rw [dint] at e
    have e : co o l = 1 := of_decide_eq_true e
    refine ⟨_, rfl, _, rfl, p, z, _, _, rfl, .inr ⟨SqT.of hp, SqT.of hz, fun D nD => lc_zip (f := fun n t => n - co r l * t) hp hz hl h1 nD (fun _ _ => rfl) ?_ ?_⟩⟩
    · exact fun c n' t' H' Q' hn' ht' q' => ⟨_, rfl, _, rfl, _, rfl, _, _, rfl, rfl, mulOk (hm l) (hn.mem (mem_of_get ht')) (by omega), _, _, rfl, rfl, q'⟩
    intro H' s1 hD
    refine ⟨D, _, rfl, .inl ⟨SqL.of hD, fun l' nl => q _ l' (s1.trans (same_upd nl)) ?_⟩⟩
    rw [upd_same]
    unfold clearL
    rw [if_pos e]
  · rw [dint] at e
    have e : ¬ co o l = 1 := fun z => e (decide_eq_true z)
    refine ⟨_, rfl, _, rfl, p, z, _, _, rfl, .inr ⟨SqT.of hp, SqT.of hz, fun D nD => lc_zip (f := fun n t => co o l * n - co r l * t) hp hz hl h1 nD (fun _ _ => rfl) ?_ ?_⟩⟩
    · exact fun c n' t' H' Q' hn' ht' q' => ⟨_, rfl, _, rfl, _, _, rfl, rfl, mulOk (hn l) (hm.mem (mem_of_get hn')) (by omega), _, rfl, _, rfl, _, _, rfl, rfl, mulOk (hm l) (hn.mem (mem_of_get ht')) (by omega), _, _, rfl, rfl, q'⟩
    intro H' s1 hD
    refine ⟨D, clearP r o l, rfl, .inl hD, ?_, (Bd.clearP hl hm hn).mono hmn, fun H2 z2 s2 hz2 => q H2 z2 (s1.trans s2) ?_⟩
    · unfold clearP
      rw [List.length_zipWith]
      omega
    · rw [hz2]
      unfold clearL
      rw [if_neg e]
theorem sc_product : FnScope ["one", "other", "number", "factor"] ["one", "other"] (defScope s_product) := ⟨rfl, rfl, rfl, by decide +kernel, rfl, by decide +kernel, by decide +kernel⟩
theorem ok_product (T : Txt K mg a) : FnOk P w K mg base CX0 1 a.f_product a.f_product_d ["one", "other"] spProd := by
  refine T.F_product.ok sc_product (fun vs H Q E h => ?_) (fun cdv A outer s H vs Q E hr h => ?_)
  · obtain ⟨p, q, r, o, m, n, rfl, _⟩ := h
    rfl
  obtain ⟨p, z, r, o, m, n, rfl, hp, hz, hl, h1, hm, hn, hmn, q⟩ := h
  refine ⟨_, (pss_one (ps_ret (pe_callB (cr_sum rfl) (by rfl) T.sum (by decide +kernel) (pa_cons (pe_lc (own := [("number", 2), ("factor", 3)]) (g := gTup K 2 (gCons (gName 2) (gCons (gName 3) gNil))) (tt := tYes) (by rfl) sc_product.nd (RZ.pi_zipA (by rfl) T.zip (pa_cons (pv 0) (pa_cons (pv 1) pa_nil))) (blkOk_by (own := [("number", 2), ("factor", 3)]) (N := ["one", "other", "number", "factor"]) (sc := defScope s_product) (by decide +kernel)) (fun _ _ _ _ _ => pg_tup (by rfl) (pgs_cons (pg_name (i := 2) sc_product.nd rfl (Or.inl rfl)) (pgs_cons (pg_name (i := 3) sc_product.nd rfl (Or.inl rfl)) pgs_nil))) (fun _ _ _ _ _ => pts_nil) (fun _ _ _ _ _ => (pe_op op_mulW (pv 2) (pv 3)))) pa_nil)))), ?_⟩
  refine ⟨_, rfl, _, rfl, p, z, _, _, rfl, .inr ⟨SqT.of hp, SqT.of hz, fun D nD => lc_zip (f := fun n t => n * t) hp hz hl h1 nD (fun _ _ => rfl) ?_ ?_⟩⟩
  · exact fun c n' t' H' Q' hn' ht' q' => ⟨_, rfl, _, rfl, _, _, rfl, rfl, mulOk (hm.mem (mem_of_get hn')) (hn.mem (mem_of_get ht')) hmn, q'⟩
  intro H' s1 hD
  exact ⟨D, _, rfl, SqL.of hD, q H' s1⟩
end
end K42
namespace K42
open PySem PySem.Spec PyProof.Rows L2 LA
/-- what a dict comprehension asks: a word for its turns -/
abbrev DTurns (J : It) (g : TG) (tt : TT) (tk tv : TE) (vs : List Nat) (σ : L2.St) (H0 : Hp) (D : Addr) (Qd : Hp → Prop) : Prop :=
  ∃ Wd : Nat → Nat → Hp → Prop, (∃ k, Wd 0 k (upd H0 D (.dK []))) ∧
    ∀ i k Hi, Wd i k Hi → (J.stop i Hi ∧ Qd Hi) ∨ (J.go i Hi ∧ ∃ Nt : Hp → Prop, (∀ Hj, Nt Hj → ∃ k', k' < k ∧ Wd (i + 1) k' Hj) ∧
      ∀ x Hj, J.yld i Hi x Hj → g x (wipe σ vs) Hj fun σ2 H2 => wipe σ2 vs = wipe σ vs ∧
        tt σ2 H2 fun b H3 => if b = true then tk σ2 H3 fun y H4 => tv σ2 H4 fun z H5 => ∃ kvs k, y = kV k ∧ H5 D = some (.dK kvs) ∧ kvs.length < sizeLine ∧ Nt (upd H5 D (.dK (putK kvs k z))) else Nt H3)
theorem dc_it {J : It} {n : Nat} {G : Hp → Prop} {Y : Nat → Hp → V → Hp → Prop} (wk : Walk J n G Y) {g : TG} {tk tv : TE} {vs : List Nat} {σ : L2.St} {H0 : Hp} {D : Addr} {Qd : Hp → Prop} (Pv : Nat → Hp → Prop) (start : Pv 0 (upd H0 D (.dK []))) (stays : ∀ i Hi, Pv i Hi → G Hi)
    (turn : ∀ i x Hi Hj, i < n → Pv i Hi → Y i Hi x Hj → g x (wipe σ vs) Hj fun σ2 H2 => wipe σ2 vs = wipe σ vs ∧
      tk σ2 H2 fun y H4 => tv σ2 H4 fun z H5 => ∃ kvs k, y = kV k ∧ H5 D = some (.dK kvs) ∧ kvs.length < sizeLine ∧ Pv (i + 1) (upd H5 D (.dK (putK kvs k z)))) (after : ∀ Hi, Pv n Hi → Qd Hi) :
    DTurns J g tYes tk tv vs σ H0 D Qd := by
  refine ⟨fun i k Hi => k = n - i ∧ i ≤ n ∧ Pv i Hi, ⟨n, by simp, Nat.zero_le _, start⟩, ?_⟩
  rintro i k Hi ⟨rfl, le, pv⟩
  rcases Nat.lt_or_ge i n with lt | ge
  · exact .inr ⟨wk.goes i Hi lt (stays i Hi pv), Pv (i + 1), fun Hj pj => ⟨n - (i + 1), by omega, rfl, lt, pj⟩, fun x Hj y => turn i x Hi Hj lt pv (wk.yields i Hi x Hj lt (stays i Hi pv) y)⟩
  · obtain rfl : i = n := by omega
    exact .inl ⟨wk.stops Hi (stays i Hi pv), after Hi pv⟩
theorem same_lock {H H1 : Hp} {d : Addr} {od : Obj} {u : HO} (hd : H d = some u) (s : Same (upd H d (.frz od u)) H1) : Same H (upd H1 d u) := fun b x e => by
  by_cases z : b = d
  · subst z
    rw [upd_same, ← e, hd]
  · rw [upd_ne z]
    exact s b x (by rw [upd_ne z]; exact e)
theorem lock_keep {H : Hp} {d b : Addr} {od : Obj} {u x : HO} (hd : H d = some u) (hb : H b = some x) (ne : x ≠ u) : (upd H d (.frz od u)) b = some x := by
  rw [upd_ne (fun z => ne (by
    subst z
    exact Option.some.inj (hb.symm.trans hd)))]
  exact hb
theorem unlock_keep {H1 : Hp} {d b : Addr} {od : Obj} {u x : HO} (hd : H1 d = some (.frz od u)) (hb : H1 b = some x) (ne : ∀ o' u', x ≠ .frz o' u') : (upd H1 d u) b = some x := by
  rw [upd_ne (fun z => ne _ _ (by
    subst z
    exact Option.some.inj (hb.symm.trans hd)))]
  exact hb
theorem RowsAt.imp {H H' : Hp} (k : ∀ b r, H b = some (.tup r) → H' b = some (.tup r)) : ∀ {as : List Addr} {rs : List (List Int)}, RowsAt H as rs → RowsAt H' as rs
  | [], [], _ => trivial
  | _ :: _, _ :: _, h => ⟨k _ _ h.1, RowsAt.imp k h.2⟩
  | [], _ :: _, h => h.elim
  | _ :: _, [], h => h.elim
theorem kvs_put {T : List (Nat × List Int)} {as : List Addr} {p : Nat} (hl : as.length = T.length) (hp : p ∉ keysOf T) (v : V) : putK (kvsOf T as) (Sum.inl (p : Int)) v = kvsOf T as ++ [(Sum.inl (p : Int), v)] := by
  have h := kvs_val p hl
  rw [decide_eq_false hp] at h
  unfold putK
  rw [valV_any, if_neg (by rw [h]; exact Bool.false_ne_true)]
theorem rows_len (T : List (Nat × List Int)) : (rowsOf T).length = T.length := List.length_map _
theorem restL_succ {T : List (Nat × List Int)} {i : Nat} {x : Nat × List Int} (h : T[i]? = some x) (r : List Int) : restL (T.take (i + 1)) r = restS (restL (T.take i) r) x := by
  unfold restL
  rw [List.take_add_one, h, List.foldl_append]
  rfl
section
variable {P : Program} {w : World} {K : PySem.W.Frag} {mg : Str → Option Value} {base : Heap} {a : Ads}
theorem sc_rest_of : FnScope ["table", "row", "rest", "lead", "other"] ["table", "row"] (defScope s_rest_of) := ⟨rfl, rfl, rfl, by decide +kernel, rfl, by decide +kernel, by decide +kernel⟩
theorem ok_rest_of (T : Txt K mg a) : FnOk P w K mg base CX0 4 a.f_rest_of a.f_rest_of_d ["table", "row"] spRest := by
  refine T.F_rest_of.ok sc_rest_of (fun vs H Q E h => ?_) (fun cdv A outer s H vs Q E hr h => ?_)
  · obtain ⟨d, p, T, r, m, n, rfl, _⟩ := h
    rfl
  obtain ⟨d, p, Tb, r, m, n, rfl, ⟨as, hRs, hd⟩, hp, hT, h1, hm, hmn, q⟩ := h
  have hal : as.length = Tb.length := by rw [hRs.len, rows_len]
  refine ⟨_, (pss_cons (ps_set (i := 2) sc_rest_of.nd rfl (Or.inl rfl) (pv 1))
    (pss_cons (ps_lock (ps_for PassesOwn.never rfl (pi_items (pv 0)) (pg_tup (by rfl) (pgs_cons (pg_name (i := 3) sc_rest_of.nd rfl (Or.inl rfl)) (pgs_cons (pg_name (i := 4) sc_rest_of.nd rfl (Or.inl rfl)) pgs_nil)))
      (pss_one (ps_if (pt_cmpR op_ne (pe_ix ix_tup (pv 2) (pv 3) (fun _ _ => rfl)) pe_int (nomark _))
        (pss_one (ps_set (i := 2) sc_rest_of.nd rfl (Or.inl rfl) (pe_call (ok_cleared T) (hr.mono (by decide)) (by rfl) T.g_cleared T.F_cleared.kp T.b_cleared .nil pass0 (pa_cons (pv 2) (pa_cons (pv 4) (pa_cons (pv 3) pa_nil))))))
        pss_nil))))
    (pss_one (ps_ret (pv 2))))), ?_⟩
  refine ⟨_, rfl, d, _, hd, True.intro, fun od => ⟨_, rfl, d, od, _, rfl, upd_same, ?_⟩⟩
  refine for_it walk_items (fun i σ H' => ∃ v3 v4 z, σ = [some (.ref d), some (.ref p), some (.ref z), v3, v4] ∧ Same (upd H d (.frz od (.dK (kvsOf Tb as)))) H' ∧ H' z = some (.tup ((restL (Tb.take i) r).map V.int)))
    ⟨_, _, p, rfl, Same.refl _, lock_keep hd hp (by intro z; cases z)⟩ (fun i σ H' _ ⟨_, _, _, _, s1, _⟩ => s1 _ _ upd_same) ?_ ?_
  · rintro i x σ H1 H2 hi ⟨v3, v4, z, rfl, s1, hz⟩ ⟨T, y1, y2, rfl, nT, rfl, e1, e2⟩
    rw [kvs_len hal] at hi
    obtain ⟨l, o, b, ht, hb, hk⟩ := kvs_get hal hi
    dsimp only at e1 e2
    rw [hk] at e1 e2
    obtain rfl : V.int (l : Int) = y1 := Option.some.inj e1
    obtain rfl : V.ref b = y2 := Option.some.inj e2
    have hmem : (l, o) ∈ Tb := List.mem_of_getElem? ht
    obtain ⟨hol, hlr, hob⟩ := hT l o hmem
    obtain ⟨o', ho', hbt⟩ := hRs.get hb
    have eo : o' = o := by
      unfold rowsOf at ho'
      rw [List.getElem?_map, ht] at ho'
      exact (Option.some.inj ho').symm
    subst eo
    have hb2 : (upd H1 T (.tup [.int (l : Int), .ref b])) b = some (.tup (o'.map V.int)) := same_upd nT _ _ (s1 _ _ (lock_keep hd hbt (by intro z; cases z)))
    have hz2 : (upd H1 T (.tup [.int (l : Int), .ref b])) z = some (.tup ((restL (Tb.take i) r).map V.int)) := same_upd nT _ _ hz
    have hlen : (restL (Tb.take i) r).length = r.length := restL_len (w := r.length) (fun l r m => (hT l r (List.mem_of_mem_take m)).1) rfl
    have hbd : Bd (m + Tb.length * (n + 1)) (restL (Tb.take i) r) := (restL_bd (w := r.length) (T := Tb.take i) (fun l r m => ⟨(hT l r (List.mem_of_mem_take m)).1, (hT l r (List.mem_of_mem_take m)).2.2⟩) rfl hm).mono (by
      have : (Tb.take i).length * (n + 1) ≤ Tb.length * (n + 1) := Nat.mul_le_mul_right _ (by rw [List.length_take]; omega)
      omega)
    have hbi : Bd (m + i * (n + 1)) (restL (Tb.take i) r) := (restL_bd (w := r.length) (T := Tb.take i) (fun l r m => ⟨(hT l r (List.mem_of_mem_take m)).1, (hT l r (List.mem_of_mem_take m)).2.2⟩) rfl hm).mono (by
      have : (Tb.take i).length * (n + 1) ≤ i * (n + 1) := Nat.mul_le_mul_right _ (by rw [List.length_take]; omega)
      omega)
    have hin : m + i * (n + 1) + n + 1 ≤ 9000 := by
      have : (i + 1) * (n + 1) ≤ Tb.length * (n + 1) := Nat.mul_le_mul_right _ hi
      rw [Nat.add_mul] at this
      omega
    have s2 : Same (upd H d (.frz od (.dK (kvsOf Tb as)))) (upd H1 T (.tup [.int (l : Int), .ref b])) := s1.trans (same_upd nT)
    refine ⟨T, _, rfl, SqT.of upd_same, rfl, _, _, rfl, _, _, rfl, rfl, ?_⟩
    refine ⟨_, rfl, _, rfl, z, _, _, _, rfl, rfl, SqT.of hz2, atI_co (by omega), rfl, _, rfl, ite2 (fun e => ?_) (fun e => ?_)⟩
    · rw [dint] at e
      have e : co (restL (Tb.take i) r) l ≠ 0 := by simpa using e
      refine ⟨_, rfl, _, rfl, _, rfl, z, b, l, _, o', m + i * (n + 1), n, rfl, hz2, hb2, by omega, by omega, by omega, hbi, hob, hin, fun H3 z3 s3 hz3 => ⟨_, _, z3, rfl, s2.trans s3, ?_⟩⟩
      rw [hz3, restL_succ ht]
      unfold restS
      rw [if_pos e]
    · rw [dint] at e
      have e : ¬ co (restL (Tb.take i) r) l ≠ 0 := by simpa using e
      refine ⟨_, _, z, rfl, s2, ?_⟩
      rw [hz2, restL_succ ht]
      unfold restS
      rw [if_neg e]
  · rintro σ H1 ⟨v3, v4, z, rfl, s1, hz⟩
    rw [kvs_len hal, List.take_length] at hz
    have hdl := s1 _ _ upd_same
    exact ⟨hdl, _, rfl, q _ z (same_lock hd s1) (unlock_keep hdl hz (by intro _ _ z; cases z))⟩
end
end K42
namespace K42
open PySem PySem.Spec PyProof.Rows L2 LA
def spTab : Sp := fun vs H Q _ => ∃ (p : Addr) (wd : Nat) (as : List Addr) (rows : List (List Int)) (m : Nat), vs = [.ref p, .int (wd : Nat)] ∧ H p = some (.lst (as.map V.ref)) ∧ RowsAt H as rows ∧ (∀ r ∈ rows, r.length = wd ∧ Bd m r) ∧ wd ≤ 1000 ∧ rows.length ≤ 1000 ∧
  bits m rows.length ≤ 9000 ∧ ∀ H' z, Same H H' → TabAt H' z (tabL rows) → Q (.ref z) H'
theorem bits_mono (m : Nat) {s t : Nat} (h : s ≤ t) : bits m s ≤ bits m t := by
  induction t with
  | zero => rw [Nat.le_zero.mp h]; exact Nat.le_refl _
  | succ t ih =>
    rcases Nat.lt_or_ge s (t + 1) with z | z
    · have := ih (Nat.le_of_lt_succ z)
      show bits m s ≤ bits m t + (m + t * (bits m t + 1)) + 1
      omega
    · rw [Nat.le_antisymm h z]
      exact Nat.le_refl _
theorem tab_len_n (rows : List (List Int)) (T : List (Nat × List Int)) : (rows.foldl joinL T).length ≤ T.length + rows.length := by
  induction rows generalizing T with
  | nil => exact Nat.le_refl _
  | cons r rs ih =>
    have h := ih (joinL T r)
    rw [List.foldl_cons, List.length_cons]
    rcases join_len T r with e | e <;> omega
theorem tabF_bits {w m : Nat} (rows : List (List Int)) (T : List (Nat × List Int)) (hT : Tab w T) (hb : Bits m T) (hr : ∀ r ∈ rows, r.length = w ∧ Bd m r) : Bits m (rows.foldl joinL T) := by
  induction rows generalizing T with
  | nil => exact hb
  | cons r rs ih => exact ih _ (join_ok hT (hr r (List.mem_cons_self ..)).1).1 (hb.join hT (hr r (List.mem_cons_self ..)).1 (hr r (List.mem_cons_self ..)).2) fun x hx => hr x (List.mem_cons_of_mem _ hx)
theorem tabL_succ {rows : List (List Int)} {i : Nat} {r : List Int} (h : rows[i]? = some r) : tabL (rows.take (i + 1)) = joinL (tabL (rows.take i)) r := by
  unfold tabL
  rw [List.take_add_one, h, List.foldl_append]
  rfl
section
variable {P : Program} {w : World} {K : PySem.W.Frag} {mg : Str → Option Value} {base : Heap} {a : Ads}
theorem sc_joined : FnScope ["table", "row", "rest", "lead", "found", "at", "other"] ["table", "row"] (defScope s_joined) := ⟨rfl, rfl, rfl, by decide +kernel, rfl, by decide +kernel, by decide +kernel⟩
theorem ok_joined (T : Txt K mg a) : FnOk P w K mg base CX0 5 a.f_joined a.f_joined_d ["table", "row"] spJoin := by
  refine T.F_joined.ok sc_joined (fun vs H Q E h => ?_) (fun cdv A outer s H vs Q E hr h => ?_)
  · obtain ⟨d, p, T, r, m, n, rfl, _⟩ := h
    rfl
  obtain ⟨d, p, Tb, r, m, n, rfl, hTab, hT, hp, hn, h1, hm, hmn, q⟩ := h
  refine ⟨_, (pss_cons (ps_set (i := 2) sc_joined.nd rfl (Or.inr rfl) (pe_call (ok_primitive T) (hr.mono (by decide)) (by rfl) T.g_primitive T.F_primitive.kp T.b_primitive .nil pass0 (pa_cons (pe_call (ok_rest_of T) (hr.mono (by decide)) (by rfl) T.g_rest_of T.F_rest_of.kp T.b_rest_of .nil pass0 (pa_cons (pv 0) (pa_cons (pv 1) pa_nil))) pa_nil)))
    (pss_cons (ps_set (i := 3) sc_joined.nd rfl (Or.inr rfl) (pe_call (ok_lead_of T) (hr.mono (by decide)) (by rfl) T.g_lead_of T.F_lead_of.kp T.b_lead_of .nil pass0 (pa_cons (pv 2) pa_nil)))
    (pss_cons (ps_if (pt_cmpR op_eq (pv 3) (pe_callB call_len_seq (by rfl) T.len PySem.boot_len (pa_cons (pv 2) pa_nil)) (nomark _))
      (pss_one (ps_ret (pv 0)))
      pss_nil)
    (pss_cons (ps_lock (EnT.ps_setDc (i := 4) (own := [("at", 5), ("other", 6)]) (g := gTup K 2 (gCons (gName 5) (gCons (gName 6) gNil))) (tt := tYes) (by rfl) sc_joined.nd rfl rfl (EnT.sw_dict rfl rfl rfl (by decide +kernel)) (pi_items (pv 0)) (blkOk_by (own := [("at", 5), ("other", 6)]) (N := ["table", "row", "rest", "lead", "found", "at", "other"]) (sc := defScope s_joined) (by decide +kernel)) (fun _ _ _ _ _ => pg_tup (by rfl) (pgs_cons (pg_name (i := 5) sc_joined.nd rfl (Or.inl rfl)) (pgs_cons (pg_name (i := 6) sc_joined.nd rfl (Or.inl rfl)) pgs_nil))) (fun _ _ _ _ _ => pts_nil) (fun _ _ _ _ _ => (pv 5)) (fun _ _ _ _ _ => (pe_ifExp (pt_cmpR op_eq (pe_ix (show IxR _ (rIxT K) from ix_tup) (pv 6) (pv 3) (fun _ _ => rfl)) pe_int (nomark _)) (pv 6) (pe_call (ok_primitive T) (hr.mono (by decide)) (by rfl) T.g_primitive T.F_primitive.kp T.b_primitive .nil pass0 (pa_cons (pe_call (ok_cleared T) (hr.mono (by decide)) (by rfl) T.g_cleared T.F_cleared.kp T.b_cleared .nil pass0 (pa_cons (pv 6) (pa_cons (pv 2) (pa_cons (pv 3) pa_nil)))) pa_nil))))))
    (pss_cons (ps_dput (hu_of hr) (pv 4) (pv 3) (pv 2) rfl)
    (pss_one (ps_ret (pv 4)))))))), ?_⟩
  refine ⟨_, rfl, _, rfl, d, p, Tb, r, m, n, rfl, hTab, hp, fun l o mm => ⟨hT.len l o mm, hT.lt mm, hn l o mm⟩, h1, hm, by omega, fun H1 z1 s1 hz1 => ?_⟩
  have hbR : Bd (m + Tb.length * (n + 1)) (restL Tb r) := restL_bd (w := r.length) (fun l o mm => ⟨hT.len l o mm, hn l o mm⟩) rfl hm
  have hlR : (restL Tb r).length = r.length := restL_len (w := r.length) hT.len rfl
  refine ⟨z1, restL Tb r, rfl, .inr hz1, by omega, hbR.mono (by omega), fun H2 z2 s2 hz2 => ?_⟩
  have hlP : (primL (restL Tb r)).length = r.length := (primL_len _).trans hlR
  have hbP : Bd (m + Tb.length * (n + 1)) (primL (restL Tb r)) := hbR.prim
  refine ⟨_, rfl, z2, _, rfl, .inr hz2, by omega, fun H3 s3 => ?_⟩
  have hz3 := s3 _ _ hz2
  have s13 := (s1.trans s2).trans s3
  refine ⟨_, rfl, _, rfl, z2, _, rfl, .inr (SqT.of hz3), rfl, _, rfl, ite2 (fun e => ?_) (fun e => ?_)⟩
  · rw [dint, List.length_map] at e
    have e : leadL (primL (restL Tb r)) = (primL (restL Tb r)).length := by have := of_decide_eq_true e; omega
    have ej : joinL Tb r = Tb := by unfold joinL; rw [if_pos e]
    rw [ej] at q
    exact ⟨_, rfl, q H3 d s13 (hTab.same s13)⟩
  rw [dint, List.length_map] at e
  have e : ¬ leadL (primL (restL Tb r)) = (primL (restL Tb r)).length := fun z => e (decide_eq_true (by rw [z]))
  have hLt : leadL (primL (restL Tb r)) < r.length := by have := leadL_le (primL (restL Tb r)); omega
  have hLk : leadL (primL (restL Tb r)) ∉ keysOf Tb := fun hm => by
    obtain ⟨⟨l, o⟩, m', e'⟩ := List.mem_map.mp hm
    have e' : l = leadL (primL (restL Tb r)) := e'
    obtain ⟨c, hc, ec⟩ := primL_mul (restL Tb r)
    have z := (restL_ok hT rfl).2.2 l o m'
    rw [ec, e'] at z
    exact leadL_at _ (by omega) (mul_zero_or z hc)
  have ej : joinL Tb r = Tb.map (putS (primL (restL Tb r)) (leadL (primL (restL Tb r)))) ++ [(leadL (primL (restL Tb r)), primL (restL Tb r))] := by unfold joinL; rw [if_neg e]
  rw [ej] at q
  clear ej e
  generalize primL (restL Tb r) = R at *
  generalize leadL R = L at *
  obtain ⟨as, hRs, hd⟩ := hTab.same s13
  have hal : as.length = Tb.length := by rw [hRs.len, rows_len]
  have hbn : n + (m + Tb.length * (n + 1)) + 1 ≤ 9000 := hmn
  refine ⟨d, _, hd, True.intro, fun od => ⟨_, rfl, d, od, _, rfl, upd_same, fun D nD => ?_⟩⟩
  refine dc_it walk_items (fun i H' => ∃ bs, Same (upd H3 d (.frz od (.dK (kvsOf Tb as)))) H' ∧ RowsAt H' bs (rowsOf ((Tb.take i).map (putS R L))) ∧ H' D = some (.dK (kvsOf ((Tb.take i).map (putS R L)) bs)))
    ⟨[], same_upd nD, trivial, upd_same⟩ (fun i H' ⟨_, s, _⟩ => s _ _ upd_same) ?_ ?_
  · rintro i x H4 H5 hi ⟨bs, s4, hbs, hD⟩ ⟨T, y1, y2, rfl, nT, rfl, e1, e2⟩
    rw [kvs_len hal] at hi
    obtain ⟨l, o, b, ht, hb, hk⟩ := kvs_get hal hi
    dsimp only at e1 e2
    rw [hk] at e1 e2
    obtain rfl : V.int (l : Int) = y1 := Option.some.inj e1
    obtain rfl : V.ref b = y2 := Option.some.inj e2
    have hmem : (l, o) ∈ Tb := List.mem_of_getElem? ht
    obtain ⟨o', ho', hbt⟩ := hRs.get hb
    have eo : o' = o := by
      unfold rowsOf at ho'
      rw [List.getElem?_map, ht] at ho'
      exact (Option.some.inj ho').symm
    subst eo
    have s5 : Same H4 (upd H4 T (.tup [.int (l : Int), .ref b])) := same_upd nT
    have s35 : Same (upd H3 d (.frz od (.dK (kvsOf Tb as)))) (upd H4 T (.tup [.int (l : Int), .ref b])) := s4.trans s5
    have hb2 := s35 _ _ (lock_keep hd hbt (by intro z; cases z))
    have hz5 := s35 _ _ (lock_keep (od := od) hd hz3 (by intro z; cases z))
    have hlen := hT.len l o' hmem
    have hbl : bs.length = ((Tb.take i).map (putS R L)).length := by rw [hbs.len, rows_len]
    have hnk : l ∉ keysOf ((Tb.take i).map (putS R L)) := fun hm => by
      obtain ⟨y, my, ey⟩ := List.mem_map.mp hm
      obtain ⟨⟨l', o''⟩, mz, ez⟩ := List.mem_map.mp my
      obtain ⟨j, hj, ej⟩ := List.getElem_of_mem mz
      rw [List.length_take] at hj
      have ej2 : Tb[j]? = some (l', o'') := by
        rw [List.getElem_take] at ej
        rw [List.getElem?_eq_getElem (by omega), ej]
      have el : l' = l := by
        rw [← ey, ← ez]
        rfl
      have h1 : (keysOf Tb)[j]? = some l := by unfold keysOf; rw [List.getElem?_map, ej2, ← el]; rfl
      have h2 : (keysOf Tb)[i]? = some l := by unfold keysOf; rw [List.getElem?_map, ht]; rfl
      have := (List.getElem?_inj (List.getElem?_eq_some_iff.mp h1).1 hT.nodup).mp (h1.trans h2.symm)
      omega
    have next : ∀ (H6 : Hp) (c : Addr), Same (upd H4 T (.tup [.int (l : Int), .ref b])) H6 → H6 c = some (.tup ((putS R L (l, o')).2.map V.int)) → ∃ kvs k, V.int (l : Int) = kV k ∧ H6 D = some (.dK kvs) ∧ kvs.length < sizeLine ∧
        ∃ bs, Same (upd H3 d (.frz od (.dK (kvsOf Tb as)))) (upd H6 D (.dK (putK kvs k (.ref c)))) ∧ RowsAt (upd H6 D (.dK (putK kvs k (.ref c)))) bs (rowsOf ((Tb.take (i + 1)).map (putS R L))) ∧
          (upd H6 D (.dK (putK kvs k (.ref c)))) D = some (.dK (kvsOf ((Tb.take (i + 1)).map (putS R L)) bs)) := fun H6 c s6 hc => by
      have hD6 := s6 _ _ (s5 _ _ hD)
      refine ⟨_, Sum.inl (l : Int), rfl, hD6, ?_, bs ++ [c], same_mut (s35.trans s6) nD, ?_, ?_⟩
      · rw [kvs_len hbl, List.length_map, List.length_take]
        exact bigLine (by have := tab_len_le hT; omega)
      · rw [List.take_add_one, ht, List.map_append]
        unfold rowsOf
        rw [List.map_append]
        refine RowsAt.app (by rw [upd_ne (ne_of hc hD6 (by intro z; cases z))]; exact hc) ?_
        exact ((hbs.same (s5.trans s6)).off hD6 (fun _ z => by cases z))
      · rw [upd_same, kvs_put hbl hnk, List.take_add_one, ht, List.map_append]
        show _ = some (HO.dK (kvsOf (List.map (putS R L) (List.take i Tb) ++ [putS R L (l, o')]) (bs ++ [c])))
        rw [show putS R L (l, o') = (l, (putS R L (l, o')).2) from rfl, kvs_app l _ c hbl]
    refine ⟨T, _, rfl, SqT.of upd_same, rfl, _, _, rfl, _, _, rfl, rfl, rfl, _, rfl, ?_⟩
    refine ⟨_, rfl, _, rfl, b, _, _, _, rfl, rfl, SqT.of hb2, atI_co (by omega), rfl, _, rfl, ite2 (fun e => ?_) (fun e => ?_)⟩
    · rw [dint] at e
      have e : co o' L = 0 := of_decide_eq_true e
      refine ⟨_, rfl, next _ b (Same.refl _) ?_⟩
      rw [hb2]
      unfold putS
      rw [if_pos e]
    · rw [dint] at e
      have e : ¬ co o' L = 0 := fun z => e (decide_eq_true z)
      refine ⟨_, rfl, _, rfl, _, rfl, b, z2, L, o', R, n, m + Tb.length * (n + 1), rfl, hb2, hz5, by omega, by omega, by omega, hn l o' hmem, hbP, hbn, fun H6 z6 s6 hz6 => ?_⟩
      refine ⟨z6, _, rfl, .inr hz6, ?_, ((hn l o' hmem).clear (by omega) hbP).mono hbn, fun H7 z7 s7 hz7 => next H7 z7 (s6.trans s7) ?_⟩
      · rw [clearL_len (by omega)]
        omega
      · rw [hz7]
        unfold putS
        rw [if_neg e]
  · rintro H4 ⟨bs, s4, hbs, hD⟩
    rw [kvs_len hal, List.take_length] at hbs hD
    have hdl := s4 _ _ upd_same
    have hbl : bs.length = (Tb.map (putS R L)).length := by rw [hbs.len, rows_len]
    have hD2 := unlock_keep hdl hD (by intro _ _ z; cases z)
    have hbs2 : RowsAt (upd H4 d (.dK (kvsOf Tb as))) bs (rowsOf (Tb.map (putS R L))) := hbs.imp fun b r hb => unlock_keep hdl hb (by intro _ _ z; cases z)
    have s34 : Same H3 (upd H4 d (.dK (kvsOf Tb as))) := same_lock hd s4
    have nDH : H3 D = none := by
      by_cases z : D = d
      · rw [z, upd_same] at nD
        cases nD
      · rwa [upd_ne z] at nD
    have hLk2 : L ∉ keysOf (Tb.map (putS R L)) := fun hm => by
      obtain ⟨y, my, ey⟩ := List.mem_map.mp hm
      obtain ⟨⟨l', o''⟩, mz, ez⟩ := List.mem_map.mp my
      have el : l' = L := by
        rw [← ey, ← ez]
        rfl
      exact hLk (el ▸ List.mem_map_of_mem (f := (·.1)) mz)
    refine ⟨hdl, ?_⟩
    refine ⟨_, rfl, _, rfl, _, rfl, D, _, rfl, DPut.k (k := Sum.inl (L : Int)) hD2 ?_, ?_⟩
    · rw [kvs_len hbl, List.length_map]
      exact bigLine (by have := tab_len_le hT; omega)
    refine ⟨_, rfl, q _ D (s13.trans (same_mut s34 nDH)) ⟨bs ++ [z2], ?_, ?_⟩⟩
    · unfold rowsOf
      rw [List.map_append]
      have hzz := s34 _ _ hz3
      exact RowsAt.app (by rw [upd_ne (ne_of hzz hD2 (by intro z; cases z))]; exact hzz) (hbs2.off hD2 (fun _ z => by cases z))
    · rw [upd_same, kvs_put hbl hLk2, kvs_app L R z2 hbl]
theorem sc_table_of : FnScope ["rows", "width", "row", "table"] ["rows", "width"] (defScope s_table_of) := ⟨rfl, rfl, rfl, by decide +kernel, rfl, by decide +kernel, by decide +kernel⟩
theorem ok_table_of (T : Txt K mg a) : FnOk P w K mg base CX0 6 a.f_table_of a.f_table_of_d ["rows", "width"] spTab := by
  refine T.F_table_of.ok sc_table_of (fun vs H Q E h => ?_) (fun cdv A outer s H vs Q E hr h => ?_)
  · obtain ⟨p, wd, as, rows, m, rfl, _⟩ := h
    rfl
  obtain ⟨p, wd, as, rows, m, rfl, hp, hRs, hr', hw1, hn1, hbits, q⟩ := h
  have hal := hRs.len
  refine ⟨_, (pss_cons (ps_for PassesOwn.never rfl (pi_list (pv 0)) (pg_name (i := 2) sc_table_of.nd rfl (Or.inl rfl))
      (pss_one (ps_if (pt_not (pt_val (pe_call (ok_is_row T) (hr.mono (by decide)) (by rfl) T.g_is_row T.F_is_row.kp T.b_is_row .nil pass0 (pa_cons (pv 2) (pa_cons (pv 1) pa_nil)))))
        (pss_one ps_never)
        pss_nil)))
    (pss_cons (ps_set (i := 3) sc_table_of.nd rfl (Or.inl rfl) pe_dnewK)
    (pss_cons (ps_for PassesOwn.never rfl (pi_list (pv 0)) (pg_name (i := 2) sc_table_of.nd rfl (Or.inl rfl))
      (pss_one (ps_set (i := 3) sc_table_of.nd rfl (Or.inl rfl) (pe_call (ok_joined T) (hr.mono (by decide)) (by rfl) T.g_joined T.F_joined.kp T.b_joined .nil pass0 (pa_cons (pv 3) (pa_cons (pv 2) pa_nil))))))
    (pss_one (ps_ret (pv 3)))))), ?_⟩
  refine ⟨_, rfl, p, rfl, ⟨_, SqL.of hp⟩, for_it (walk_list (K := K) (a := p) (xs := as.map V.ref)) (fun i σ H' => ∃ v2, σ = [some (.ref p), some (.int (wd : Nat)), v2, none] ∧ Same H H') ⟨none, rfl, Same.refl _⟩ (fun i σ H' _ ⟨_, _, s1⟩ => SqL.of (s1 _ _ hp)) ?_ ?_⟩
  · rintro i x σ H1 H2 hi ⟨v2, rfl, s1⟩ ⟨rfl, hx⟩
    obtain ⟨b, hb, rfl⟩ := get_map hx
    obtain ⟨r, hrr, hbt⟩ := hRs.get hb
    obtain ⟨hrl, hrb⟩ := hr' r (List.mem_of_getElem? hrr)
    refine ⟨_, rfl, _, rfl, b, r, by rw [hrl]; rfl, s1 _ _ hbt, by omega, fun H3 s3 => ⟨_, rfl, iteF ?_⟩⟩
    exact ⟨_, rfl, s1.trans s3⟩
  rintro σ H1 ⟨v2, rfl, s1⟩
  intro d0 hd0
  have sd := same_upd (o := .dK []) hd0
  refine ⟨_, rfl, p, rfl, ⟨_, SqL.of (sd _ _ (s1 _ _ hp))⟩, for_it (walk_list (K := K) (a := p) (xs := as.map V.ref)) (fun i σ H' => ∃ v2 d, σ = [some (.ref p), some (.int (wd : Nat)), v2, some (.ref d)] ∧ Same H H' ∧ TabAt H' d (tabL (rows.take i)))
    ⟨v2, d0, rfl, s1.trans sd, [], trivial, upd_same⟩ (fun i σ H' _ ⟨_, _, _, s1, _⟩ => SqL.of (s1 _ _ hp)) ?_ ?_⟩
  · rintro i x σ H1 H2 hi ⟨v2, d, rfl, s1, ht⟩ ⟨rfl, hx⟩
    obtain ⟨b, hb, rfl⟩ := get_map hx
    obtain ⟨r, hrr, hbt⟩ := hRs.get hb
    obtain ⟨hrl, hrb⟩ := hr' r (List.mem_of_getElem? hrr)
    have hpre : ∀ x ∈ rows.take i, x.length = wd ∧ Bd m x := fun x hx => hr' x (List.mem_of_mem_take hx)
    have hT := (tab_ok (w := wd) fun x hx => (hpre x hx).1).1
    have hBt : Bits m (tabL (rows.take i)) := tabF_bits (w := wd) _ _ (.nil wd) (.nil m) hpre
    have hil : i < rows.length := (List.getElem?_eq_some_iff.mp hrr).1
    have hle : (tabL (rows.take i)).length ≤ i := by
      have h := tab_len_n (rows.take i) []
      rw [List.length_take] at h
      have h : (tabL (rows.take i)).length ≤ 0 + min i rows.length := h
      omega
    have hbb : bits m ((tabL (rows.take i)).length + 1) ≤ 9000 := Nat.le_trans (bits_mono m (by omega)) hbits
    refine ⟨_, rfl, _, rfl, d, b, tabL (rows.take i), r, m, bits m (tabL (rows.take i)).length, rfl, ht, hrl ▸ hT, s1 _ _ hbt, hBt, by omega, hrb, hbb, fun H3 z3 s3 hz3 => ⟨_, z3, rfl, s1.trans s3, ?_⟩⟩
    rw [tabL_succ hrr]
    exact hz3
  · rintro σ H1 ⟨v2, d, rfl, s1, ht⟩
    rw [List.length_map, hal, List.take_length] at ht
    exact ⟨_, rfl, q H1 d s1 ht⟩
end
end K42
namespace K42
open PySem PySem.Spec PyProof.Rows L2 LA
theorem ixN_at {n j : Nat} (hj : j < n) : ixN n (j : Int) = some j := by
  unfold ixN
  rw [if_pos (by omega), if_pos (by omega)]
  exact congrArg some (by omega)
theorem lock_mono {H H' : Hp} {d : Addr} {x : HO} (s : Same H H') : Same (upd H d x) (upd H' d x) := fun b y e => by
  by_cases z : b = d
  · subst z
    rw [upd_same] at e ⊢
    exact e
  · rw [upd_ne z] at e ⊢
    exact s b y e
theorem zeros (n : Nat) : (List.replicate n [V.int 0]).flatten = (List.replicate n (0 : Int)).map V.int := by
  induction n with
  | zero => rfl
  | succ n ih =>
    rw [List.replicate_succ, List.flatten_cons, ih]
    rfl
theorem map_set {r : List Int} {i : Nat} {x : Int} : (r.map V.int).set i (.int x) = (r.set i x).map V.int := by rw [List.map_set]
def spKRow : Sp := fun vs H Q _ => ∃ (d : Addr) (f wd : Nat) (T : List (Nat × List Int)) (b : Nat), vs = [.ref d, .int (f : Nat), .int (wd : Nat)] ∧ TabAt H d T ∧ Tab wd T ∧ (∀ l r, (l, r) ∈ T → Bd b r) ∧ wd ≤ 1000 ∧ f < wd ∧ f ∉ keysOf T ∧ b + T.length * b + 1 ≤ 8999 ∧
  ∀ H' z, Same H H' → H' z = some (.tup ((kernelL T f wd).map V.int)) → Q (.ref z) H'
def spKernel : Sp := fun vs H Q _ => ∃ (p : Addr) (wd : Nat) (as : List Addr) (rows : List (List Int)) (m : Nat), vs = [.ref p, .int (wd : Nat)] ∧ H p = some (.lst (as.map V.ref)) ∧ RowsAt H as rows ∧ (∀ r ∈ rows, r.length = wd ∧ Bd m r) ∧ wd ≤ 1000 ∧ rows.length ≤ 1000 ∧
  bits m rows.length ≤ 9000 ∧ bits m (tabL rows).length + (tabL rows).length * bits m (tabL rows).length + 1 ≤ 8999 ∧
  ∀ H' L bs, Same H H' → H L = none → H' L = some (.lst (bs.map V.ref)) → RowsAt H' bs ((freesOf wd (tabL rows)).map fun f => kernelL (tabL rows) f wd) → Q (.ref L) H'
section
variable {P : Program} {w : World} {K : PySem.W.Frag} {mg : Str → Option Value} {base : Heap} {a : Ads}
theorem sc_kernel_row : FnScope ["table", "free", "width", "scale", "numbers", "lead", "row"] ["table", "free", "width"] (defScope s_kernel_row) := ⟨rfl, rfl, rfl, by decide +kernel, rfl, by decide +kernel, by decide +kernel⟩
theorem ok_kernel_row (T : Txt K mg a) : FnOk P w K mg base CX0 3 a.f_kernel_row a.f_kernel_row_d ["table", "free", "width"] spKRow := by
  refine T.F_kernel_row.ok sc_kernel_row (fun vs H Q E h => ?_) (fun cdv A outer s H vs Q E hr h => ?_)
  · obtain ⟨d, f, wd, T, b, rfl, _⟩ := h
    rfl
  obtain ⟨d, f, wd, Tb, bb, rfl, ⟨as, hRs, hd⟩, hT, hb, hw1, hf, hk, hbb, q⟩ := h
  have hal : as.length = Tb.length := by rw [hRs.len, rows_len]
  have smallT : ∀ {c : Nat}, c ≤ Tb.length → c * bb ≤ Tb.length * bb := fun hc => Nat.mul_le_mul_right _ hc
  have pair : ∀ {i : Nat} {H1 : Hp} {od : Obj} {x : V} {H2 : Hp}, i < (kvsOf Tb as).length → Same (upd H d (.frz od (.dK (kvsOf Tb as)))) H1 → YPair (fun i => (kvsOf Tb as)[i]?.map fun kv => kV kv.1) (fun i => (kvsOf Tb as)[i]?.map Prod.snd) i H1 x H2 →
      ∃ (T b : Addr) (l : Nat) (r : List Int), x = .ref T ∧ H2 T = some (.tup [.int (l : Int), .ref b]) ∧ Tb[i]? = some (l, r) ∧ H2 b = some (.tup (r.map V.int)) ∧ Same H1 H2 := fun {i H1 od x H2} hi s1 ⟨T, y1, y2, ex, nT, eH, e1, e2⟩ => by
    subst ex eH
    rw [kvs_len hal] at hi
    obtain ⟨l, o, b, ht, hb, hk⟩ := kvs_get hal hi
    dsimp only at e1 e2
    rw [hk] at e1 e2
    obtain rfl : V.int (l : Int) = y1 := Option.some.inj e1
    obtain rfl : V.ref b = y2 := Option.some.inj e2
    obtain ⟨o', ho', hbt⟩ := hRs.get hb
    have eo : o' = o := by
      unfold rowsOf at ho'
      rw [List.getElem?_map, ht] at ho'
      exact (Option.some.inj ho').symm
    subst eo
    exact ⟨T, b, l, o', rfl, upd_same, ht, same_upd nT _ _ (s1 _ _ (lock_keep hd hbt (by intro z; cases z))), same_upd nT⟩
  have scale_lt : ∀ i, ((Tb.take i).foldl scaleS 1) < 2 ^ (Tb.length * bb + 1) := fun i => by
    have := scaleF_le bb (Tb.take i) (fun l r m => hb l r (List.mem_of_mem_take m)) 1 0 (by decide)
    refine Nat.lt_of_le_of_lt this (Nat.pow_lt_pow_right (by decide) ?_)
    have := smallT (c := (Tb.take i).length) (by rw [List.length_take]; omega)
    omega
  have room : ∀ {x n : Nat}, x < 2 ^ n → n ≤ 9000 → x < 2 ^ 9000 := fun hx hn => Nat.lt_of_lt_of_le hx (Nat.pow_le_pow_right (by decide) hn)
  have hbT : ∀ {l r}, (l, r) ∈ Tb → bb ≤ Tb.length * bb := fun {l r} m => by
    have : 1 ≤ Tb.length := List.length_pos_of_mem m
    have := Nat.mul_le_mul_right bb this
    omega
  refine ⟨_, (pss_cons (ps_set (i := 3) sc_kernel_row.nd rfl (Or.inl rfl) pe_int)
    (pss_cons (ps_lock (ps_for PassesOwn.never rfl (pi_items (pv 0)) (pg_tup (by rfl) (pgs_cons (pg_name (i := 5) sc_kernel_row.nd rfl (Or.inl rfl)) (pgs_cons (pg_name (i := 6) sc_kernel_row.nd rfl (Or.inl rfl)) pgs_nil)))
      (pss_one (ps_set (i := 3) sc_kernel_row.nd rfl (Or.inl rfl) (pe_callBfun EnT.cr_lcm (by rfl) T.g_lcm (pa_cons (pv 3) (pa_cons (pe_ix ix_tup (pv 6) (pv 5) (fun _ _ => rfl)) pa_nil)))))))
    (pss_cons (ps_set (i := 4) sc_kernel_row.nd rfl (Or.inl rfl) (pe_op op_rep (pe_lst (pa_cons pe_int pa_nil)) (pv 2)))
    (pss_cons (ps_asg (pv 3) (pg_sub (pv 4) (pv 1) set_list))
    (pss_cons (ps_lock (ps_for PassesOwn.never rfl (pi_items (pv 0)) (pg_tup (by rfl) (pgs_cons (pg_name (i := 5) sc_kernel_row.nd rfl (Or.inl rfl)) (pgs_cons (pg_name (i := 6) sc_kernel_row.nd rfl (Or.inl rfl)) pgs_nil)))
      (pss_one (ps_asg (pe_op EnT.op_fdivB (pe_op op_mulW (pe_un un_neg (pe_ix ix_tup (pv 6) (pv 1) (fun _ _ => rfl))) (pv 3)) (pe_ix ix_tup (pv 6) (pv 5) (fun _ _ => rfl))) (pg_sub (pv 4) (pv 5) set_list)))))
    (pss_one (ps_ret (pe_call (ok_primitive T) (hr.mono (by decide)) (by rfl) T.g_primitive T.F_primitive.kp T.b_primitive .nil pass0 (pa_cons (pv 4) pa_nil))))))))), ?_⟩
  refine ⟨d, _, hd, True.intro, fun od => ⟨_, rfl, d, od, _, rfl, upd_same, ?_⟩⟩
  refine for_it walk_items (fun i σ H' => ∃ v5 v6, σ = [some (.ref d), some (.int (f : Nat)), some (.int (wd : Nat)), some (.int (((Tb.take i).foldl scaleS 1 : Nat) : Int)), none, v5, v6] ∧ Same (upd H d (.frz od (.dK (kvsOf Tb as)))) H')
    ⟨none, none, rfl, Same.refl _⟩ (fun i σ H' _ ⟨_, _, _, s1⟩ => s1 _ _ upd_same) ?_ ?_
  · rintro i x σ H1 H2 hi ⟨v5, v6, rfl, s1⟩ y
    obtain ⟨T, b, l, r, rfl, hT2, ht, hb2, s2⟩ := pair hi s1 y
    have hm : (l, r) ∈ Tb := List.mem_of_getElem? ht
    have hlr : l < r.length := by rw [hT.len l r hm]; exact hT.lt hm
    have hbl := hb l r hm l
    have hbT' := hbT hm
    refine ⟨T, _, rfl, SqT.of hT2, rfl, _, _, rfl, _, _, rfl, rfl, ?_⟩
    refine ⟨_, rfl, _, rfl, _, rfl, b, _, _, _, rfl, rfl, SqT.of hb2, atI_co hlr, _, _, rfl, room (scale_lt i) (by omega), room hbl (by omega), ?_⟩
    refine ⟨some (.int (l : Int)), some (.ref b), ?_, s1.trans s2⟩
    rw [List.take_add_one, ht, List.foldl_append]
    rfl
  rintro σ H1 ⟨v5, v6, rfl, s1⟩
  rw [kvs_len hal, List.take_length]
  have hdl := s1 _ _ upd_same
  have sH := same_lock hd s1
  refine ⟨hdl, ?_⟩
  generalize upd H1 d (HO.dK (kvsOf Tb as)) = H2 at sH ⊢
  clear s1 hdl H1
  refine ⟨(by show 1 ≤ sizeLine; decide), fun l0 nl0 => ⟨_, rfl, l0, _, _, rfl, rfl, upd_same, by omega, by omega, ?_, fun N nN => ?_⟩⟩
  · rw [Int.toNat_natCast]
    exact bigLe (by show 1 * wd ≤ 1000000; omega)
  rw [Int.toNat_natCast, zeros]
  have s3 := sH.trans (same_upd (o := .lst [.int 0]) nl0)
  have nNH : H N = none := s3.free nN
  have s4 : Same H (upd (upd H2 l0 (.lst [.int 0])) N (.lst ((List.replicate wd (0 : Int)).map V.int))) := s3.trans (same_upd nN)
  have hN4 : (upd (upd H2 l0 (.lst [.int 0])) N (.lst ((List.replicate wd (0 : Int)).map V.int))) N = some (.lst ((List.replicate wd (0 : Int)).map V.int)) := upd_same
  generalize (upd (upd H2 l0 (.lst [.int 0])) N (.lst ((List.replicate wd (0 : Int)).map V.int))) = H4 at s4 hN4 ⊢
  clear s3 nN nl0 sH H2
  dsimp only [gName]
  refine ⟨_, rfl, _, rfl, _, rfl, N, _, _, f, rfl, rfl, hN4, ixN_at (by rw [List.length_map, List.length_replicate]; exact hf), ?_⟩
  rw [map_set]
  have s5 : Same H (upd H4 N (.lst (((List.replicate wd (0 : Int)).set f (scaleL Tb : Nat)).map V.int))) := same_mut s4 nNH
  have hN5 : (upd H4 N (.lst (((List.replicate wd (0 : Int)).set f (scaleL Tb : Nat)).map V.int))) N = some (.lst (((List.replicate wd (0 : Int)).set f (scaleL Tb : Nat)).map V.int)) := upd_same
  show tSeq _ _ _ _ (upd H4 N (.lst (((List.replicate wd (0 : Int)).set f (scaleL Tb : Nat)).map V.int)))
  generalize (upd H4 N (.lst (((List.replicate wd (0 : Int)).set f (scaleL Tb : Nat)).map V.int))) = H5 at s5 hN5 ⊢
  clear s4 hN4 H4
  have hd5 := s5 _ _ hd
  have hNd : N ≠ d := (ne_of_none hd nNH).symm
  refine ⟨d, _, hd5, True.intro, fun od2 => ⟨_, rfl, d, od2, _, rfl, upd_same, ?_⟩⟩
  refine for_it walk_items (fun i σ H' => ∃ v5 v6, σ = [some (.ref d), some (.int (f : Nat)), some (.int (wd : Nat)), some (.int ((scaleL Tb : Nat) : Int)), some (.ref N), v5, v6] ∧ Same (upd H d (.frz od2 (.dK (kvsOf Tb as)))) H' ∧
      H' N = some (.lst (((Tb.take i).foldl (numS f (scaleL Tb)) ((List.replicate wd 0).set f (scaleL Tb))).map V.int)))
    ⟨v5, v6, rfl, lock_mono s5, by rw [upd_ne hNd]; exact hN5⟩ (fun i σ H' _ ⟨_, _, _, s1, _⟩ => s1 _ _ upd_same) ?_ ?_
  · rintro i x σ H1 H2 hi ⟨v5, v6, rfl, s1, hN1⟩ y
    obtain ⟨T, b, l, r, rfl, hT2, ht, hb2, s2⟩ := pair hi s1 y
    have hm : (l, r) ∈ Tb := List.mem_of_getElem? ht
    have hlr : l < r.length := by rw [hT.len l r hm]; exact hT.lt hm
    have hbl := hb l r hm l
    have hbT' := hbT hm
    have hfr : f < r.length := by rw [hT.len l r hm]; exact hf
    have hsl : scaleL Tb < 2 ^ (Tb.length * bb + 1) := by have := scale_lt Tb.length; rwa [List.take_length] at this
    have nNL : (upd H d (.frz od2 (.dK (kvsOf Tb as)))) N = none := by rw [upd_ne hNd]; exact nNH
    refine ⟨T, _, rfl, SqT.of hT2, rfl, _, _, rfl, _, _, rfl, rfl, ?_⟩
    refine ⟨_, rfl, _, rfl, b, _, _, _, rfl, rfl, SqT.of hb2, atI_co hfr, _, rfl, _, rfl, _, _, rfl, rfl, mulOk (m := bb) (n := Tb.length * bb + 1) (by rw [Int.natAbs_neg]; exact hb l r hm f) hsl (by omega), ?_⟩
    refine ⟨_, rfl, _, rfl, b, _, _, _, rfl, rfl, SqT.of hb2, atI_co hlr, _, _, rfl, rfl, ⟨(hT.lead l r hm).1, room hbl (by omega)⟩, ?_⟩
    refine ⟨_, rfl, _, rfl, N, _, _, l, rfl, rfl, s2 _ _ hN1, ixN_at ?_, ?_⟩
    · rw [List.length_map, numsF_len, List.length_set, List.length_replicate, ← hT.len l r hm]
      exact hlr
    refine ⟨some (.int (l : Int)), some (.ref b), rfl, same_mut (s1.trans s2) nNL, ?_⟩
    rw [upd_same, map_set, List.take_add_one, ht, List.foldl_append]
    rfl
  · rintro σ H1 ⟨v5, v6, rfl, s1, hN1⟩
    rw [kvs_len hal, List.take_length] at hN1
    have hdl := s1 _ _ upd_same
    have hN2 := unlock_keep hdl hN1 (by intro _ _ z; cases z)
    have s6 : Same H (upd H1 d (.dK (kvsOf Tb as))) := same_lock hd s1
    refine ⟨hdl, ?_⟩
    exact ⟨_, rfl, N, numsL Tb f wd, rfl, .inl hN2, by rw [numsL_len]; exact hw1, (kernelL_bd hT hb hf hk).mono (by omega), fun H3 z3 s3 hz3 => q H3 z3 (s6.trans s3) hz3⟩
theorem sc_kernel : FnScope ["rows", "width", "table", "at"] ["rows", "width"] (defScope s_kernel) := ⟨rfl, rfl, rfl, by decide +kernel, rfl, by decide +kernel, by decide +kernel⟩
theorem ok_kernel (T : Txt K mg a) : FnOk P w K mg base CX0 7 a.f_kernel a.f_kernel_d ["rows", "width"] spKernel := by
  refine T.F_kernel.ok sc_kernel (fun vs H Q E h => ?_) (fun cdv A outer s H vs Q E hr h => ?_)
  · obtain ⟨p, wd, as, rows, m, rfl, _⟩ := h
    rfl
  obtain ⟨p, wd, as, rows, m, rfl, hp, hRs, hr', hw1, hn1, hbits, hkb, q⟩ := h
  have hT := (tab_ok (w := wd) fun x hx => (hr' x hx).1).1
  have hBt : Bits m (tabL rows) := tabF_bits (w := wd) _ _ (.nil wd) (.nil m) hr'
  refine ⟨_, (pss_cons (ps_set (i := 2) sc_kernel.nd rfl (Or.inr rfl) (pe_call (ok_table_of T) (hr.mono (by decide)) (by rfl) T.g_table_of T.F_table_of.kp T.b_table_of .nil pass0 (pa_cons (pv 0) (pa_cons (pv 1) pa_nil))))
    (pss_one (ps_ret (pe_lc (own := [("at", 3)]) (g := gName 3) (tt := _) (by rfl) sc_kernel.nd (pi_range1 (by rfl) T.range (pa_cons (pv 1) pa_nil)) (blkOk_by (own := [("at", 3)]) (N := ["rows", "width", "table", "at"]) (sc := defScope s_kernel) (by decide +kernel)) (fun _ _ _ _ _ => pg_name (i := 3) sc_kernel.nd rfl (Or.inl rfl)) (fun _ _ _ _ _ => (pts_one (pt_cmp (pc_dnotin (hu_of hr) (pv 3) (pv 2))))) (fun _ _ _ _ _ => (pe_call (ok_kernel_row T) (hr.mono (by decide)) (by rfl) T.g_kernel_row T.F_kernel_row.kp T.b_kernel_row .nil pass0 (pa_cons (pv 2) (pa_cons (pv 3) (pa_cons (pv 1) pa_nil))))))))), ?_⟩
  refine ⟨_, rfl, _, rfl, p, wd, as, rows, m, rfl, hp, hRs, hr', hw1, hn1, hbits, fun H1 d s1 ht1 => ?_⟩
  refine ⟨_, rfl, _, rfl, by omega, by omega, fun D hD => ?_⟩
  refine lc_range (lo := 0) (n := ((wd : Nat) : Int).toNat) (fun i H' => ∃ bs, Same H1 H' ∧ RowsAt H' bs (((List.range i).filter fun p => !decide (p ∈ keysOf (tabL rows))).map fun f => kernelL (tabL rows) f wd) ∧ H' D = some (.lst (bs.map V.ref)))
    ⟨[], same_upd hD, trivial, upd_same⟩ ?_ ?_
  · rintro i H2 hi ⟨bs, s2, hbs, hD2⟩
    have hi : i < wd := by omega
    obtain ⟨as2, hRs2, hd2⟩ := ht1.same s2
    have hal2 : as2.length = (tabL rows).length := by rw [hRs2.len, rows_len]
    have dg : DGet H2 d (.int ((0 : Int) + (i : Nat))) (valV (kvsOf (tabL rows) as2) (Sum.inl (i : Int))) := by
      rw [Int.zero_add]
      exact DGet.k (k := Sum.inl (i : Int)) hd2
    refine ⟨rfl, _, rfl, _, rfl, d, _, rfl, dg, _, rfl, ?_⟩
    rw [kvs_val i hal2]
    have ef : (List.range (i + 1)).filter (fun p => !decide (p ∈ keysOf (tabL rows))) = (List.range i).filter (fun p => !decide (p ∈ keysOf (tabL rows))) ++ if (!decide (i ∈ keysOf (tabL rows))) = true then [i] else [] := by
      rw [List.range_succ, List.filter_append]
      congr 1
      rw [List.filter_cons]
      rfl
    refine ite2 (fun e => ?_) (fun e => ?_)
    · have hk : i ∉ keysOf (tabL rows) := by simpa using e
      refine ⟨_, rfl, _, rfl, _, rfl, d, i, wd, tabL rows, bits m (tabL rows).length, ?_, ⟨as2, hRs2, hd2⟩, hT, hBt, hw1, hi, hk, hkb, fun H3 z3 s3 hz3 => ?_⟩
      · rw [Int.zero_add]
        rfl
      refine ⟨_, s3 _ _ hD2, ?_, bs ++ [z3], same_mut (s2.trans s3) hD, ?_, ?_⟩
      · rw [List.length_map, hbs.len, List.length_map]
        refine bigLine ?_
        have := List.length_filter_le (fun p => !decide (p ∈ keysOf (tabL rows))) (List.range i)
        rw [List.length_range] at this
        omega
      · rw [ef, if_pos e, List.map_append]
        have hD3 := s3 _ _ hD2
        exact RowsAt.app (by rw [upd_ne (ne_of hz3 hD3 (by intro z; cases z))]; exact hz3) ((hbs.same s3).off hD3 (fun _ z => by cases z))
      · rw [upd_same, List.map_append]
        rfl
    · refine ⟨bs, s2, ?_, hD2⟩
      rw [ef, if_neg e, List.append_nil]
      exact hbs
  · rintro H2 ⟨bs, s2, hbs, hD2⟩
    rw [Int.toNat_natCast] at hbs
    exact q H2 D bs (s1.trans s2) (s1.free hD) hD2 hbs
end
end K42
namespace K42
open PySem PySem.Spec PyProof.Rows L2 LA
/-! ### rows as data -/
def dRow (r : List Int) : PyData := .tuple (r.map PyData.int)
def dRows (rs : List (List Int)) : PyData := .list (rs.map dRow)
theorem lay_ints : ∀ r : List Int, PyData.canLayAll0 (r.map PyData.int) = true
  | [] => by simp only [List.map_nil, PyData.canLayAll0]
  | x :: xs => by simp only [List.map_cons, PyData.canLayAll0, PyData.canLay0, lay_ints xs, Bool.and_self]
theorem lay_rows : ∀ rs : List (List Int), PyData.canLayAll0 (rs.map dRow) = true
  | [] => by simp only [List.map_nil, PyData.canLayAll0]
  | x :: xs => by simp only [List.map_cons, PyData.canLayAll0, dRow, PyData.canLay0, lay_ints x, lay_rows xs, Bool.and_self]
theorem depth_ints : ∀ r : List Int, PyData.depthAll (r.map PyData.int) = 0
  | [] => by simp only [List.map_nil, PyData.depthAll]
  | x :: xs => by simp only [List.map_cons, PyData.depthAll, PyData.depth, depth_ints xs, Nat.max_self]
theorem depth_rows : ∀ rs : List (List Int), PyData.depthAll (rs.map dRow) ≤ 1
  | [] => by simp only [List.map_nil, PyData.depthAll]; omega
  | x :: xs => by
    have := depth_rows xs
    simp only [List.map_cons, PyData.depthAll, dRow, PyData.depth, depth_ints x]
    omega
theorem shaped_rows (rs : List (List Int)) : SeqAt.shaped (dRows rs) = true := by
  unfold SeqAt.shaped dRows
  have h1 := depth_rows rs
  have h2 : PyData.depth (.list (rs.map dRow)) ≤ 64 := by simp only [PyData.depth]; omega
  rw [decide_eq_true h2, Bool.and_true]
  simp only [PyData.canLay0]
  exact lay_rows rs
theorem shaped_ints (r : List Int) : SeqAt.shaped (.list (r.map PyData.int)) = true := by
  unfold SeqAt.shaped
  have h2 : PyData.depth (.list (r.map PyData.int)) ≤ 64 := by simp only [PyData.depth, depth_ints]; omega
  rw [decide_eq_true h2, Bool.and_true]
  simp only [PyData.canLay0]
  exact lay_ints r
theorem dp_ints {K : PySem.W.Frag} {H : Hp} : ∀ r : List Int, DpAll K H (r.map V.int) (r.map PyData.int)
  | [] => .nil
  | x :: xs => .cons (.int x) (dp_ints xs)
theorem dp_rows {K : PySem.W.Frag} {H : Hp} : ∀ {as : List Addr} {rs : List (List Int)}, RowsAt H as rs → DpAll K H (as.map V.ref) (rs.map dRow)
  | [], [], _ => .nil
  | _ :: _, _ :: _, h => .cons (.tup (SqT.of h.1) (dp_ints _)) (dp_rows h.2)
  | [], _ :: _, h => h.elim
  | _ :: _, [], h => h.elim
theorem eqv_nil (ds : List PyData) : PyData.eqv (.list ds) (.list []) = ds.isEmpty := by
  cases ds with
  | nil => simp only [PyData.eqv, PyData.eqvAll, List.isEmpty_nil]
  | cons x xs => simp only [PyData.eqv, PyData.eqvAll, List.isEmpty_cons]
/-! ### the law's pool -/
def PoolAt (H : Hp) (q : Addr) : Prop := ∃ h s : Int, H q = some (.lst [.int h, .int s]) ∧ 0 ≤ h ∧ 0 ≤ s ∧ s < 2147483647
theorem PoolAt.same {H H' : Hp} {q : Addr} (s : Same H H') (h : PoolAt H q) : PoolAt H' q := by
  obtain ⟨x, y, a, b⟩ := h
  exact ⟨x, y, s _ _ a, b⟩
def spPool (K : PySem.W.Frag) : Sp := fun vs H Q _ => ∃ (p : Addr) (k : Nat) (ns : List Int), vs = [.ref p, .int (k : Nat)] ∧ SqL K H p (ns.map V.int) ∧ k ≤ 63 ∧ ns.length ≤ 63 ∧ ∀ H' q, Same H H' → H q = none → PoolAt H' q → Q (.ref q) H'
def spTake : Sp := fun vs H Q _ => ∃ (p : Addr) (m : Int), vs = [.ref p, .int m] ∧ PoolAt H p ∧ 0 < m ∧ m < 1000 ∧ ∀ (r : Int) (H' : Hp), 0 ≤ r → r < m → PoolAt H' p → (∀ b, b ≠ p → H' b = H b) → Q (.int r) H'
def spThin : Sp := fun vs H Q _ => ∃ (p : Addr) (r : List Int), vs = [.ref p] ∧ H p = some (.lst (r.map V.int)) ∧ r.length ≤ 1000 ∧ Bd 9000 r ∧ ∀ H' q, Same H H' → (q = p ∨ H q = none) → H' q = some (.lst ((thinL r).map V.int)) → Q (.ref q) H'
theorem while_ans {c : TT} {tb : TS} {D : Ends} {σ : L2.St} {H : Hp} (Pv : Nat → L2.St → Hp → Prop) (m : Nat) (start : Pv m σ H)
    (turn : ∀ m σ H, Pv m σ H → ∃ b, Ans c σ H b ∧ (b = true → tb { D with nx := fun σ' H' => ∃ m', m' < m ∧ Pv m' σ' H', ct := fun σ' H' => ∃ m', m' < m ∧ Pv m' σ' H', bk := D.nx } σ H) ∧ (b = false → D.nx σ H)) : tWhile c tb D σ H := by
  refine ⟨Pv, ⟨m, start⟩, fun m σ H p => ?_⟩
  obtain ⟨b, ha, ht, hf⟩ := turn m σ H p
  refine ha _ ?_
  cases b with
  | true => exact ⟨_, fun σ' H' h => h, ht rfl⟩
  | false => exact hf rfl
section
variable {P : Program} {w : World} {K : PySem.W.Frag} {mg : Str → Option Value} {base : Heap} {a : Ads}
theorem sc__law_pool : FnScope ["_law_script", "_law_k", "_law_cell", "_law_heavy", "_law_blend", "_law_seed"] ["_law_script", "_law_k"] (defScope s__law_pool) := ⟨rfl, rfl, rfl, by decide +kernel, rfl, by decide +kernel, by decide +kernel⟩
theorem ok__law_pool (T : Txt K mg a) : FnOk P w K mg base CX0 1 a.f__law_pool a.f__law_pool_d ["_law_script", "_law_k"] (spPool K) := by
  refine T.F__law_pool.ok sc__law_pool (fun vs H Q E h => ?_) (fun cdv A outer s H vs Q E hr h => ?_)
  · obtain ⟨p, k, ns, rfl, _⟩ := h
    rfl
  obtain ⟨p, k, ns, rfl, hS, hk, hn, q⟩ := h
  refine ⟨_, (pss_cons (ps_set (i := 2) sc__law_pool.nd rfl (Or.inl rfl) pe_int)
    (pss_cons (ps_if (pt_cmpR op_lt (pv 1) (pe_callB call_len_seq (by rfl) T.len PySem.boot_len (pa_cons (pv 0) pa_nil)) (nomark _))
      (pss_one (ps_set (i := 2) sc__law_pool.nd rfl (Or.inl rfl) (pe_ix ix_list (pv 0) (pv 1) (fun _ _ => rfl))))
      pss_nil)
    (pss_cons (ps_set (i := 3) sc__law_pool.nd rfl (Or.inl rfl) (pe_callB call_abs (by rfl) T.abs (by decide +kernel) (pa_cons (pv 2) pa_nil)))
    (pss_cons (ps_set (i := 4) sc__law_pool.nd rfl (Or.inl rfl) (pe_op op_mod (pe_op op_mul (pe_callTy call_int1 (by rfl) T.int (by decide +kernel) (pa_cons (pe_op op_add (pe_op op_mod (pe_callTy call_int1 (by rfl) T.int (by decide +kernel) (pa_cons (pv 2) pa_nil)) pe_int) (pe_op op_mul pe_int (pe_op op_add (pv 1) pe_int))) pa_nil)) (pe_op op_add (pv 1) pe_int)) pe_int))
    (pss_cons (ps_set (i := 5) sc__law_pool.nd rfl (Or.inl rfl) (pe_op op_mod (pe_op op_mul (pe_op op_mod (pe_callTy call_int1 (by rfl) T.int (by decide +kernel) (pa_cons (pe_op op_mul (pv 4) (pv 4)) pa_nil)) pe_int) pe_int) pe_int))
    (pss_one (ps_ret (pe_lst (pa_cons (pe_op op_mul (pv 3) (pe_callTy call_int1 (by rfl) T.int (by decide +kernel) (pa_cons (pe_cmpR op_ge (pv 3) (pe_op op_pow pe_int pe_int) (nomark _)) pa_nil))) (pa_cons (pv 5) pa_nil)))))))))), ?_⟩
  have one : ∀ b : Bool, -(2 ^ 64) < (if b = true then (1 : Int) else 0) ∧ (if b = true then (1 : Int) else 0) < 2 ^ 64 ∧ 0 ≤ (if b = true then (1 : Int) else 0) := by decide
  have mod0 : ∀ x : Int, 0 ≤ x % 2147483629 ∧ x % 2147483629 < 2147483629 := fun x => ⟨Int.emod_nonneg _ (by decide), Int.emod_lt_of_pos _ (by decide)⟩
  have mod1 : ∀ x : Int, 0 ≤ x % 2147483647 ∧ x % 2147483647 < 2147483647 := fun x => ⟨Int.emod_nonneg _ (by decide), Int.emod_lt_of_pos _ (by decide)⟩
  refine ⟨_, rfl, _, rfl, p, _, rfl, .inl hS, _, _, rfl, rfl, _, rfl, ite2 (fun e => ?yes) (fun e => ?no)⟩
  case' yes =>
    have hk2 : k < ns.length := by
      have := of_decide_eq_true e
      rw [List.length_map] at this
      omega
    refine ⟨_, rfl, _, rfl, p, _, _, _, rfl, rfl, hS, atI_co hk2, ?_⟩
  all_goals
    refine ⟨_, rfl, _, rfl, ?_⟩
    refine ⟨_, rfl, .inl ⟨_, rfl, _, _, rfl, rfl, (by show (0 : Int) < 2147483629; decide), _, rfl, _, _, rfl, rfl, _, _, rfl, rfl, .inl ⟨by decide, by decide⟩, _, _, rfl, rfl, .inl ⟨_, rfl, ?_⟩⟩⟩
    refine ⟨_, rfl, _, _, rfl, rfl, _, _, rfl, rfl, .inr ⟨by omega, by omega⟩, _, _, rfl, rfl, (by show (0 : Int) < 2147483629; decide), ?_⟩
    refine ⟨_, rfl, _, rfl, _, _, rfl, rfl, .inl ⟨Int.lt_of_lt_of_le (by decide) (mod0 _).1, Int.lt_trans (mod0 _).2 (by decide)⟩, .inl ⟨_, rfl, ?_⟩⟩
    refine ⟨_, _, rfl, rfl, (by show (0 : Int) < 2147483629; decide), _, _, rfl, rfl, .inl ⟨Int.lt_of_lt_of_le (by decide) (mod0 _).1, Int.lt_trans (mod0 _).2 (by decide)⟩, _, _, rfl, rfl, (by show (0 : Int) < 2147483647; decide), ?_⟩
    refine ⟨_, rfl, _, rfl, _, _, rfl, rfl, ⟨by decide, by decide, by decide⟩, _, _, rfl, rfl, .inr ⟨_, rfl, ?_⟩⟩
    refine ⟨_, _, rfl, rfl, .inr ⟨(one _).1, (one _).2.1⟩, _, rfl, (by show 2 ≤ sizeLine; decide), fun r nr => ?_⟩
    refine q _ r (same_upd nr) nr ⟨_, _, upd_same, Int.mul_nonneg ?_ (one _).2.2, (mod1 _).1, (mod1 _).2⟩
    split <;> omega
theorem sc__law_take : FnScope ["_law_pool_here", "_law_wide", "_law_result"] ["_law_pool_here", "_law_wide"] (defScope s__law_take) := ⟨rfl, rfl, rfl, by decide +kernel, rfl, by decide +kernel, by decide +kernel⟩
theorem ok__law_take (T : Txt K mg a) : FnOk P w K mg base CX0 1 a.f__law_take a.f__law_take_d ["_law_pool_here", "_law_wide"] spTake := by
  refine T.F__law_take.ok sc__law_take (fun vs H Q E h => ?_) (fun cdv A outer s H vs Q E hr h => ?_)
  · obtain ⟨p, m, rfl, _⟩ := h
    rfl
  obtain ⟨p, m, rfl, ⟨hv, sd, hp, h0, h1, h2⟩, hm0, hm1, q⟩ := h
  refine ⟨_, (pss_cons (ps_if (pt_cmpR op_gt (pe_ix ix_list (pv 0) pe_int (fun _ _ => rfl)) pe_int (nomark _))
      (pss_cons (ps_set (i := 2) sc__law_take.nd rfl (Or.inl rfl) (pe_op op_modN (pe_callTy call_int1 (by rfl) T.int (by decide +kernel) (pa_cons (pe_ix ix_list (pv 0) pe_int (fun _ _ => rfl)) pa_nil)) (pv 1)))
      (pss_cons (ps_asg (pe_op op_fdiv (pe_ix ix_list (pv 0) pe_int (fun _ _ => rfl)) (pv 1)) (pg_sub (pv 0) pe_int set_list))
      (pss_one (ps_ret (pv 2)))))
      pss_nil)
    (pss_cons (ps_asg (pe_op op_mod (pe_callTy call_int1 (by rfl) T.int (by decide +kernel) (pa_cons (pe_op op_add (pe_op op_mul (pe_ix ix_list (pv 0) pe_int (fun _ _ => rfl)) pe_int) pe_int) pa_nil)) pe_int) (pg_sub (pv 0) pe_int set_list))
    (pss_one (ps_ret (pe_op op_mod (pe_op op_fdiv (pe_op op_mod (pe_callTy call_int1 (by rfl) T.int (by decide +kernel) (pa_cons (pe_op op_mul (pe_ix ix_list (pv 0) pe_int (fun _ _ => rfl)) (pe_ix ix_list (pv 0) pe_int (fun _ _ => rfl))) pa_nil)) pe_int) pe_int) (pv 1)))))), ?_⟩
  refine ⟨_, rfl, p, _, _, _, rfl, rfl, SqL.of hp, atI_nat (j := 0) rfl, _, _, rfl, rfl, _, rfl, ite2 (fun e => ?_) (fun e => ?_)⟩
  · refine ⟨_, rfl, p, _, _, _, rfl, rfl, SqL.of hp, atI_nat (j := 0) rfl, .inl ⟨_, rfl, _, rfl, _, _, rfl, rfl, by omega, ?_⟩⟩
    refine ⟨_, rfl, p, _, _, _, rfl, rfl, SqL.of hp, atI_nat (j := 0) rfl, _, rfl, _, _, rfl, rfl, ⟨hm0, by omega⟩, _, rfl, p, _, _, 0, rfl, rfl, hp, rfl, ?_⟩
    refine ⟨_, rfl, ?_⟩
    refine q _ _ (Int.fmod_nonneg_of_pos _ hm0) (Int.fmod_lt_of_pos _ hm0) ⟨_, _, upd_same, Int.ediv_nonneg h0 (by omega), h1, h2⟩ fun b hb => upd_ne hb
  · refine ⟨_, rfl, p, _, _, _, rfl, rfl, SqL.of hp, atI_nat (j := 1) rfl, _, _, rfl, rfl, .inl ⟨by omega, by omega⟩, _, _, rfl, rfl, .inl ⟨_, rfl, _, _, rfl, rfl, (by show (0 : Int) < 2147483647; decide), ?_⟩⟩
    have hs0 : 0 ≤ (sd * 48271 + 12345) % 2147483647 := Int.emod_nonneg _ (by decide)
    have hs1 : (sd * 48271 + 12345) % 2147483647 < 2147483647 := Int.emod_lt_of_pos _ (by decide)
    refine ⟨_, rfl, p, _, _, 1, rfl, rfl, hp, rfl, ?_⟩
    refine ⟨_, rfl, p, _, _, _, rfl, rfl, SqL.of upd_same, atI_nat (j := 1) rfl, ?_⟩
    refine ⟨_, rfl, p, _, _, _, rfl, rfl, SqL.of upd_same, atI_nat (j := 1) rfl, _, _, rfl, rfl, .inl ⟨Int.lt_of_lt_of_le (by decide) hs0, Int.lt_trans hs1 (by decide)⟩, .inl ⟨_, rfl, ?_⟩⟩
    refine ⟨_, _, rfl, rfl, (by show (0 : Int) < 2147483629; decide), _, _, rfl, rfl, ⟨by decide, by decide⟩, _, rfl, _, _, rfl, rfl, hm0, ?_⟩
    exact q _ _ (Int.emod_nonneg _ (by omega)) (Int.emod_lt_of_pos _ hm0) ⟨_, _, upd_same, h0, hs0, hs1⟩ fun b hb => upd_ne hb
end
end K42
namespace K42
open PySem PySem.Spec PyProof.Rows L2 LA
theorem abs_nat (n : Int) : (if n < 0 then -n else n) = ((n.natAbs : Nat) : Int) := by split <;> omega
theorem fmod_nat (x y : Nat) : ((x : Int)).fmod (y : Int) = ((x % y : Nat) : Int) := by
  rw [Int.fmod_eq_emod_of_nonneg _ (Int.natCast_nonneg y)]
  exact (Int.natCast_emod x y).symm
theorem gcd_step {x y : Nat} : Nat.gcd y (x % y) = Nat.gcd x y := by
  rw [Nat.gcd_comm y (x % y), Nat.gcd_comm x y, ← Nat.gcd_rec]
/-- rows as lists, none at L -/
def RowsL (H : Hp) (L : Addr) : List Addr → List (List Int) → Prop
  | [], [] => True
  | b :: bs, r :: rs => (H b = some (.lst (r.map V.int)) ∧ b ≠ L) ∧ RowsL H L bs rs
  | _, _ => False
theorem RowsL.imp {H H' : Hp} {L : Addr} (k : ∀ (b : Addr) (r : List Int), b ≠ L → H b = some (.lst (r.map V.int)) → H' b = some (.lst (r.map V.int))) : ∀ {bs : List Addr} {rs : List (List Int)}, RowsL H L bs rs → RowsL H' L bs rs
  | [], [], _ => trivial
  | _ :: _, _ :: _, h => ⟨⟨k _ _ h.1.2 h.1.1, h.1.2⟩, RowsL.imp k h.2⟩
  | [], _ :: _, h => h.elim
  | _ :: _, [], h => h.elim
theorem RowsL.same {H H' : Hp} {L : Addr} (s : Same H H') {bs : List Addr} {rs : List (List Int)} (h : RowsL H L bs rs) : RowsL H' L bs rs := h.imp fun b r _ e => s _ _ e
theorem RowsL.upd {H : Hp} {L : Addr} {o : HO} {bs : List Addr} {rs : List (List Int)} (h : RowsL H L bs rs) : RowsL (upd H L o) L bs rs := h.imp fun b r n e => by rw [upd_ne n]; exact e
theorem RowsL.app {H : Hp} {L b : Addr} {r : List Int} (hb : H b = some (.lst (r.map V.int))) (n : b ≠ L) : ∀ {bs : List Addr} {rs : List (List Int)}, RowsL H L bs rs → RowsL H L (bs ++ [b]) (rs ++ [r])
  | [], [], _ => ⟨⟨hb, n⟩, trivial⟩
  | _ :: _, _ :: _, h => ⟨h.1, RowsL.app hb n h.2⟩
  | [], _ :: _, h => h.elim
  | _ :: _, [], h => h.elim
theorem RowsL.len {H : Hp} {L : Addr} : ∀ {bs : List Addr} {rs : List (List Int)}, RowsL H L bs rs → bs.length = rs.length
  | [], [], _ => rfl
  | _ :: _, _ :: _, h => congrArg (· + 1) (RowsL.len h.2)
  | [], _ :: _, h => h.elim
  | _ :: _, [], h => h.elim
theorem RowsL.get {H : Hp} {L : Addr} : ∀ {bs : List Addr} {rs : List (List Int)} {i : Nat} {r : List Int}, RowsL H L bs rs → rs[i]? = some r → ∃ b, bs[i]? = some b ∧ H b = some (.lst (r.map V.int)) ∧ b ≠ L
  | b :: _, _ :: _, 0, r, h, e => ⟨b, rfl, by rw [← Option.some.inj (show some _ = some r from e)]; exact h.1.1, h.1.2⟩
  | _ :: _, _ :: _, i + 1, _, h, e => RowsL.get (i := i) h.2 e
  | [], [], _, _, _, e => by cases e
  | [], _ :: _, _, _, h, _ => h.elim
  | _ :: _, [], _, _, h, _ => h.elim
theorem RowsL.set {H : Hp} {L c : Addr} {x : List Int} (hc : H c = some (.lst (x.map V.int))) (n : c ≠ L) : ∀ {bs : List Addr} {rs : List (List Int)} {i : Nat}, RowsL H L bs rs → RowsL H L (bs.set i c) (rs.set i x)
  | _ :: _, _ :: _, 0, h => ⟨⟨hc, n⟩, h.2⟩
  | _ :: _, _ :: _, i + 1, h => ⟨h.1, RowsL.set hc n (i := i) h.2⟩
  | [], [], _, _ => trivial
  | [], _ :: _, _, h => h.elim
  | _ :: _, [], _, h => h.elim
def LAt (H : Hp) (L : Addr) (left : List (List Int)) : Prop := ∃ bs, H L = some (.lst (bs.map V.ref)) ∧ RowsL H L bs left
theorem LAt.same {H H' : Hp} {L : Addr} {left : List (List Int)} (s : Same H H') (h : LAt H L left) : LAt H' L left := by
  obtain ⟨bs, a, b⟩ := h
  exact ⟨bs, s _ _ a, b.same s⟩
/-- bits behind so many steps -/
def be (e : Nat) : Nat → Nat
  | 0 => e
  | k + 1 => be e k + be e k + 1
theorem be_mono (e : Nat) {s t : Nat} (h : s ≤ t) : be e s ≤ be e t := by
  induction t with
  | zero => rw [Nat.le_zero.mp h]; exact Nat.le_refl _
  | succ t ih =>
    rcases Nat.lt_or_ge s (t + 1) with z | z
    · have := ih (Nat.le_of_lt_succ z)
      show be e s ≤ be e t + be e t + 1
      omega
    · rw [Nat.le_antisymm h z]
      exact Nat.le_refl _
theorem at_int {xs : List V} {j : Nat} {z : Int} {v : V} (e : z = (j : Int)) (h : xs[j]? = some v) : atI xs z = some v := by
  rw [e]
  exact atI_nat h
theorem ixN_int {n j : Nat} {z : Int} (e : z = (j : Int)) (h : j < n) : ixN n z = some j := by
  rw [e]
  exact ixN_at h
theorem ref_set {bs : List Addr} {i : Nat} {b : Addr} : (bs.map V.ref).set i (.ref b) = (bs.set i b).map V.ref := by rw [List.map_set]
theorem ref_get {bs : List Addr} {i : Nat} {b : Addr} (h : bs[i]? = some b) : (bs.map V.ref)[i]? = some (.ref b) := by
  rw [List.getElem?_map, h]
  rfl
theorem int_get {r : List Int} {c : Nat} (h : c < r.length) : (r.map V.int)[c]? = some (.int (co r c)) := by
  rw [List.getElem?_map, get_co h]
  rfl
def spRank : Sp := fun vs H Q _ => ∃ (p : Addr) (wd : Nat) (as : List Addr) (rows : List (List Int)) (e : Nat), vs = [.ref p] ∧ H p = some (.lst (as.map V.ref)) ∧ RowsAt H as rows ∧ (∀ r ∈ rows, r.length = wd ∧ Bd e r) ∧ wd ≤ 1000 ∧ rows.length ≤ 1000 ∧
  be e (rows.length - 1) ≤ 8999 ∧ ∀ (n : Nat) H', Same H H' → n ≤ rows.length → IsRank rows n → Q (.int (n : Nat)) H'
/-- the places of the rows that have a number there -/
def goods (left : List (List Int)) (total at' i : Nat) : List Nat := ((List.range i).filter fun j => !decide (co (left.getD (total + j) []) at' = 0)).map (total + ·)
theorem goods_succ (left : List (List Int)) (total at' i : Nat) : goods left total at' (i + 1) = goods left total at' i ++ if (!decide (co (left.getD (total + i) []) at' = 0)) = true then [total + i] else [] := by
  unfold goods
  rw [List.range_succ, List.filter_append, List.map_append]
  congr 1
  rw [List.filter_cons]
  split <;> rfl
theorem goods_nil {left : List (List Int)} {total at' i : Nat} (h : goods left total at' i = []) {j : Nat} {r : List Int} (e : left[j]? = some r) (h1 : total ≤ j) (h2 : j < total + i) : co r at' = 0 := by
  unfold goods at h
  have h := List.map_eq_nil_iff.mp h
  by_cases q : co r at' = 0
  · exact q
  · exfalso
    have : j - total ∈ (List.range i).filter fun j => !decide (co (left.getD (total + j) []) at' = 0) := by
      rw [List.mem_filter, List.mem_range]
      refine ⟨by omega, ?_⟩
      rw [show total + (j - total) = j by omega, List.getD_eq_getElem?_getD, e]
      simpa using q
    rw [h] at this
    cases this
theorem goods_mem {left : List (List Int)} {total at' i g : Nat} (h : g ∈ goods left total at' i) : total ≤ g ∧ g < total + i ∧ ∀ r, left[g]? = some r → co r at' ≠ 0 := by
  obtain ⟨j, hj, rfl⟩ := List.mem_map.mp h
  rw [List.mem_filter, List.mem_range] at hj
  refine ⟨by omega, by omega, fun r e => ?_⟩
  have h2 := hj.2
  rw [List.getD_eq_getElem?_getD, e] at h2
  simpa using h2
section
variable {P : Program} {w : World} {K : PySem.W.Frag} {mg : Str → Option Value} {base : Heap} {a : Ads}
theorem sc__law_thin : FnScope ["_law_row", "_law_most", "_law_value", "_law_one", "_law_other"] ["_law_row"] (defScope s__law_thin) := ⟨rfl, rfl, rfl, by decide +kernel, rfl, by decide +kernel, by decide +kernel⟩
theorem ok__law_thin (T : Txt K mg a) : FnOk P w K mg base CX0 1 a.f__law_thin a.f__law_thin_d ["_law_row"] spThin := by
  refine T.F__law_thin.ok sc__law_thin (fun vs H Q E h => ?_) (fun cdv A outer s H vs Q E hr h => ?_)
  · obtain ⟨p, r, rfl, _⟩ := h
    rfl
  obtain ⟨p, r, rfl, hp, hl, hb, q⟩ := h
  refine ⟨_, (pss_cons (ps_set (i := 1) sc__law_thin.nd rfl (Or.inr rfl) pe_int)
    (pss_cons (ps_for PassesOwn.never rfl (pi_list (pv 0)) (pg_name (i := 2) sc__law_thin.nd rfl (Or.inl rfl))
      (pss_cons (ps_par (i := 3) (j := 4) (by rfl) sc__law_thin.nd rfl rfl (by decide) rfl rfl (pa_cons (pv 1) (pa_cons (pe_callB call_abs (by rfl) T.abs (by decide +kernel) (pa_cons (pv 2) pa_nil)) pa_nil)) (by rfl))
      (pss_cons (ps_while PassesOwn.never (pt_cmpR op_ne (pv 4) pe_int (nomark _))
        (pss_one (ps_par (i := 3) (j := 4) (by rfl) sc__law_thin.nd rfl rfl (by decide) rfl rfl (pa_cons (pv 4) (pa_cons (pe_op op_modN (pe_callTy call_int1 (by rfl) T.int (by decide +kernel) (pa_cons (pv 3) pa_nil)) (pv 4)) pa_nil)) (by rfl))))
      (pss_one (ps_set (i := 1) sc__law_thin.nd rfl (Or.inr rfl) (pv 3))))))
    (pss_one (ps_ret (pe_ifExp (pt_cmpR op_gt (pv 1) pe_int (nomark _)) (pe_lc (own := [("_law_value", 2)]) (g := gName 2) (tt := tYes) (by rfl) sc__law_thin.nd (pi_list (pv 0)) (blkOk_by (own := [("_law_value", 2)]) (N := ["_law_row", "_law_most", "_law_value", "_law_one", "_law_other"]) (sc := defScope s__law_thin) (by decide +kernel)) (fun _ _ _ _ _ => pg_name (i := 2) sc__law_thin.nd rfl (Or.inl rfl)) (fun _ _ _ _ _ => pts_nil) (fun _ _ _ _ _ => (pe_op EnT.op_fdivB (pv 2) (pv 1)))) (pv 0)))))), ?_⟩
  refine ⟨_, rfl, p, rfl, ⟨_, SqL.of hp⟩, for_it (walk_list (K := K) (a := p) (xs := r.map V.int)) (fun i σ H' => ∃ v2 v3 v4, σ = [some (.ref p), some (.int (gcdN r i : Nat)), v2, v3, v4] ∧ Same H H') ⟨_, _, _, rfl, Same.refl _⟩ (fun i σ H' _ ⟨_, _, _, _, s1⟩ => SqL.of (s1 _ _ hp)) ?_ ?_⟩
  · rintro i x σ H1 H2 hi ⟨v2, v3, v4, rfl, s1⟩ ⟨rfl, hx⟩
    obtain ⟨n, hn, rfl⟩ := get_map hx
    refine ⟨_, rfl, _, rfl, _, rfl, _, _, rfl, ?_⟩
    rw [abs_nat]
    dsimp only [gName]
    refine st_seq (while_ans (fun m σ H' => ∃ x y : Nat, σ = [some (.ref p), some (.int (gcdN r i : Nat)), some (.int n), some (.int (x : Nat)), some (.int (y : Nat))] ∧ Nat.gcd x y = gcdN r (i + 1) ∧ m = y ∧ Same H H') n.natAbs
      ⟨gcdN r i, n.natAbs, rfl, (gcdN_succ hn).symm, rfl, s1⟩ ?_)
    rintro m σ H3 ⟨x, y, rfl, hg, rfl, s3⟩
    refine ⟨!decide (V.int (m : Nat) = V.int 0), fun Q q => ⟨_, rfl, rfl, _, rfl, q⟩, fun e => ?_, fun e => ?_⟩
    · rw [dint] at e
      have hm : m ≠ 0 := by
        intro z
        rw [z] at e
        simp at e
      refine ⟨_, rfl, _, rfl, .inl ⟨_, rfl, _, rfl, _, _, rfl, rfl, by omega, _, _, rfl, ?_⟩⟩
      exact ⟨x % m, Nat.mod_lt _ (by omega), m, x % m, by rw [← fmod_nat]; rfl, by rw [gcd_step]; exact hg, rfl, s3⟩
    · rw [dint] at e
      have hm : m = 0 := by
        have : (m : Int) = 0 := by simpa using e
        omega
      subst hm
      rw [Nat.gcd_zero_right] at hg
      refine ⟨_, rfl, ?_⟩
      rw [hg]
      exact ⟨_, _, _, rfl, s3⟩
  · rintro σ H1 ⟨v2, v3, v4, rfl, s1⟩
    rw [List.length_map, gcdN_all]
    refine ⟨_, rfl, _, _, rfl, rfl, _, rfl, ite2 (fun e => ?_) (fun e => ?_)⟩
    · have e : 1 < gcdL r := by have := of_decide_eq_true e; omega
      refine ⟨_, rfl, p, rfl, ⟨_, SqL.of (s1 _ _ hp)⟩, fun D hD => ?_⟩
      refine lc_it (walk_list (K := K) (a := p) (xs := r.map V.int)) (fun i H' => Same H1 H' ∧ H' D = some (.lst ((((r.take i).map fun n => n.fdiv (gcdL r : Int))).map V.int))) ⟨same_upd hD, upd_same⟩ (fun i H' _ h => SqL.of (h.1 _ _ (s1 _ _ hp))) ?_ ?_
      · rintro i x H3 H4 hi ⟨s3, hD3⟩ ⟨rfl, hx⟩
        obtain ⟨n, hn, rfl⟩ := get_map hx
        rw [List.length_map] at hi
        refine ⟨rfl, _, rfl, _, rfl, n, _, rfl, rfl, ⟨by omega, hb.gcd⟩, _, hD3, ?_, same_mut s3 hD, ?_⟩
        · rw [List.length_map, List.length_map, List.length_take]
          exact bigLine (by omega)
        · rw [upd_same, List.take_add_one, hn, List.map_append, List.map_append]
          rfl
      · rintro H3 ⟨s3, hD3⟩
        rw [List.length_map, List.take_length] at hD3
        refine q _ D (s1.trans s3) (.inr (s1.free hD)) ?_
        unfold thinL
        rw [if_pos e]
        exact hD3
    · have e : ¬ 1 < gcdL r := fun z => e (decide_eq_true (by omega))
      refine ⟨_, rfl, q _ p s1 (.inl rfl) ?_⟩
      unfold thinL
      rw [if_neg e]
      exact s1 _ _ hp
theorem sc__law_rank : FnScope ["_law_rows", "_law_left", "_law_wide", "_law_total", "_law_at", "_law_good", "_law_row", "_law_first", "_law_one", "_law_times", "_law_other", "_law_lower", "_law_value", "_law_to"] ["_law_rows"] (defScope s__law_rank) := ⟨rfl, rfl, rfl, by decide +kernel, rfl, by decide +kernel, by decide +kernel⟩
theorem ok__law_rank (T : Txt K mg a) : FnOk P w K mg base CX0 2 a.f__law_rank a.f__law_rank_d ["_law_rows"] spRank := by
  refine T.F__law_rank.ok sc__law_rank (fun vs H Q E h => ?_) (fun cdv A outer s H vs Q E hr h => ?_)
  · obtain ⟨p, wd, as, rows, e, rfl, _⟩ := h
    rfl
  obtain ⟨p, wd, as, rows, e, rfl, hp, hRs, hrw, hw1, hn1, hbe, q⟩ := h
  have hal := hRs.len
  refine ⟨_, (pss_cons (ps_set (i := 1) sc__law_rank.nd rfl (Or.inr rfl) (pe_lc (own := [("_law_row", 6)]) (g := gName 6) (tt := tYes) (by rfl) sc__law_rank.nd (pi_list (pv 0)) (blkOk_by (own := [("_law_row", 6)]) (N := ["_law_rows", "_law_left", "_law_wide", "_law_total", "_law_at", "_law_good", "_law_row", "_law_first", "_law_one", "_law_times", "_law_other", "_law_lower", "_law_value", "_law_to"]) (sc := defScope s__law_rank) (by decide +kernel)) (fun _ _ _ _ _ => pg_name (i := 6) sc__law_rank.nd rfl (Or.inl rfl)) (fun _ _ _ _ _ => pts_nil) (fun _ _ _ _ _ => (pe_callTy (show CallR _ (.type "list") (rListOf K) from call_list_of) (by rfl) T.list (by decide +kernel) (pa_cons (pv 6) pa_nil)))))
    (pss_cons (ps_asg (pe_tup (pa_cons pe_int (pa_cons pe_int pa_nil))) (pg_tup (by rfl) (pgs_cons (pg_name (i := 3) sc__law_rank.nd rfl (Or.inl rfl)) (pgs_cons (pg_name (i := 4) sc__law_rank.nd rfl (Or.inr rfl)) pgs_nil))))
    (pss_cons (ps_set (i := 2) sc__law_rank.nd rfl (Or.inl rfl) (pe_ifExp (pt_cmpR (op_neD hr.units) (pv 0) (pe_lst pa_nil) (nomark _)) (pe_callB call_len_seq (by rfl) T.len PySem.boot_len (pa_cons (pe_ix ix_list (pv 0) pe_int (fun _ _ => rfl)) pa_nil)) pe_int))
    (pss_cons (ps_while PassesOwn.never (PW.pt (pw_and (pt_cmpR op_lt (pv 4) (pv 2) (nomark _)) (pw_and1 (pt_cmpR op_lt (pv 3) (pe_callB call_len_seq (by rfl) T.len PySem.boot_len (pa_cons (pv 1) pa_nil)) (nomark _)))))
      (pss_cons (ps_setLc (i := 5) (own := [("_law_one", 8)]) (g := gName 8) (tt := _) (by rfl) sc__law_rank.nd rfl rfl (sw_true rfl rfl rfl (by decide +kernel)) (pi_range2 (by rfl) T.range (pa_cons (pv 3) (pa_cons (pe_callB call_len_seq (by rfl) T.len PySem.boot_len (pa_cons (pv 1) pa_nil)) pa_nil))) (blkOk_by (own := [("_law_one", 8)]) (N := ["_law_rows", "_law_left", "_law_wide", "_law_total", "_law_at", "_law_good", "_law_row", "_law_first", "_law_one", "_law_times", "_law_other", "_law_lower", "_law_value", "_law_to"]) (sc := defScope s__law_rank) (by decide +kernel)) (fun _ _ _ _ _ => pg_name (i := 8) sc__law_rank.nd rfl (Or.inl rfl)) (fun _ _ _ _ _ => (pts_one (pt_cmpR op_ne (pe_ix (show IxR _ (rIxL K) from ix_list) (pe_ix (show IxR _ (rIxL K) from ix_list) (pv 1) (pv 8) (fun _ _ => rfl)) (pv 4) (fun _ _ => rfl)) pe_int (nomark _)))) (fun _ _ _ _ _ => (pv 8)))
      (pss_cons (ps_if (pt_cmpR (op_neD hr.units) (pv 5) (pe_lst pa_nil) (nomark _))
        (pss_cons (ps_asg (pe_tup (pa_cons (pe_ix ix_list (pv 1) (pe_ix ix_list (pv 5) pe_int (fun _ _ => rfl)) (fun _ _ => rfl)) (pa_cons (pe_ix ix_list (pv 1) (pv 3) (fun _ _ => rfl)) pa_nil))) (pg_tup (by rfl) (pgs_cons (pg_sub (pv 1) (pv 3) set_list) (pgs_cons (pg_sub (pv 1) (pe_ix ix_list (pv 5) pe_int (fun _ _ => rfl)) set_list) pgs_nil))))
        (pss_cons (ps_set (i := 7) sc__law_rank.nd rfl (Or.inr rfl) (pe_ix ix_list (pv 1) (pv 3) (fun _ _ => rfl)))
        (pss_cons (ps_for PassesOwn.never rfl (pi_range2 (by rfl) T.range (pa_cons (pe_op op_add (pv 3) pe_int) (pa_cons (pe_callB call_len_seq (by rfl) T.len PySem.boot_len (pa_cons (pv 1) pa_nil)) pa_nil))) (pg_name (i := 8) sc__law_rank.nd rfl (Or.inl rfl))
          (pss_cons (ps_set (i := 9) sc__law_rank.nd rfl (Or.inr rfl) (pe_ix ix_list (pe_ix ix_list (pv 1) (pv 8) (fun _ _ => rfl)) (pv 4) (fun _ _ => rfl)))
          (pss_cons (ps_set (i := 10) sc__law_rank.nd rfl (Or.inr rfl) (pe_ix ix_list (pv 1) (pv 8) (fun _ _ => rfl)))
          (pss_cons (ps_set (i := 11) sc__law_rank.nd rfl (Or.inr rfl) (pe_lc (own := [("_law_value", 12)]) (g := gName 12) (tt := tYes) (by rfl) sc__law_rank.nd (pi_list (pv 7)) (blkOk_by (own := [("_law_value", 12)]) (N := ["_law_rows", "_law_left", "_law_wide", "_law_total", "_law_at", "_law_good", "_law_row", "_law_first", "_law_one", "_law_times", "_law_other", "_law_lower", "_law_value", "_law_to"]) (sc := defScope s__law_rank) (by decide +kernel)) (fun _ _ _ _ _ => pg_name (i := 12) sc__law_rank.nd rfl (Or.inl rfl)) (fun _ _ _ _ _ => pts_nil) (fun _ _ _ _ _ => (pe_op op_mulW (pv 9) (pv 12)))))
          (pss_one (ps_asg (pe_call (ok__law_thin T) (hr.mono (by decide)) (by rfl) T.g__law_thin T.F__law_thin.kp T.b__law_thin .nil pass0 (pa_cons (pe_lc (own := [("_law_to", 13)]) (g := gName 13) (tt := tYes) (by rfl) sc__law_rank.nd (pi_range1 (by rfl) T.range (pa_cons (pv 2) pa_nil)) (blkOk_by (own := [("_law_to", 13)]) (N := ["_law_rows", "_law_left", "_law_wide", "_law_total", "_law_at", "_law_good", "_law_row", "_law_first", "_law_one", "_law_times", "_law_other", "_law_lower", "_law_value", "_law_to"]) (sc := defScope s__law_rank) (by decide +kernel)) (fun _ _ _ _ _ => pg_name (i := 13) sc__law_rank.nd rfl (Or.inl rfl)) (fun _ _ _ _ _ => pts_nil) (fun _ _ _ _ _ => (pe_op op_sub (pe_op op_mulW (pe_ix (show IxR _ (rIxL K) from ix_list) (pv 7) (pv 4) (fun _ _ => rfl)) (pe_ix (show IxR _ (rIxL K) from ix_list) (pv 10) (pv 13) (fun _ _ => rfl))) (pe_ix (show IxR _ (rIxL K) from ix_list) (pv 11) (pv 13) (fun _ _ => rfl))))) pa_nil)) (pg_sub (pv 1) (pv 8) set_list)))))))
        (pss_one (ps_set (i := 3) sc__law_rank.nd rfl (Or.inl rfl) (pe_op op_add (pv 3) pe_int))))))
        pss_nil)
      (pss_one (ps_set (i := 4) sc__law_rank.nd rfl (Or.inr rfl) (pe_op op_add (pv 4) pe_int))))))
    (pss_one (ps_ret (pv 3))))))), ?_⟩
  -- the rows as lists
  refine ⟨_, rfl, p, rfl, ⟨_, SqL.of hp⟩, fun L nL => ?_⟩
  refine lc_it (walk_list (K := K) (a := p) (xs := as.map V.ref)) (fun i H' => Same H H' ∧ ∃ bs, H' L = some (.lst (bs.map V.ref)) ∧ RowsL H' L bs (rows.take i)) ⟨same_upd nL, [], upd_same, trivial⟩ (fun i H' _ h => SqL.of (h.1 _ _ hp)) ?_ ?_
  · rintro i x H1 H2 hi ⟨s1, bs, hL1, hbs⟩ ⟨rfl, hx⟩
    obtain ⟨b, hb, rfl⟩ := get_map hx
    obtain ⟨r, hrr, hbt⟩ := hRs.get hb
    have hil : i < rows.length := (List.getElem?_eq_some_iff.mp hrr).1
    refine ⟨rfl, _, rfl, b, _, rfl, .inr (SqT.of (s1 _ _ hbt)), fun l nl => ?_⟩
    have hlL : l ≠ L := fun z => by
      subst z
      rw [hL1] at nl
      cases nl
    refine ⟨_, by rw [upd_ne (Ne.symm hlL)]; exact hL1, ?_, same_mut (s1.trans (same_upd nl)) nL, bs ++ [l], by rw [upd_same, List.map_append]; rfl, ?_⟩
    · rw [List.length_map, hbs.len, List.length_take]
      exact bigLine (by omega)
    · rw [List.take_add_one, hrr]
      exact RowsL.app (by rw [upd_ne hlL, upd_same]) hlL ((hbs.same (same_upd nl)).upd)
  rintro H1 ⟨s1, bs, hL1, hbs1⟩
  rw [List.length_map, hal, List.take_length] at hbs1
  -- total, at = 0, 0
  refine ⟨(by show 2 ≤ sizeLine; decide), fun t nt => ⟨t, _, rfl, SqT.of upd_same, rfl, _, _, rfl, _, _, rfl, rfl, ?_⟩⟩
  have s2 : Same H (upd H1 t (.tup [.int 0, .int 0])) := s1.trans (same_upd nt)
  have hL2 : LAt (upd H1 t (.tup [.int 0, .int 0])) L rows := ⟨bs, same_upd nt _ _ hL1, hbs1.same (same_upd nt)⟩
  show tSeq _ _ _ _ (upd H1 t (.tup [.int 0, .int 0]))
  generalize (upd H1 t (.tup [.int 0, .int 0])) = H2 at s2 hL2 ⊢
  clear s1 hL1 hbs1 nt H1
  dsimp only [gName]
  -- the width
  have width : ∀ {H3 : Hp} {l0 : Addr}, Same H2 H3 → H3 l0 = some (.lst []) → rNeD K (.ref p) (.ref l0) H3 fun x H4 => x = .bl (!rows.isEmpty) ∧ H4 = H3 := fun {H3 l0} s3 h0 =>
    ⟨dRows rows, .list [], .lst (SqL.of (s3 _ _ (s2 _ _ hp))) (dp_rows (hRs.same (s2.trans s3))), .lst (xs := []) (SqL.of h0) .nil, shaped_rows rows, by decide, by unfold dRows; rw [eqv_nil, List.isEmpty_map], rfl⟩
  refine ⟨_, rfl, (by show 0 ≤ sizeLine; decide), fun l0 nl0 => ⟨dRows rows, .list [], .lst (SqL.of (same_upd nl0 _ _ (s2 _ _ hp))) (dp_rows (hRs.same (s2.trans (same_upd nl0)))), .lst (xs := []) (SqL.of upd_same) .nil, shaped_rows rows, by decide, ?_⟩⟩
  rw [show PyData.eqv (dRows rows) (.list []) = rows.isEmpty by unfold dRows; rw [eqv_nil, List.isEmpty_map]]
  have s3 : Same H (upd H2 l0 (.lst [])) := s2.trans (same_upd nl0)
  have hL3 : LAt (upd H2 l0 (.lst [])) L rows := hL2.same (same_upd nl0)
  generalize (upd H2 l0 (.lst [])) = H3 at s3 hL3 ⊢
  clear width hL2 s2 nl0 H2
  refine ⟨_, rfl, ite2 (fun e1 => ?_) (fun e1 => ?_)⟩
  rotate_left
  · -- no row
    have hnil : rows = [] := by
      cases rows with
      | nil => rfl
      | cons _ _ => exact absurd rfl e1
    subst hnil
    obtain ⟨bs, hL, hbs⟩ := hL3
    dsimp only [gName]
    refine st_seq (while_ans (fun m σ H' => σ = [some (.ref p), some (.ref L), some (.int 0), some (.int 0), some (.int 0), none, none, none, none, none, none, none, none, none] ∧ H' = H3) 0 ⟨rfl, rfl⟩ ?_)
    rintro m σ H' ⟨rfl, rfl⟩
    refine ⟨false, ans_and0 (fun Q q => ⟨_, rfl, _, rfl, _, _, rfl, rfl, _, rfl, q⟩), fun z => (by cases z), fun _ => ?_⟩
    exact ⟨_, rfl, q 0 _ s3 (Nat.le_refl _) ((RI.start (w := wd) (rows := []) fun _ h => by cases h).done (Nat.le_refl _) (.inr (Nat.le_refl _)))⟩
  obtain ⟨r0, rs0, hr0⟩ : ∃ r0 rs0, rows = r0 :: rs0 := by
    cases rows with
    | nil => cases e1
    | cons x xs => exact ⟨x, xs, rfl⟩
  have h0 : rows[0]? = some r0 := by rw [hr0]; rfl
  obtain ⟨a0, ha0⟩ : ∃ a0, as[0]? = some a0 := by
    have : 0 < as.length := by rw [hal, hr0]; exact Nat.succ_pos _
    exact ⟨as[0], List.getElem?_eq_getElem this⟩
  obtain ⟨r0', hr0', ht0⟩ := (hRs.same s3).get ha0
  obtain rfl : r0' = r0 := Option.some.inj (hr0'.symm.trans h0)
  have hlen0 := (hrw r0' (List.mem_of_getElem? h0)).1
  refine ⟨_, rfl, p, _, _, _, rfl, rfl, SqL.of (s3 _ _ hp), atI_nat (j := 0) (ref_get ha0), a0, _, rfl, .inr (SqT.of ht0), ?_⟩
  rw [List.length_map, hlen0]
  dsimp only [gName]
  clear e1 h0 ha0 hr0' ht0 hlen0 hr0 rs0 r0' a0
  refine st_seq (while_ans (fun m σ H' => ∃ (total at' : Nat) (left : List (List Int)) (v5 v6 v7 v8 v9 v10 v11 v12 v13 : Option V),
      σ = [some (.ref p), some (.ref L), some (.int (wd : Nat)), some (.int (total : Nat)), some (.int (at' : Nat)), v5, v6, v7, v8, v9, v10, v11, v12, v13] ∧ Same H H' ∧ LAt H' L left ∧ RI wd rows left total at' ∧ total ≤ rows.length ∧
      (∀ r ∈ left, Bd (be e total) r) ∧ m = wd - at') wd ⟨0, 0, rows, _, _, _, _, _, _, _, _, _, rfl, s3, hL3, .start fun r hr => (hrw r hr).1, Nat.zero_le _, fun r hr => (hrw r hr).2, rfl⟩ ?_)
  clear s3 hL3 H3
  rintro m σ H4 ⟨total, at', left, v5, v6, v7, v8, v9, v10, v11, v12, v13, rfl, s4, ⟨bs, hL, hbs⟩, hI, htn, hbits, rfl⟩
  have hn := hI.n
  have hbl := hbs.len
  refine ⟨decide (((at' : Nat) : Int) < ((wd : Nat) : Int)) && decide (((total : Nat) : Int) < (((bs.map V.ref).length : Nat) : Int)), ans_and2 (fun Q q => ⟨_, rfl, _, rfl, _, _, rfl, rfl, _, rfl, q⟩) (fun Q q => ⟨_, rfl, _, rfl, L, _, rfl, .inl (SqL.of hL), _, _, rfl, rfl, _, rfl, q⟩), fun e1 => ?_, fun e1 => ?_⟩
  rotate_left
  · refine ⟨_, rfl, q total H4 s4 htn (hI.done (by omega) ?_)⟩
    rcases Bool.and_eq_false_iff.mp e1 with z | z
    · have := of_decide_eq_false z
      exact .inl (by omega)
    · have := of_decide_eq_false z
      rw [List.length_map] at this
      exact .inr (by omega)
  obtain ⟨e1, e2⟩ := Bool.and_eq_true_iff.mp e1
  have e1 : at' < wd := by have := of_decide_eq_true e1; omega
  have e2 : total < left.length := by
    have := of_decide_eq_true e2
    rw [List.length_map] at this
    omega
  -- the good ones
  refine ⟨_, rfl, _, rfl, L, _, rfl, .inl (SqL.of hL), _, _, rfl, ⟨by omega, by omega, by rw [List.length_map]; omega, by rw [List.length_map]; omega⟩, fun D nD => ?_⟩
  refine lc_range (lo := (total : Int)) (n := ((((bs.map V.ref).length : Nat) : Int) - (total : Int)).toNat) (fun i Hi => Same H4 Hi ∧ Hi D = some (.lst (((goods left total at' i).map fun g : Nat => (g : Int)).map V.int))) ⟨same_upd nD, upd_same⟩ ?_ ?_
  · rintro i Hi hi ⟨si, hDi⟩
    rw [List.length_map] at hi
    have hti : total + i < left.length := by omega
    have hrow : left[total + i]? = some left[total + i] := List.getElem?_eq_getElem hti
    have hgd : left.getD (total + i) [] = left[total + i] := by rw [List.getD_eq_getElem?_getD, hrow]; rfl
    generalize left[total + i] = r at hrow hgd
    have hrlen := hI.len r (List.mem_of_getElem? hrow)
    obtain ⟨b, hb, hbt, hbL⟩ := hbs.get hrow
    refine ⟨rfl, _, rfl, _, rfl, L, _, _, _, rfl, rfl, SqL.of (si _ _ hL), at_int (j := total + i) (by omega) (ref_get hb), _, rfl, b, _, _, _, rfl, rfl, SqL.of (si _ _ hbt), atI_co (by omega), rfl, _, rfl, ?_⟩
    rw [goods_succ, hgd, dint]
    refine ite2 (fun e3 => ?_) (fun e3 => ?_)
    · refine ⟨_, rfl, _, hDi, ?_, same_mut si nD, ?_⟩
      · rw [List.length_map, List.length_map]
        refine bigLine ?_
        unfold goods
        rw [List.length_map]
        refine Nat.le_trans (List.length_filter_le _ _) ?_
        rw [List.length_range]
        omega
      · rw [upd_same, if_pos e3, List.map_append, List.map_append]
        rfl
    · refine ⟨si, ?_⟩
      rw [if_neg e3, List.append_nil]
      exact hDi
  rintro H5 ⟨s5, hD5⟩
  rw [List.length_map] at hD5
  have hcnt : (((bs.length : Nat) : Int) - (total : Int)).toNat = left.length - total := by omega
  rw [hcnt] at hD5
  have hmem : ∀ g ∈ goods left total at' (left.length - total), total ≤ g ∧ g < left.length ∧ ∀ r, left[g]? = some r → co r at' ≠ 0 := fun g hg => by
    obtain ⟨h1, h2, h3⟩ := goods_mem hg
    exact ⟨h1, by omega, h3⟩
  have hnone : goods left total at' (left.length - total) = [] → ∀ i r, left[i]? = some r → total ≤ i → co r at' = 0 := fun z i r hr h => goods_nil z hr h (by have := (List.getElem?_eq_some_iff.mp hr).1; omega)
  generalize goods left total at' (left.length - total) = gs at hD5 hmem hnone
  -- is there one
  refine ⟨_, rfl, (by show 0 ≤ sizeLine; decide), fun l1 nl1 => ⟨.list ((gs.map fun g : Nat => (g : Int)).map PyData.int), .list [], .lst (SqL.of (same_upd nl1 _ _ hD5)) (dp_ints _), .lst (xs := []) (SqL.of upd_same) .nil, shaped_ints _, by decide, ?_⟩⟩
  rw [eqv_nil, List.isEmpty_map, List.isEmpty_map]
  have s6 : Same H4 (upd H5 l1 (.lst [])) := s5.trans (same_upd nl1)
  have hD6 : (upd H5 l1 (.lst [])) D = some (.lst ((gs.map fun g : Nat => (g : Int)).map V.int)) := same_upd nl1 _ _ hD5
  generalize (upd H5 l1 (.lst [])) = H6 at s6 hD6 ⊢
  clear s5 hD5 nl1 H5
  have s46 := s4.trans s6
  refine ⟨_, rfl, ite2 (fun e3 => ?_) (fun e3 => ?_)⟩
  rotate_left
  · have hg : gs = [] := by
      cases gs with
      | nil => rfl
      | cons _ _ => exact absurd rfl e3
    refine ⟨_, rfl, _, _, rfl, rfl, ?_⟩
    exact ⟨wd - (at' + 1), by omega, total, at' + 1, left, _, _, _, _, _, _, _, _, _, rfl, s46, ⟨bs, s6 _ _ hL, hbs.same s6⟩, hI.skip (hnone hg), htn, hbits, rfl⟩
  obtain ⟨g, gs', hg⟩ : ∃ g gs', gs = g :: gs' := by
    cases gs with
    | nil => cases e3
    | cons x xs => exact ⟨x, xs, rfl⟩
  subst hg
  obtain ⟨hg1, hg2, hg3⟩ := hmem g (List.mem_cons_self ..)
  clear hmem hnone e3
  have hrt : left[total]? = some left[total] := List.getElem?_eq_getElem e2
  have hrg : left[g]? = some left[g] := List.getElem?_eq_getElem hg2
  generalize left[total] = rt at hrt
  generalize left[g] = rg at hrg
  have hg3 := hg3 rg hrg
  obtain ⟨bt, hbt, hbtt, hbtL⟩ := hbs.get hrt
  obtain ⟨bg, hbg, hbgt, hbgL⟩ := hbs.get hrg
  have hgD : (((g :: gs').map fun g : Nat => (g : Int)).map V.int)[0]? = some (.int ((g : Nat) : Int)) := rfl
  have hL6 : H6 L = some (.lst (bs.map V.ref)) := s6 _ _ hL
  refine ⟨_, rfl, _, rfl, D, _, _, _, rfl, rfl, SqL.of hD6, atI_nat (j := 0) hgD, L, _, _, _, rfl, rfl, SqL.of hL6, atI_nat (j := g) (ref_get hbg), _, rfl, _, rfl, L, _, _, _, rfl, rfl, SqL.of hL6, atI_nat (j := total) (ref_get hbt),
    (by show 2 ≤ sizeLine; decide), fun t nt => ⟨t, _, rfl, SqT.of upd_same, rfl, _, _, rfl, _, rfl, _, rfl, L, _, _, total, rfl, rfl, same_upd nt _ _ hL6, ixN_at (by rw [List.length_map]; omega), _, _, rfl, ?_⟩⟩
  have hDL : D ≠ L := (ne_of_none hL nD).symm
  have hDt : D ≠ t := ne_of_none hD6 nt
  refine ⟨_, rfl, _, rfl, D, _, _, _, rfl, rfl, SqL.of (by rw [upd_ne hDL, upd_ne hDt]; exact hD6), atI_nat (j := 0) hgD, L, _, _, g, rfl, rfl, upd_same, ixN_at (by rw [List.length_set, List.length_map]; omega), rfl, ?_⟩
  have s7 : Same H6 (upd H6 t (.tup [.ref bg, .ref bt])) := same_upd nt
  have nL' : H L = none := nL
  have s8 : Same H (upd (upd (upd H6 t (.tup [.ref bg, .ref bt])) L (.lst ((bs.map V.ref).set total (.ref bg)))) L (.lst (((bs.map V.ref).set total (.ref bg)).set g (.ref bt)))) := same_mut (same_mut (s46.trans s7) nL) nL
  have hL8 : (upd (upd (upd H6 t (.tup [.ref bg, .ref bt])) L (.lst ((bs.map V.ref).set total (.ref bg)))) L (.lst (((bs.map V.ref).set total (.ref bg)).set g (.ref bt)))) L = some (.lst (((bs.set total bg).set g bt).map V.ref)) := by
    rw [upd_same, ref_set, ref_set]
  have hbs8 : RowsL (upd (upd (upd H6 t (.tup [.ref bg, .ref bt])) L (.lst ((bs.map V.ref).set total (.ref bg)))) L (.lst (((bs.map V.ref).set total (.ref bg)).set g (.ref bt)))) L ((bs.set total bg).set g bt) ((left.set total rg).set g rt) := by
    have h0 := hbs.same (s6.trans s7)
    have a1 := h0.set (i := total) (s7 _ _ (s6 _ _ hbgt)) hbgL
    exact (RowsL.set (i := g) (s7 _ _ (s6 _ _ hbtt)) hbtL a1).upd.upd
  show tSeq _ _ _ _ (upd (upd (upd H6 t (.tup [.ref bg, .ref bt])) L (.lst ((bs.map V.ref).set total (.ref bg)))) L (.lst (((bs.map V.ref).set total (.ref bg)).set g (.ref bt))))
  generalize (upd (upd (upd H6 t (.tup [.ref bg, .ref bt])) L (.lst ((bs.map V.ref).set total (.ref bg)))) L (.lst (((bs.map V.ref).set total (.ref bg)).set g (.ref bt)))) = H8 at s8 hL8 hbs8 ⊢
  have hI8 := hI.swap hrt hrg hg1
  have hbits8 : ∀ r ∈ (left.set total rg).set g rt, Bd (be e total) r := fun r hr => by
    rcases mem_set_of hr with hr | rfl
    · rcases mem_set_of hr with hr | rfl
      · exact hbits r hr
      · exact hbits _ (List.mem_of_getElem? hrg)
    · exact hbits _ (List.mem_of_getElem? hrt)
  have hf8 : ((left.set total rg).set g rt)[total]? = some rg := by
    by_cases z : g = total
    · subst z
      rw [List.getElem?_set_self (by rw [List.length_set]; exact hg2)]
      exact hrt.symm.trans hrg
    · rw [List.getElem?_set_ne z, List.getElem?_set_self e2]
  have hn8 : ((left.set total rg).set g rt).length = left.length := by rw [List.length_set, List.length_set]
  clear s46 s6 hD6 hL6 s7 nt hDL hDt hgD hrt hrg hbt hbtt hbtL hbg hbgt hbgL hL hbs hbits hI hbl
  generalize (left.set total rg).set g rt = left8 at hbs8 hI8 hbits8 hf8 hn8
  generalize (bs.set total bg).set g bt = bs8 at hL8 hbs8
  rw [← hn8] at e2
  have hn8' : left8.length = rows.length := hI8.n
  clear hn8 hn hcnt hg1 hg2
  -- the first one
  obtain ⟨fb, hfb, hfbt, hfbL⟩ := hbs8.get hf8
  refine ⟨_, rfl, _, rfl, L, _, _, _, rfl, rfl, SqL.of hL8, atI_nat (j := total) (ref_get hfb), ?_⟩
  have hbl8 := hbs8.len
  refine ⟨_, rfl, _, _, rfl, rfl, _, rfl, L, _, rfl, .inl (SqL.of hL8), _, _, rfl, ⟨by omega, by omega, by rw [List.length_map]; omega, by rw [List.length_map]; omega⟩, ?_⟩
  rw [List.length_map, hbl8]
  refine for_range (lo := ((total : Int) + 1)) (n := (((left8.length : Nat) : Int) - ((total : Int) + 1)).toNat) (fun i σ Hi => ∃ (lf : List (List Int)) (v8 v9 v10 v11 v12 v13 : Option V),
      σ = [some (.ref p), some (.ref L), some (.int (wd : Nat)), some (.int (total : Nat)), some (.int (at' : Nat)), some (.ref D), v6, some (.ref fb), v8, v9, v10, v11, v12, v13] ∧ Same H Hi ∧ LAt Hi L lf ∧ RI wd rows lf total at' ∧ lf[total]? = some rg ∧ Hi fb = some (.lst (rg.map V.int)) ∧
      (∀ j r, lf[j]? = some r → total < j → j < total + 1 + i → co r at' = 0) ∧ (∀ j r, lf[j]? = some r → j ≤ total ∨ total + 1 + i ≤ j → Bd (be e total) r) ∧ (∀ r ∈ lf, Bd (be e (total + 1)) r))
    ⟨left8, _, _, _, _, _, _, rfl, s8, ⟨bs8, hL8, hbs8⟩, hI8, hf8, hfbt, fun j r _ h1 h2 => by omega, fun j r hr _ => hbits8 r (List.mem_of_getElem? hr), fun r hr => (hbits8 r hr).mono (be_mono e (Nat.le_succ _))⟩ ?_ ?_
  · rintro i σ Hi hi ⟨lf, v8, v9, v10, v11, v12, v13, rfl, si, ⟨bsi, hLi, hbi⟩, hIi, hfi, hfbi, hz, hb1, hb2⟩
    have hlf : lf.length = left8.length := hIi.n.trans hn8'.symm
    have hk : total + 1 + i < lf.length := by omega
    have hrow : lf[total + 1 + i]? = some lf[total + 1 + i] := List.getElem?_eq_getElem hk
    generalize lf[total + 1 + i] = ot at hrow
    have hotl := hIi.len ot (List.mem_of_getElem? hrow)
    have hrgl := hIi.len rg (List.mem_of_getElem? hfi)
    have hbo := hb1 _ ot hrow (.inr (Nat.le_refl _))
    have hbr := hb1 _ rg hfi (.inl (Nat.le_refl _))
    have hbe1 : be e (total + 1) ≤ 8999 := Nat.le_trans (be_mono e (by omega)) hbe
    have hbe0 : be e total ≤ 8999 := Nat.le_trans (be_mono e (Nat.le_succ _)) hbe1
    obtain ⟨b, hb, hbt, hbL⟩ := hbi.get hrow
    refine ⟨_, rfl, _, rfl, L, _, _, _, rfl, rfl, SqL.of hLi, at_int (j := total + 1 + i) (by omega) (ref_get hb), _, rfl, b, _, _, _, rfl, rfl, SqL.of hbt, atI_co (by omega), ?_⟩
    refine ⟨_, rfl, _, rfl, L, _, _, _, rfl, rfl, SqL.of hLi, at_int (j := total + 1 + i) (by omega) (ref_get hb), ?_⟩
    refine ⟨_, rfl, fb, rfl, ⟨_, SqL.of hfbi⟩, fun D2 nD2 => ?_⟩
    refine lc_it (walk_list (K := K) (a := fb) (xs := rg.map V.int)) (fun c Hc => Same Hi Hc ∧ Hc D2 = some (.lst (((rg.take c).map fun v => co ot at' * v).map V.int))) ⟨same_upd nD2, upd_same⟩ (fun c Hc _ h => SqL.of (h.1 _ _ hfbi)) ?_ ?_
    · rintro c x Hc Hc2 hc ⟨sc, hDc⟩ ⟨rfl, hx⟩
      obtain ⟨n, hn, rfl⟩ := get_map hx
      rw [List.length_map] at hc
      refine ⟨rfl, _, rfl, _, rfl, _, _, rfl, rfl, mulOk (hbo at') (hbr.mem (mem_of_get hn)) (by omega), _, hDc, ?_, same_mut sc nD2, ?_⟩
      · rw [List.length_map, List.length_map, List.length_take]
        exact bigLine (by omega)
      · rw [upd_same, List.take_add_one, hn, List.map_append, List.map_append]
        rfl
    rintro Hj ⟨sj, hD2⟩
    rw [List.length_map, List.take_length] at hD2
    refine ⟨_, rfl, _, rfl, by omega, by omega, fun D3 nD3 => ?_⟩
    refine lc_range (lo := 0) (n := ((wd : Nat) : Int).toNat) (fun c Hc => Same Hj Hc ∧ Hc D3 = some (.lst (((List.range c).map fun p => co rg at' * co ot p - co ot at' * co rg p).map V.int))) ⟨same_upd nD3, upd_same⟩ ?_ ?_
    · rintro c Hc hc ⟨sc, hDc⟩
      have hc : c < wd := by omega
      have sic := sj.trans sc
      have hD2c : ((rg.map fun v => co ot at' * v).map V.int)[c]? = some (.int (co ot at' * co rg c)) := by
        rw [List.getElem?_map, List.getElem?_map, get_co (by omega)]
        rfl
      refine ⟨rfl, _, rfl, _, rfl, fb, _, _, _, rfl, rfl, SqL.of (sic _ _ hfbi), atI_co (by omega), _, rfl, _, rfl, b, _, _, _, rfl, rfl, SqL.of (sic _ _ hbt), at_int (j := c) (by omega) (int_get (by omega)), _, _, rfl, rfl, mulOk (hbr at') (hbo c) (by omega),
        _, rfl, _, rfl, D2, _, _, _, rfl, rfl, SqL.of (sc _ _ hD2), at_int (j := c) (by omega) hD2c, _, _, rfl, rfl, _, hDc, ?_, same_mut sc nD3, ?_⟩
      · rw [List.length_map, List.length_map, List.length_range]
        exact bigLine (by omega)
      · rw [upd_same, List.range_succ, List.map_append, List.map_append]
        rfl
    rintro Hk ⟨sk, hD3⟩
    rw [Int.toNat_natCast] at hD3
    have sik := sj.trans sk
    refine ⟨D3, crossL wd rg ot at', rfl, hD3, by rw [crossL_len]; exact hw1, (Bd.cross hrgl hotl hbr hbo).mono (by show be e (total + 1) ≤ 9000; omega), fun H7 z s7 hz1 hz7 => ?_⟩
    have hL7 := s7 _ _ (sik _ _ hLi)
    have hzL : z ≠ L := by
      rcases hz1 with rfl | hz1
      · exact (ne_of_none (sj _ _ hLi) nD3).symm
      · exact (ne_of_none (sik _ _ hLi) hz1).symm
    refine ⟨_, rfl, _, rfl, L, _, _, total + 1 + i, rfl, rfl, hL7, ixN_int (by omega) (by rw [List.length_map, hbi.len]; exact hk), ?_⟩
    obtain ⟨hE, hE0⟩ := hIi.elim hfi hg3 hrow (by omega) rfl
    refine ⟨lf.set (total + 1 + i) (thinL (crossL wd rg ot at')), _, _, _, _, _, _, rfl, same_mut (si.trans (sik.trans s7)) nL, ⟨bsi.set (total + 1 + i) z, by rw [upd_same, ref_set], ?_⟩, hE, by rw [List.getElem?_set_ne (by omega)]; exact hfi, ?_, fun j r hr h1 h2 => ?_, fun j r hr h1 => ?_, fun r hr => ?_⟩
    · exact (RowsL.set hz7 hzL (hbi.same (sik.trans s7))).upd
    · rw [upd_ne hfbL]
      exact s7 _ _ (sik _ _ hfbi)
    · by_cases z : j = total + 1 + i
      · subst z
        rw [List.getElem?_set_self hk] at hr
        rw [← Option.some.inj hr]
        exact hE0
      · rw [List.getElem?_set_ne (Ne.symm z)] at hr
        exact hz j r hr h1 (by omega)
    · have z : j ≠ total + 1 + i := by omega
      rw [List.getElem?_set_ne (Ne.symm z)] at hr
      exact hb1 j r hr (by omega)
    · rcases mem_set_of hr with hr | rfl
      · exact hb2 r hr
      · exact (Bd.cross hrgl hotl hbr hbo).thin
  rintro σ H9 ⟨lf, v8', v9', v10', v11', v12', v13', rfl, s9, hL9, hI9, hf9, hfb9, hz9, hb9, hb9'⟩
  have hlf : lf.length = left8.length := hI9.n.trans hn8'.symm
  refine ⟨_, rfl, _, _, rfl, rfl, ?_⟩
  refine ⟨_, rfl, _, _, rfl, rfl, ?_⟩
  exact ⟨wd - (at' + 1), by omega, total + 1, at' + 1, lf, _, _, _, _, _, _, _, _, _, rfl, s9, hL9, hI9.next hf9 hg3 fun j r hr h => hz9 j r hr h (by have := (List.getElem?_eq_some_iff.mp hr).1; omega), by omega, hb9', rfl⟩
end
end K42
namespace K42
open PySem PySem.Spec PyProof.Rows L2 LA
/-! ### the law's numbers -/
theorem zip_range {r s : List Int} {wd : Nat} (hr : r.length = wd) (hs : s.length = wd) : List.zipWith (fun n t => n * t) r s = (List.range wd).map fun p => co r p * co s p := by
  apply List.ext_getElem
  · rw [List.length_zipWith, List.length_map, List.length_range]
    omega
  · intro i h1 h2
    rw [List.length_zipWith] at h1
    rw [List.getElem_zipWith, List.getElem_map, List.getElem_range, co_lt, co_lt]
theorem sum_dot (r s : List Int) (wd : Nat) : ((List.range wd).map fun p => co r p * co s p).sum = dot wd (co r) (co s) := by
  induction wd with
  | zero => rfl
  | succ n ih =>
    rw [List.range_succ, List.map_append, List.sum_append, ih]
    show _ + (co r n * co s n + 0) = _
    rw [Int.add_zero]
    rfl
/-- a row of the law -/
def Small (r : List Int) : Prop := ∀ x ∈ r, x.natAbs < 2 ^ 30
theorem Small.bd {r : List Int} (h : Small r) : Bd 30 r := fun p => by
  by_cases q : p < r.length
  · rw [co_lt q]
    exact h _ (List.getElem_mem q)
  · rw [co_ge (by omega)]
    decide
/-- all but the pool stands -/
def KeepP (p : Addr) (H H' : Hp) : Prop := ∀ b x, H b = some x → b ≠ p → H' b = some x
theorem KeepP.refl (p : Addr) (H : Hp) : KeepP p H H := fun _ _ h _ => h
theorem KeepP.trans {p : Addr} {H H1 H2 : Hp} (a : KeepP p H H1) (b : KeepP p H1 H2) : KeepP p H H2 := fun c x h n => b c x (a c x h n) n
theorem KeepP.of {p : Addr} {H H1 : Hp} (s : Same H H1) : KeepP p H H1 := fun c x h _ => s c x h
theorem KeepP.take {p : Addr} {H H1 : Hp} (f : ∀ b, b ≠ p → H1 b = H b) : KeepP p H H1 := fun b x e n => by
  rw [f b n]
  exact e
theorem KeepP.mut {p : Addr} {H H1 : Hp} {q : Addr} {u : HO} (s : KeepP p H H1) (h : H q = none) : KeepP p H (upd H1 q u) := fun b x e n => by
  rw [upd_ne (ne_of_none e h)]
  exact s _ _ e n
theorem KeepP.same {p : Addr} {H H1 H2 : Hp} (s : Same H H1) (k : KeepP p H1 H2) (h : H p = none) : Same H H2 := fun b x e => k b x (s b x e) (ne_of_none e h)
theorem KeepP.free {p : Addr} {H H' : Hp} (e : KeepP p H H') {q : Addr} (h : H' q = none) (n : q ≠ p) : H q = none := by
  cases r : H q with
  | none => rfl
  | some x =>
    rw [e q x r n] at h
    cases h
theorem PoolAt.ne {H : Hp} {p q : Addr} (P : PoolAt H p) (h : H q = none) : q ≠ p := by
  obtain ⟨x, y, e, _⟩ := P
  exact (ne_of_none e h).symm
theorem PoolAt.ne_tup {H : Hp} {p q : Addr} {xs : List V} (P : PoolAt H p) (h : H q = some (.tup xs)) : q ≠ p := by
  obtain ⟨x, y, e, _⟩ := P
  exact ne_of h e (by intro z; cases z)
theorem PoolAt.off {H : Hp} {p q : Addr} {o : HO} (P : PoolAt H p) (h : q ≠ p) : PoolAt (upd H q o) p := by
  obtain ⟨x, y, e, r⟩ := P
  exact ⟨x, y, by rw [upd_ne (Ne.symm h)]; exact e, r⟩
theorem atI_ex {α : Type} {xs : List α} {r : Int} (h0 : 0 ≤ r) (h1 : r < xs.length) : ∃ c, atI xs r = some c ∧ c ∈ xs := by
  obtain ⟨j, rfl⟩ : ∃ j : Nat, r = (j : Int) := ⟨r.toNat, by omega⟩
  have hj : j < xs.length := by omega
  exact ⟨xs[j], atI_nat (List.getElem?_eq_getElem hj), List.getElem_mem hj⟩
theorem be_ok : ∀ t, t ≤ 4 → ∀ wd, wd ≤ 5 → be (bits 30 t + t * bits 30 t + 1) (wd - t - 1) ≤ 8999 := by decide +kernel
theorem bits_ok : ∀ t, t ≤ 4 → bits 30 t ≤ 9000 ∧ bits 30 t + t * bits 30 t + 1 ≤ 8999 := by decide +kernel
theorem eqv_same (rs : List (List Int)) : PyData.eqv (dRows rs) (dRows rs) = true := SeqAt.eqv_refl _ (SeqAt.canLay_of_shaped (shaped_rows rs))
def spLaw (K : PySem.W.Frag) : Sp := fun vs H Q _ => ∃ (p : Addr) (ns : List Int), vs = [.ref p] ∧ SqL K H p (ns.map V.int) ∧ ns.length ≤ 63 ∧ ∀ H', Q (.bl true) H'
section
variable {P : Program} {w : World} {K : PySem.W.Frag} {mg : Str → Option Value} {base : Heap} {a : Ads}
theorem sql_same {K : PySem.W.Frag} {H H' : Hp} {p : Addr} {xs : List V} (s : Same H H') (h : SqL K H p xs) : SqL K H' p xs := by
  rcases h with h | h
  · rcases h with h | ⟨o, h⟩
    · exact .inl (.inl (s _ _ h))
    · exact .inl (.inr ⟨o, s _ _ h⟩)
  · exact .inr h
theorem sc_law : FnScope ["_law_script", "_law_k", "_law_pool_here", "_law_turn", "_law_given", "_law_told", "_law_row", "_law_wide", "_law_rows", "_law_other", "_law_due", "_law_at"] ["_law_script"] (defScope s_law) := ⟨rfl, rfl, rfl, by decide +kernel, rfl, by decide +kernel, by decide +kernel⟩
theorem ok_law (T : Txt K mg a) : FnOk P w K mg base CX0 8 a.f_law a.f_law_d ["_law_script"] (spLaw K) := by
  refine T.F_law.ok sc_law (fun vs H Q E h => ?_) (fun cdv A outer s H vs Q E hr h => ?_)
  · obtain ⟨p, ns, rfl, _⟩ := h
    rfl
  obtain ⟨scr, zs, rfl, hS, hlen, q⟩ := h
  refine ⟨_, (pss_cons (ps_for PassesOwn.never rfl (pi_range1 (by rfl) T.range (pa_cons (pe_callB (call_max2 rfl) (by rfl) T.max (by decide +kernel) (pa_cons pe_int (pa_cons (pe_callB (call_min2 rfl) (by rfl) T.min (by decide +kernel) (pa_cons (pe_callB call_len_seq (by rfl) T.len PySem.boot_len (pa_cons (pv 0) pa_nil)) (pa_cons pe_int pa_nil))) pa_nil))) pa_nil)) (pg_name (i := 1) sc_law.nd rfl (Or.inl rfl))
      (pss_cons (ps_set (i := 2) sc_law.nd rfl (Or.inr rfl) (pe_call (ok__law_pool T) (hr.mono (by decide)) (by rfl) T.g__law_pool T.F__law_pool.kp T.b__law_pool .nil pass0 (pa_cons (pv 0) (pa_cons (pv 1) pa_nil))))
      (pss_cons (ps_asg (pe_tup (pa_cons (pe_op op_add pe_int (pe_call (ok__law_take T) (hr.mono (by decide)) (by rfl) T.g__law_take T.F__law_take.kp T.b__law_take .nil pass0 (pa_cons (pv 2) (pa_cons pe_int pa_nil)))) (pa_cons (pe_lst pa_nil) pa_nil))) (pg_tup (by rfl) (pgs_cons (pg_name (i := 7) sc_law.nd rfl (Or.inl rfl)) (pgs_cons (pg_name (i := 8) sc_law.nd rfl (Or.inr rfl)) pgs_nil))))
      (pss_cons (ps_for PassesOwn.never rfl (pi_range1 (by rfl) T.range (pa_cons (pe_call (ok__law_take T) (hr.mono (by decide)) (by rfl) T.g__law_take T.F__law_take.kp T.b__law_take .nil pass0 (pa_cons (pv 2) (pa_cons pe_int pa_nil))) pa_nil)) (pg_name (i := 3) sc_law.nd rfl (Or.inl rfl))
        (pss_one (ps_expr (pe_bm PySem.F.plainAttrs_list PySem.F.slot_list_append PySem.F.type_list_append mt_append (pv 8) (pa_cons (pe_callTy call_tuple_of (by rfl) T.tuple (by decide +kernel) (pa_cons (pe_lc (own := [("_law_at", 11)]) (g := gName 11) (tt := tYes) (by rfl) sc_law.nd (pi_range1 (by rfl) T.range (pa_cons (pv 7) pa_nil)) (blkOk_by (own := [("_law_at", 11)]) (N := ["_law_script", "_law_k", "_law_pool_here", "_law_turn", "_law_given", "_law_told", "_law_row", "_law_wide", "_law_rows", "_law_other", "_law_due", "_law_at"]) (sc := defScope s_law) (by decide +kernel)) (fun _ _ _ _ _ => pg_name (i := 11) sc_law.nd rfl (Or.inl rfl)) (fun _ _ _ _ _ => pts_nil) (fun _ _ _ _ _ => (pe_ix (show IxR _ (rIxL K) from ix_list) (pe_lst (pa_cons pe_int (pa_cons pe_int (pa_cons (pe_un un_neg pe_int) (pa_cons pe_int (pa_cons (pe_un un_neg pe_int) (pa_cons (pe_op op_pow pe_int pe_int) pa_nil))))))) (pe_call (ok__law_take T) (hr.mono (by decide)) (by rfl) T.g__law_take T.F__law_take.kp T.b__law_take .nil pass0 (pa_cons (pv 2) (pa_cons pe_int pa_nil))) (fun _ _ => rfl)))) pa_nil)) pa_nil)))))
      (pss_cons (ps_set (i := 4) sc_law.nd rfl (Or.inl rfl) (pe_callTy call_list_of (by rfl) T.list (by decide +kernel) (pa_cons (pv 8) pa_nil)))
      (pss_cons (ps_set (i := 5) sc_law.nd rfl (Or.inl rfl) (pe_call (ok_kernel T) (hr.mono (by decide)) (by rfl) T.g_kernel T.F_kernel.kp T.b_kernel .nil pass0 (pa_cons (pv 4) (pa_cons (pv 7) pa_nil))))
      (pss_cons (ps_if (pt_cmpR (op_neD hr.units) (pv 4) (pv 8) (nomark _))
        (pss_one (ps_ret pe_bl))
        pss_nil)
      (pss_cons (ps_if (PW.pt (pw_or (pt_not (pt_val (pe_callB call_isi (by rfl) T.isinstance (by decide +kernel) (pa_cons (pv 5) (pa_cons (pe_bltn (v := .ty "list") (by rfl) T.list (by decide +kernel) rfl) pa_nil))))) (pw_or (pt_cmpR op_ne (pe_callB call_len_seq (by rfl) T.len PySem.boot_len (pa_cons (pv 5) pa_nil)) (pe_op op_sub (pv 7) (pe_call (ok__law_rank T) (hr.mono (by decide)) (by rfl) T.g__law_rank T.F__law_rank.kp T.b__law_rank .nil pass0 (pa_cons (pv 8) pa_nil))) (nomark _)) (pw_or1 (pt_cmpR op_ne (pe_call (ok__law_rank T) (hr.mono (by decide)) (by rfl) T.g__law_rank T.F__law_rank.kp T.b__law_rank .nil pass0 (pa_cons (pv 5) pa_nil)) (pe_callB call_len_seq (by rfl) T.len PySem.boot_len (pa_cons (pv 5) pa_nil)) (nomark _))))))
        (pss_one (ps_ret pe_bl))
        pss_nil)
      (pss_cons (ps_for PassesOwn.never rfl (pi_list (pv 5)) (pg_name (i := 6) sc_law.nd rfl (Or.inr rfl))
        (pss_cons (ps_if (PW.pt (pw_or (pt_not (pt_val (pe_callB call_isi (by rfl) T.isinstance (by decide +kernel) (pa_cons (pv 6) (pa_cons (pe_bltn (v := .ty "tuple") (by rfl) T.tuple (by decide +kernel) rfl) pa_nil))))) (pw_or1 (pt_cmpR op_ne (pe_callB call_len_seq (by rfl) T.len PySem.boot_len (pa_cons (pv 6) pa_nil)) (pv 7) (nomark _)))))
          (pss_one (ps_ret pe_bl))
          pss_nil)
        (pss_one (ps_for PassesOwn.never rfl (pi_list (pv 8)) (pg_name (i := 9) sc_law.nd rfl (Or.inr rfl))
          (pss_cons (ps_set (i := 10) sc_law.nd rfl (Or.inl rfl) (pe_callB (cr_sum rfl) (by rfl) T.sum (by decide +kernel) (pa_cons (pe_lc (own := [("_law_at", 11)]) (g := gName 11) (tt := tYes) (by rfl) sc_law.nd (pi_range1 (by rfl) T.range (pa_cons (pv 7) pa_nil)) (blkOk_by (own := [("_law_at", 11)]) (N := ["_law_script", "_law_k", "_law_pool_here", "_law_turn", "_law_given", "_law_told", "_law_row", "_law_wide", "_law_rows", "_law_other", "_law_due", "_law_at"]) (sc := defScope s_law) (by decide +kernel)) (fun _ _ _ _ _ => pg_name (i := 11) sc_law.nd rfl (Or.inl rfl)) (fun _ _ _ _ _ => pts_nil) (fun _ _ _ _ _ => (pe_op op_mul (pe_ix (show IxR _ (rIxT K) from ix_tup) (pv 6) (pv 11) (fun _ _ => rfl)) (pe_ix (show IxR _ (rIxT K) from ix_tup) (pv 9) (pv 11) (fun _ _ => rfl))))) pa_nil)))
          (pss_one (ps_if (PW.pt (pw_or (pt_cmpR op_ne (pv 10) pe_int (nomark _)) (pw_or1 (pt_cmpR op_ne (pe_call (ok_product T) (hr.mono (by decide)) (by rfl) T.g_product T.F_product.kp T.b_product .nil pass0 (pa_cons (pv 6) (pa_cons (pv 9) pa_nil))) (pv 10) (nomark _)))))
            (pss_one (ps_ret pe_bl))
            pss_nil)))))))
      (pss_one (ps_if (pt_cmpR op_gt (pe_callB call_len_seq (by rfl) T.len PySem.boot_len (pa_cons (pv 8) pa_nil)) pe_int (nomark _))
        (pss_one (ps_if (pt_cmpR op_ne (pe_call (ok_product T) (hr.mono (by decide)) (by rfl) T.g_product T.F_product.kp T.b_product .nil pass0 (pa_cons (pe_ix ix_list (pv 8) pe_int (fun _ _ => rfl)) (pa_cons (pe_ix ix_list (pv 8) pe_int (fun _ _ => rfl)) pa_nil))) (pe_callB (cr_sum rfl) (by rfl) T.sum (by decide +kernel) (pa_cons (pe_lc (own := [("_law_at", 11)]) (g := gName 11) (tt := tYes) (by rfl) sc_law.nd (pi_range1 (by rfl) T.range (pa_cons (pv 7) pa_nil)) (blkOk_by (own := [("_law_at", 11)]) (N := ["_law_script", "_law_k", "_law_pool_here", "_law_turn", "_law_given", "_law_told", "_law_row", "_law_wide", "_law_rows", "_law_other", "_law_due", "_law_at"]) (sc := defScope s_law) (by decide +kernel)) (fun _ _ _ _ _ => pg_name (i := 11) sc_law.nd rfl (Or.inl rfl)) (fun _ _ _ _ _ => pts_nil) (fun _ _ _ _ _ => (pe_op op_mul (pe_ix (show IxR _ (rIxT K) from ix_tup) (pe_ix (show IxR _ (rIxL K) from ix_list) (pv 8) pe_int (fun _ _ => rfl)) (pv 11) (fun _ _ => rfl)) (pe_ix (show IxR _ (rIxT K) from ix_tup) (pe_ix (show IxR _ (rIxL K) from ix_list) (pv 8) pe_int (fun _ _ => rfl)) (pv 11) (fun _ _ => rfl))))) pa_nil)) (nomark _))
          (pss_one (ps_ret pe_bl))
          pss_nil))
        pss_nil)))))))))))
    (pss_one (ps_ret (pe_and (pe_cmpR (op_neD hr.units) (pe_call (ok_kernel T) (hr.mono (by decide)) (by rfl) T.g_kernel T.F_kernel.kp T.b_kernel .nil pass0 (pa_cons (pe_lst (pa_cons (pe_tup (pa_cons pe_int (pa_cons pe_int pa_nil))) pa_nil)) (pa_cons pe_int pa_nil))) (pe_lst pa_nil) (nomark _)) (pe_and (pe_cmpR (op_eqD hr.units) (pe_call (ok_kernel T) (hr.mono (by decide)) (by rfl) T.g_kernel T.F_kernel.kp T.b_kernel .nil pass0 (pa_cons (pe_lst (pa_cons (pe_tup (pa_cons pe_int pa_nil)) pa_nil)) (pa_cons pe_int pa_nil))) (pe_lst pa_nil) (nomark _)) (pe_one (pe_cmpR op_eq (pe_callB call_len_seq (by rfl) T.len PySem.boot_len (pa_cons (pe_call (ok_kernel T) (hr.mono (by decide)) (by rfl) T.g_kernel T.F_kernel.kp T.b_kernel .nil pass0 (pa_cons (pe_lst pa_nil) (pa_cons pe_int pa_nil))) pa_nil)) pe_int (nomark _)))))))), ?_⟩
  refine ⟨_, rfl, scr, _, rfl, .inl hS, _, _, rfl, _, _, rfl, _, rfl, ?_⟩
  rw [List.length_map]
  refine ⟨by split <;> split <;> omega, by split <;> split <;> omega, ?_⟩
  refine for_range (lo := 0) (n := _) (fun k σ H' => ∃ v1 v2 v3 v4 v5 v6 v7 v8 v9 v10 v11, σ = [some (.ref scr), v1, v2, v3, v4, v5, v6, v7, v8, v9, v10, v11] ∧ Same H H') ⟨_, _, _, _, _, _, _, _, _, _, _, rfl, Same.refl H⟩ ?_ ?_
  · rintro k σ H1 hk ⟨v1, v2, v3, v4, v5, v6, v7, v8, v9, v10, v11, rfl, s1⟩
    have hk8 : k ≤ 8 := by
      revert hk
      split <;> split <;> omega
    -- the pool
    refine ⟨_, rfl, _, rfl, scr, k, zs, by rw [Int.zero_add]; rfl, sql_same s1 hS, by omega, hlen, fun H2 pp s2 np P2 => ?_⟩
    have npH : H pp = none := s1.free np
    have s02 := s1.trans s2
    -- the width
    refine ⟨_, rfl, pp, 5, rfl, P2, by decide, by decide, fun r H3 r0 r1 P3 f3 => ⟨_, _, rfl, rfl, (by show 0 ≤ sizeLine; decide), fun R nR => ⟨(by show 2 ≤ sizeLine; decide), fun t nt => ⟨t, _, rfl, SqT.of upd_same, rfl, _, _, rfl, _, _, rfl, rfl, ?_⟩⟩⟩⟩
    obtain ⟨wd, hwd⟩ : ∃ wd : Nat, 1 + r = (wd : Int) := ⟨(1 + r).toNat, by omega⟩
    have hwd1 : 1 ≤ wd ∧ wd ≤ 5 := by omega
    have s03 : Same H H3 := KeepP.same s02 (KeepP.take f3) npH
    have nRH : H R = none := s03.free nR
    have s04 : Same H (upd (upd H3 R (.lst [])) t (.tup [.int (wd : Int), .ref R])) := (s03.trans (same_upd nR)).trans (same_upd nt)
    have P4 : PoolAt (upd (upd H3 R (.lst [])) t (.tup [.int (wd : Int), .ref R])) pp := (P3.same (same_upd nR)).same (same_upd nt)
    have hR4 : (upd (upd H3 R (.lst [])) t (.tup [.int (wd : Int), .ref R])) R = some (.lst []) := same_upd nt _ _ upd_same
    have hRp : R ≠ pp := P3.ne nR
    show tSeq _ _ _ [some (.ref scr), some (.int (0 + (k : Int))), some (.ref pp), v3, v4, v5, v6, some (.int (1 + r)), some (.ref R), v9, v10, v11] (upd (upd H3 R (.lst [])) t (.tup [.int (1 + r), .ref R]))
    rw [hwd]
    generalize (upd (upd H3 R (.lst [])) t (.tup [.int (wd : Int), .ref R])) = H4 at s04 P4 hR4 ⊢
    clear nt nR f3 P3 s03 s02 np P2 s2 s1 hwd r0 r1 r H1 H2 H3
    dsimp only [gName]
    -- the rows
    refine ⟨_, rfl, pp, 5, rfl, P4, by decide, by decide, fun r H5 r0 r1 P5 f5 => ⟨r, rfl, by omega, by omega, ?_⟩⟩
    have s05 : Same H H5 := KeepP.same s04 (KeepP.take f5) npH
    have hR5 : H5 R = some (.lst []) := by rw [f5 R hRp]; exact hR4
    refine for_range (lo := 0) (n := r.toNat) (fun i σ H' => ∃ (as : List Addr) (rows : List (List Int)) (v3 v4 v5 v6 v9 v10 v11 : Option V), σ = [some (.ref scr), some (.int (0 + (k : Int))), some (.ref pp), v3, v4, v5, v6, some (.int (wd : Int)), some (.ref R), v9, v10, v11] ∧
        Same H H' ∧ PoolAt H' pp ∧ H' R = some (.lst (as.map V.ref)) ∧ RowsAt H' as rows ∧ rows.length = i ∧ ∀ r ∈ rows, r.length = wd ∧ Small r)
      ⟨[], [], _, _, _, _, _, _, _, rfl, s05, P5, hR5, trivial, rfl, fun _ h => (by cases h)⟩ ?_ ?_
    · rintro i σ H6 hi ⟨as, rows, v3, v4, v5, v6, v9, v10, v11, rfl, s6, P6, hR6, hRs6, hrl, hrs⟩
      refine ⟨_, rfl, .inl ⟨rfl, _, SqL.of hR6⟩, _, rfl, _, rfl, by omega, by omega, fun D nD => ?_⟩
      have hDp := P6.ne nD
      refine lc_range (lo := 0) (n := ((wd : Nat) : Int).toNat) (fun c Hc => ∃ r : List Int, r.length = c ∧ Small r ∧ PoolAt Hc pp ∧ KeepP pp H6 Hc ∧ Hc D = some (.lst (r.map V.int))) ⟨[], rfl, fun _ h => (by cases h), P6.same (same_upd nD), KeepP.of (same_upd nD), upd_same⟩ ?_ ?_
      · rintro c Hc hc ⟨r, hrc, hrS, Pc, kc, hDc⟩
        refine ⟨rfl, _, rfl, _, rfl, _, _, rfl, rfl, ⟨by decide, by decide, by decide⟩, (by show 6 ≤ sizeLine; decide), fun l nl => ⟨_, rfl, pp, 6, rfl, Pc.same (same_upd nl), by decide, by decide, fun x Hd x0 x1 Pd fd => ?_⟩⟩
        have hlp := Pc.ne nl
        have hDl : D ≠ l := ne_of_none hDc nl
        obtain ⟨v, hv, hmem⟩ := atI_ex (xs := [V.int 0, V.int 1, V.int (-1), V.int 2, V.int (-3), V.int (10 ^ Int.toNat 9)]) x0 (by show x < 6; exact x1)
        obtain ⟨n, rfl, hn⟩ : ∃ n : Int, v = .int n ∧ n.natAbs < 2 ^ 30 := by
          simp only [List.mem_cons, List.not_mem_nil, or_false] at hmem
          rcases hmem with rfl | rfl | rfl | rfl | rfl | rfl <;> exact ⟨_, rfl, by decide⟩
        have hl2 : Hd l = some (.lst [V.int 0, V.int 1, V.int (-1), V.int 2, V.int (-3), V.int (10 ^ Int.toNat 9)]) := by rw [fd l hlp, upd_same]
        have hD2 : Hd D = some (.lst (r.map V.int)) := by rw [fd D hDp, upd_ne hDl]; exact hDc
        refine ⟨l, _, _, _, rfl, rfl, SqL.of hl2, hv, _, hD2, ?_, r ++ [n], by rw [List.length_append]; exact congrArg (· + 1) hrc, fun y hy => ?_, Pd.off hDp, ?_, ?_⟩
        · rw [List.length_map, hrc]
          exact bigLine (by omega)
        · rcases List.mem_append.mp hy with hy | hy
          · exact hrS y hy
          · rw [List.mem_singleton.mp hy]; exact hn
        · exact (kc.trans ((KeepP.of (same_upd nl)).trans (KeepP.take fd))).mut nD
        · rw [upd_same, List.map_append]
          rfl
      · rintro Hc ⟨r, hrc, hrS, Pc, kc, hDc⟩
        have hrw : r.length = wd := by omega
        have hRc : Hc R = some (.lst (as.map V.ref)) := kc _ _ hR6 hRp
        have hRsc : RowsAt Hc as rows := hRs6.imp fun b r e => kc _ _ e (P6.ne_tup e)
        refine ⟨D, _, rfl, .inl ⟨SqL.of hDc, fun l nl => ?_⟩⟩
        have hRl : R ≠ l := ne_of_none hRc nl
        have hR7 : (upd Hc l (.tup (r.map V.int))) R = some (.lst (as.map V.ref)) := by rw [upd_ne hRl]; exact hRc
        refine ⟨R, _, _, rfl, rfl, hR7, ?_, ?_⟩
        · rw [List.length_map, hRs6.len, hrl]
          exact bigLine (by omega)
        refine ⟨as ++ [l], rows ++ [r], _, _, _, _, _, _, _, rfl, same_mut ((KeepP.same s6 kc npH).trans (same_upd nl)) nRH, (Pc.same (same_upd nl)).off hRp, by rw [upd_same, List.map_append]; rfl, ?_, by rw [List.length_append, hrl]; rfl, fun y hy => ?_⟩
        · exact RowsAt.app (by rw [upd_ne (Ne.symm hRl), upd_same]) ((hRsc.same (same_upd nl)).off hR7 fun _ z => by cases z)
        · rcases List.mem_append.mp hy with hy | hy
          · exact hrs y hy
          · rw [List.mem_singleton.mp hy]; exact ⟨hrw, hrS⟩
    rintro σ H6 ⟨as, rows, v3, v4, v5, v6, v9, v10, v11, rfl, s6, P6, hR6, hRs6, hrl, hrs⟩
    have hr4 : rows.length ≤ 4 := by omega
    clear hrl P6 f5 P5 s05 hR5 r0 r1 hR4 s04 P4 hRp nRH H4 H5
    -- given, told
    refine ⟨_, rfl, R, _, rfl, .inl (SqL.of hR6), fun G nG => ?_⟩
    have s7 : Same H6 (upd H6 G (.lst (as.map V.ref))) := same_upd nG
    have hG7 : (upd H6 G (.lst (as.map V.ref))) G = some (.lst (as.map V.ref)) := upd_same
    have sH7 := s6.trans s7
    have hR7 := s7 _ _ hR6
    have hRs7 := hRs6.same s7
    show tSeq _ _ _ _ (upd H6 G (.lst (as.map V.ref)))
    generalize (upd H6 G (.lst (as.map V.ref))) = H7 at hG7 sH7 hR7 hRs7 ⊢
    clear s7 nG hR6 hRs6 s6 H6
    have hrb : ∀ r ∈ rows, r.length = wd ∧ Bd 30 r := fun r hr => ⟨(hrs r hr).1, (hrs r hr).2.bd⟩
    obtain ⟨hT, hTe⟩ := tab_ok (w := wd) fun x hx => (hrs x hx).1
    have hBt : Bits 30 (tabL rows) := tabF_bits (w := wd) _ _ (.nil wd) (.nil 30) hrb
    have ht4 : (tabL rows).length ≤ 4 := by
      have h := tab_len_n rows []
      have h : (tabL rows).length ≤ 0 + rows.length := h
      omega
    have htw := tab_len_le hT
    refine ⟨_, rfl, _, rfl, G, wd, as, rows, 30, rfl, hG7, hRs7, hrb, by omega, by omega, (bits_ok _ hr4).1, (bits_ok _ ht4).2, fun H8 L bs s8 nL hL8 hbs8 => ?_⟩
    have hkl : ∀ r ∈ (freesOf wd (tabL rows)).map (fun f => kernelL (tabL rows) f wd), r.length = wd ∧ Bd (bits 30 (tabL rows).length + (tabL rows).length * bits 30 (tabL rows).length + 1) r ∧ ∀ u ∈ rows, dot wd (co r) (co u) = 0 := fun r hr => by
      obtain ⟨f, hf, rfl⟩ := List.mem_map.mp hr
      obtain ⟨h1, h2⟩ := List.mem_filter.mp hf
      have h1 := List.mem_range.mp h1
      have h2 : f ∉ keysOf (tabL rows) := fun z => by rw [decide_eq_true z] at h2; cases h2
      exact ⟨kernelL_len _ _ _, (kernelL_bd hT hBt h1 h2).prim, fun u hu => kernelL_dot hT h1 h2 ((hTe _).mpr (.mem hu))⟩
    have hki := kernels_indep hT
    have hkn : ((freesOf wd (tabL rows)).map (fun f => kernelL (tabL rows) f wd)).length = wd - (tabL rows).length := by rw [List.length_map, frees_len hT]
    generalize (freesOf wd (tabL rows)).map (fun f => kernelL (tabL rows) f wd) = kr at hbs8 hkl hki hkn
    have hbl := hbs8.len
    have hG8 := s8 _ _ hG7
    have hR8 := s8 _ _ hR7
    have hRs8 := hRs7.same s8
    have sH8 := sH7.trans s8
    refine ⟨_, rfl, _, rfl, dRows rows, dRows rows, .lst (SqL.of hG8) (dp_rows hRs8), .lst (SqL.of hR8) (dp_rows hRs8), shaped_rows rows, shaped_rows rows, ?_⟩
    rw [eqv_same]
    refine ⟨_, rfl, iteF ?_⟩
    refine ⟨_, rfl, .ref L, .ty "list", .type "list", .type "list", true, rfl, .ty "list", .base (.lst hL8), kit_ty (by decide +kernel), true, rfl, iteF ?_⟩
    refine ⟨_, rfl, L, _, rfl, .inl (SqL.of hL8), _, rfl, _, rfl, R, wd, as, rows, 30, rfl, hR8, hRs8, hrb, by omega, by omega, Nat.le_trans (be_mono 30 (show rows.length - 1 ≤ 3 by omega)) (by decide), fun n H9 s9 hnle hrank => ?_⟩
    have hnt := hrank.tab hT hTe
    refine ⟨_, _, rfl, rfl, rfl, _, rfl, ite2 (fun e => ?_) (fun _ => ?_)⟩
    · exfalso
      rw [dint, List.length_map, hbl, hkn, hnt] at e
      have : ((wd - (tabL rows).length : Nat) : Int) = (wd : Int) - ((tabL rows).length : Int) := by omega
      rw [decide_eq_true this] at e
      cases e
    refine ⟨_, rfl, L, wd, bs, kr, _, rfl, s9 _ _ hL8, hbs8.same s9, fun r hr => ⟨(hkl r hr).1, (hkl r hr).2.1⟩, by omega, by omega, by rw [hkn]; exact be_ok _ ht4 _ hwd1.2, fun n2 H10 s10 hn2 hrank2 => ?_⟩
    have s810 := s9.trans s10
    have hL10 := s810 _ _ hL8
    have hn2' := hrank2.2 hki
    refine ⟨_, rfl, L, _, rfl, .inl (SqL.of hL10), rfl, _, rfl, ite2 (fun e => ?_) (fun _ => ?_)⟩
    · exfalso
      rw [dint, List.length_map, hbl, hn2'] at e
      simp at e
    have hR10 := s810 _ _ hR8
    have hRs10 := hRs8.same s810
    have hbs10 := hbs8.same s810
    have sH10 := sH8.trans s810
    -- the sum of the products of two rows, as the law makes it
    have due : ∀ {i5 i6 : V} {r s : List Int} {H1 : Hp} {b c : Addr} {σ : L2.St} {Qd : Hp → Prop} {te : TE} (D : Addr), H1 D = none → H1 b = some (.tup (r.map V.int)) → H1 c = some (.tup (s.map V.int)) → r.length = wd → s.length = wd → (∀ x ∈ s, x.natAbs < 2 ^ 30) → σ.length = 12 →
        (∀ (x : Nat) (H' : Hp) (Q' : VK), x < wd → Same H1 H' → Q' (.int (co r x * co s x)) H' → te ((wipe σ [11]).set 11 (some (.int (0 + (x : Nat))))) H' Q') →
        (∀ H', Same H1 H' → H' D = some (.lst (((List.range wd).map fun p => co r p * co s p).map V.int)) → Qd H') → Turns (Itr 0 ((wd : Nat) : Int).toNat) (gName 11) tYes te [11] σ H1 D Qd := fun {i5 i6 r s H1 b c σ Qd te} D nD hb hc hr hs hsm hσ hte hd => by
      refine lc_range (lo := 0) (n := ((wd : Nat) : Int).toNat) (fun c' Hc => Same H1 Hc ∧ Hc D = some (.lst (((List.range c').map fun p => co r p * co s p).map V.int))) ⟨same_upd nD, upd_same⟩ ?_ ?_
      · rintro x Hc hx ⟨sc, hDc⟩
        have hx : x < wd := by omega
        refine ⟨?_, hte x Hc _ hx sc ⟨_, hDc, ?_, same_mut sc nD, ?_⟩⟩
        · show (((wipe σ [11]).set 11 _).set 11 none) = _
          show ((σ.set 11 none).set 11 _).set 11 none = σ.set 11 none
          rw [List.set_set, List.set_set]
        · rw [List.length_map, List.length_map, List.length_range]
          exact bigLine (by omega)
        · rw [upd_same, List.range_succ, List.map_append, List.map_append]
          rfl
      · rintro Hc ⟨sc, hDc⟩
        rw [Int.toNat_natCast] at hDc
        exact hd Hc sc hDc
    refine ⟨_, rfl, L, rfl, ⟨_, SqL.of hL10⟩, for_it (walk_list (K := K) (a := L) (xs := bs.map V.ref)) (fun i σ H' => ∃ v6 v9 v10 v11, σ = [some (.ref scr), some (.int (0 + (k : Int))), some (.ref pp), v3, some (.ref G), some (.ref L), v6, some (.int (wd : Int)), some (.ref R), v9, v10, v11] ∧ Same H10 H')
      ⟨_, _, _, _, rfl, Same.refl _⟩ (fun i σ H' _ ⟨_, _, _, _, _, s1⟩ => SqL.of (s1 _ _ hL10)) ?_ ?_⟩
    · rintro i x σ H1 H2 hi ⟨v6, v9, v10, v11, rfl, s1⟩ ⟨rfl, hx⟩
      obtain ⟨b, hb, rfl⟩ := get_map hx
      obtain ⟨r, hrr, hbt⟩ := (hbs10.same s1).get hb
      obtain ⟨hrl, hrbd, hrd⟩ := hkl r (List.mem_of_getElem? hrr)
      refine ⟨_, rfl, .ref b, .ty "tuple", .type "tuple", .type "tuple", true, rfl, .ty "tuple", .base (.tup hbt), kit_ty (by decide +kernel), true, rfl, iteF ⟨_, rfl, b, _, rfl, .inr (SqT.of hbt), _, rfl, rfl, _, rfl, ite2 (fun e => ?_) (fun _ => ?_)⟩⟩
      · exfalso
        rw [dint, List.length_map, hrl] at e
        simp at e
      refine ⟨_, rfl, R, rfl, ⟨_, SqL.of (s1 _ _ hR10)⟩, for_it (walk_list (K := K) (a := R) (xs := as.map V.ref)) (fun i σ H' => ∃ v9 v10 v11, σ = [some (.ref scr), some (.int (0 + (k : Int))), some (.ref pp), v3, some (.ref G), some (.ref L), some (.ref b), some (.int (wd : Int)), some (.ref R), v9, v10, v11] ∧ Same H2 H')
        ⟨_, _, _, rfl, Same.refl _⟩ (fun i σ H' _ ⟨_, _, _, _, s2⟩ => SqL.of (s2 _ _ (s1 _ _ hR10))) ?_ ?_⟩
      · rintro i2 x2 σ H3 H4 hi2 ⟨v9, v10, v11, rfl, s2⟩ ⟨rfl, hx2⟩
        obtain ⟨c, hc, rfl⟩ := get_map hx2
        obtain ⟨u, huu, hct⟩ := ((hRs10.same s1).same s2).get hc
        have hum := List.mem_of_getElem? huu
        obtain ⟨hul, hus⟩ := hrs u hum
        have hb2 := s2 _ _ hbt
        refine ⟨_, rfl, _, rfl, by omega, by omega, fun D nD => due (i5 := .non) (i6 := .non) (r := r) (s := u) (b := b) (c := c) D nD hb2 hct hrl hul hus rfl ?_ ?_⟩
        · intro x H' Q' hx sx q'
          have hb' := sx _ _ hb2
          have hc' := sx _ _ hct
          exact ⟨_, rfl, _, rfl, b, _, _, _, rfl, rfl, SqT.of hb', at_int (j := x) (by omega) (int_get (by omega)), _, rfl, _, rfl, c, _, _, _, rfl, rfl, SqT.of hc', at_int (j := x) (by omega) (int_get (by omega)), _, _, rfl, rfl, .inr ⟨by
            have := hus.bd x
            omega, by
            have := hus.bd x
            omega⟩, q'⟩
        · intro H5 s5 hD5
          refine ⟨D, _, rfl, SqL.of hD5, ?_⟩
          have hz : ((List.range wd).map fun p => co r p * co u p).sum = 0 := by rw [sum_dot]; exact hrd u hum
          rw [hz]
          have hp0 : (List.zipWith (fun n t => n * t) r u).sum = 0 := by rw [zip_range hrl hul]; exact hz
          refine ⟨_, rfl, rfl, _, rfl, ite2 (fun e => ?_) (fun _ => ?_)⟩
          · simp at e
          refine ⟨_, rfl, _, rfl, b, c, r, u, _, 30, rfl, s5 _ _ hb2, s5 _ _ hct, by omega, by omega, hrbd, hus.bd, by have := (bits_ok _ ht4).2; omega, fun H6 s6 => ⟨_, rfl, rfl, _, rfl, ite2 (fun e => ?_) (fun _ => ?_)⟩⟩
          · rw [hp0] at e
            simp at e
          exact ⟨_, _, _, rfl, s2.trans (s5.trans s6)⟩
      · rintro σ H3 ⟨v9, v10, v11, rfl, s2⟩
        exact ⟨_, _, _, _, rfl, s1.trans s2⟩
    rintro σ H1 ⟨v6, v9, v10, v11, rfl, s1⟩
    have hR1 := s1 _ _ hR10
    have hRs1 := hRs10.same s1
    have sH1 := sH10.trans s1
    refine ⟨_, rfl, R, _, rfl, .inl (SqL.of hR1), _, _, rfl, rfl, _, rfl, ite2 (fun e => ?_) (fun _ => ?_)⟩
    rotate_left
    · exact ⟨_, _, _, _, _, _, _, _, _, _, _, rfl, sH1⟩
    have hlr : 1 < rows.length := by
      have := of_decide_eq_true e
      rw [List.length_map, hRs1.len] at this
      omega
    have hla : as.length = rows.length := hRs1.len
    have ha0 : as[0]? = some as[0] := List.getElem?_eq_getElem (by omega)
    have ha1 : as[1]? = some as[1] := List.getElem?_eq_getElem (by omega)
    generalize as[0] = a0 at ha0
    generalize as[1] = a1 at ha1
    obtain ⟨r0, hr0, ht0⟩ := hRs1.get ha0
    obtain ⟨r1, hr1, ht1⟩ := hRs1.get ha1
    obtain ⟨hl0, hs0⟩ := hrs r0 (List.mem_of_getElem? hr0)
    obtain ⟨hl1, hs1⟩ := hrs r1 (List.mem_of_getElem? hr1)
    refine ⟨_, rfl, R, _, _, _, rfl, rfl, SqL.of hR1, atI_nat (j := 0) (ref_get ha0), _, rfl, R, _, _, _, rfl, rfl, SqL.of hR1, atI_nat (j := 1) (ref_get ha1), a0, a1, r0, r1, 30, 30, rfl, ht0, ht1, by omega, by omega, hs0.bd, hs1.bd, by decide, fun H2 s2 => ?_⟩
    have hR2 := s2 _ _ hR1
    refine ⟨_, rfl, _, rfl, by omega, by omega, fun D nD => due (i5 := .non) (i6 := .non) (r := r0) (s := r1) (b := a0) (c := a1) D nD (s2 _ _ ht0) (s2 _ _ ht1) hl0 hl1 hs1 rfl ?_ ?_⟩
    · intro x H' Q' hx sx q'
      have hR' := sx _ _ hR2
      have h0' := sx _ _ (s2 _ _ ht0)
      have h1' := sx _ _ (s2 _ _ ht1)
      exact ⟨_, rfl, R, _, _, _, rfl, rfl, SqL.of hR', atI_nat (j := 0) (ref_get ha0), _, rfl, a0, _, _, _, rfl, rfl, SqT.of h0', at_int (j := x) (by omega) (int_get (by omega)), _, rfl, R, _, _, _, rfl, rfl, SqL.of hR', atI_nat (j := 1) (ref_get ha1),
        _, rfl, a1, _, _, _, rfl, rfl, SqT.of h1', at_int (j := x) (by omega) (int_get (by omega)), _, _, rfl, rfl, .inr ⟨by
          have := hs1.bd x
          omega, by
          have := hs1.bd x
          omega⟩, q'⟩
    · intro H5 s5 hD5
      refine ⟨D, _, rfl, SqL.of hD5, rfl, _, rfl, ite2 (fun e => ?_) (fun _ => ?_)⟩
      · rw [zip_range hl0 hl1] at e
        simp at e
      exact ⟨_, _, _, _, _, _, _, _, _, _, _, rfl, (sH1.trans s2).trans s5⟩
  · rintro σ H1 ⟨v1, v2, v3, v4, v5, v6, v7, v8, v9, v10, v11, rfl, s1⟩
    have e1 : freesOf 2 (tabL [[1, 1]]) = [1] := by decide +kernel
    have e2 : freesOf 1 (tabL [[2]]) = [] := by decide +kernel
    have e3 : freesOf 2 (tabL []) = [0, 1] := by decide +kernel
    have m1 : ∀ r ∈ [[(1 : Int), 1]], r.length = 2 ∧ Bd 30 r := fun r hr => by
      rw [List.mem_singleton.mp hr]
      exact ⟨rfl, Small.bd (by unfold Small; decide)⟩
    have m2 : ∀ r ∈ [[(2 : Int)]], r.length = 1 ∧ Bd 30 r := fun r hr => by
      rw [List.mem_singleton.mp hr]
      exact ⟨rfl, Small.bd (by unfold Small; decide)⟩
    refine ⟨(by show 2 ≤ sizeLine; decide), fun t nt => ⟨(by show 1 ≤ sizeLine; decide), fun l nl => ⟨l, 2, [t], [[1, 1]], 30, rfl, upd_same, ⟨same_upd nl _ _ upd_same, trivial⟩, m1, by decide, by decide, by decide +kernel, by decide +kernel, fun H2 L bs s2 nL hL hbs => ?_⟩⟩⟩
    refine ⟨(by show 0 ≤ sizeLine; decide), fun l0 nl0 => ⟨dRows _, .list [], .lst (SqL.of (same_upd nl0 _ _ hL)) (dp_rows (hbs.same (same_upd nl0))), .lst (xs := []) (SqL.of upd_same) .nil, shaped_rows _, by decide, ?_⟩⟩
    have z1 : PyData.eqv (dRows ((freesOf 2 (tabL [[1, 1]])).map fun f => kernelL (tabL [[1, 1]]) f 2)) (.list []) = false := by
      unfold dRows
      rw [eqv_nil, List.isEmpty_map, List.isEmpty_map, e1]
      rfl
    rw [z1]
    refine ⟨_, rfl, ite2 (fun _ => ?_) (fun e => absurd rfl e)⟩
    clear hbs hL z1
    generalize (upd H2 l0 (.lst [])) = H3
    refine ⟨(by show 1 ≤ sizeLine; decide), fun t nt => ⟨(by show 1 ≤ sizeLine; decide), fun l nl => ⟨l, 1, [t], [[2]], 30, rfl, upd_same, ⟨same_upd nl _ _ upd_same, trivial⟩, m2, by decide, by decide, by decide +kernel, by decide +kernel, fun H4 L2 bs2 s4 nL2 hL2 hbs2 => ?_⟩⟩⟩
    refine ⟨(by show 0 ≤ sizeLine; decide), fun l2 nl2 => ⟨dRows _, .list [], .lst (SqL.of (same_upd nl2 _ _ hL2)) (dp_rows (hbs2.same (same_upd nl2))), .lst (xs := []) (SqL.of upd_same) .nil, shaped_rows _, by decide, ?_⟩⟩
    have z2 : PyData.eqv (dRows ((freesOf 1 (tabL [[2]])).map fun f => kernelL (tabL [[2]]) f 1)) (.list []) = true := by
      unfold dRows
      rw [eqv_nil, List.isEmpty_map, List.isEmpty_map, e2]
      rfl
    rw [z2]
    refine ⟨_, rfl, ite2 (fun _ => ?_) (fun e => absurd rfl e)⟩
    refine ⟨(by show 0 ≤ sizeLine; decide), fun l3 nl3 => ⟨l3, 2, [], [], 30, rfl, upd_same, trivial, fun _ h => (by cases h), by decide, by decide, by decide +kernel, by decide +kernel, fun H5 L3 bs3 s5 nL3 hL3 hbs3 => ?_⟩⟩
    have hb3 := hbs3.len
    rw [List.length_map, e3] at hb3
    refine ⟨L3, _, rfl, .inl (SqL.of hL3), rfl, ?_⟩
    rw [List.length_map, hb3]
    exact q _
end
end K42
namespace K42
open PySem PySem.Spec PyProof.Rows L2 LA
theorem all_mk {l : PySem.W.OpenLaw} {w : World} {K : PySem.W.Frag} {h : Heap} {mg : Str → Option Value} {fa f_is_integer f_are_integers f_kernel f_product f_is_row f_lead_of f_primitive f_cleared f_table_of f_rest_of f_joined f_kernel_row f__law_pool f__law_take f__law_thin f__law_rank f_law : Addr} (X : K.In h) (G : h.Ns mainGlobals mg) (hfa : mg "law" = some (.ref fa))
    {od_is_integer an_is_integer : Option Addr} {sl_is_integer : Array (Option Value)} {oc_is_integer kV_is_integer dc_is_integer pm_is_integer cd_is_integer ct_is_integer : Value}
    (a_is_integer : PySem.W.nsIn K mainGlobals "is_integer" = some (some (.ref f_is_integer)))
    (l_is_integer : K.lookup f_is_integer = some ⟨oc_is_integer, od_is_integer, .func (PySem.W.fnOf "is_integer" "is_integer" (defArgs s_is_integer) (defBody s_is_integer) (defScope s_is_integer) .none kV_is_integer dc_is_integer pm_is_integer an_is_integer cd_is_integer ct_is_integer), sl_is_integer⟩) (e_is_integer : PySem.W.codeIn K cd_is_integer "is_integer" = true) (k_is_integer : PySem.W.keepIn K (.ref f_is_integer) = true)
    {od_are_integers an_are_integers : Option Addr} {sl_are_integers : Array (Option Value)} {oc_are_integers kV_are_integers dc_are_integers pm_are_integers cd_are_integers ct_are_integers : Value}
    (a_are_integers : PySem.W.nsIn K mainGlobals "are_integers" = some (some (.ref f_are_integers)))
    (l_are_integers : K.lookup f_are_integers = some ⟨oc_are_integers, od_are_integers, .func (PySem.W.fnOf "are_integers" "are_integers" (defArgs s_are_integers) (defBody s_are_integers) (defScope s_are_integers) .none kV_are_integers dc_are_integers pm_are_integers an_are_integers cd_are_integers ct_are_integers), sl_are_integers⟩) (e_are_integers : PySem.W.codeIn K cd_are_integers "are_integers" = true) (k_are_integers : PySem.W.keepIn K (.ref f_are_integers) = true)
    {od_kernel an_kernel : Option Addr} {sl_kernel : Array (Option Value)} {oc_kernel kV_kernel dc_kernel pm_kernel cd_kernel ct_kernel : Value}
    (a_kernel : PySem.W.nsIn K mainGlobals "kernel" = some (some (.ref f_kernel)))
    (l_kernel : K.lookup f_kernel = some ⟨oc_kernel, od_kernel, .func (PySem.W.fnOf "kernel" "kernel" (defArgs s_kernel) (defBody s_kernel) (defScope s_kernel) .none kV_kernel dc_kernel pm_kernel an_kernel cd_kernel ct_kernel), sl_kernel⟩) (e_kernel : PySem.W.codeIn K cd_kernel "kernel" = true) (k_kernel : PySem.W.keepIn K (.ref f_kernel) = true)
    {od_product an_product : Option Addr} {sl_product : Array (Option Value)} {oc_product kV_product dc_product pm_product cd_product ct_product : Value}
    (a_product : PySem.W.nsIn K mainGlobals "product" = some (some (.ref f_product)))
    (l_product : K.lookup f_product = some ⟨oc_product, od_product, .func (PySem.W.fnOf "product" "product" (defArgs s_product) (defBody s_product) (defScope s_product) .none kV_product dc_product pm_product an_product cd_product ct_product), sl_product⟩) (e_product : PySem.W.codeIn K cd_product "product" = true) (k_product : PySem.W.keepIn K (.ref f_product) = true)
    {od_is_row an_is_row : Option Addr} {sl_is_row : Array (Option Value)} {oc_is_row kV_is_row dc_is_row pm_is_row cd_is_row ct_is_row : Value}
    (a_is_row : PySem.W.nsIn K mainGlobals "is_row" = some (some (.ref f_is_row)))
    (l_is_row : K.lookup f_is_row = some ⟨oc_is_row, od_is_row, .func (PySem.W.fnOf "is_row" "is_row" (defArgs s_is_row) (defBody s_is_row) (defScope s_is_row) .none kV_is_row dc_is_row pm_is_row an_is_row cd_is_row ct_is_row), sl_is_row⟩) (e_is_row : PySem.W.codeIn K cd_is_row "is_row" = true) (k_is_row : PySem.W.keepIn K (.ref f_is_row) = true)
    {od_lead_of an_lead_of : Option Addr} {sl_lead_of : Array (Option Value)} {oc_lead_of kV_lead_of dc_lead_of pm_lead_of cd_lead_of ct_lead_of : Value}
    (a_lead_of : PySem.W.nsIn K mainGlobals "lead_of" = some (some (.ref f_lead_of)))
    (l_lead_of : K.lookup f_lead_of = some ⟨oc_lead_of, od_lead_of, .func (PySem.W.fnOf "lead_of" "lead_of" (defArgs s_lead_of) (defBody s_lead_of) (defScope s_lead_of) .none kV_lead_of dc_lead_of pm_lead_of an_lead_of cd_lead_of ct_lead_of), sl_lead_of⟩) (e_lead_of : PySem.W.codeIn K cd_lead_of "lead_of" = true) (k_lead_of : PySem.W.keepIn K (.ref f_lead_of) = true)
    {od_primitive an_primitive : Option Addr} {sl_primitive : Array (Option Value)} {oc_primitive kV_primitive dc_primitive pm_primitive cd_primitive ct_primitive : Value}
    (a_primitive : PySem.W.nsIn K mainGlobals "primitive" = some (some (.ref f_primitive)))
    (l_primitive : K.lookup f_primitive = some ⟨oc_primitive, od_primitive, .func (PySem.W.fnOf "primitive" "primitive" (defArgs s_primitive) (defBody s_primitive) (defScope s_primitive) .none kV_primitive dc_primitive pm_primitive an_primitive cd_primitive ct_primitive), sl_primitive⟩) (e_primitive : PySem.W.codeIn K cd_primitive "primitive" = true) (k_primitive : PySem.W.keepIn K (.ref f_primitive) = true)
    {od_cleared an_cleared : Option Addr} {sl_cleared : Array (Option Value)} {oc_cleared kV_cleared dc_cleared pm_cleared cd_cleared ct_cleared : Value}
    (a_cleared : PySem.W.nsIn K mainGlobals "cleared" = some (some (.ref f_cleared)))
    (l_cleared : K.lookup f_cleared = some ⟨oc_cleared, od_cleared, .func (PySem.W.fnOf "cleared" "cleared" (defArgs s_cleared) (defBody s_cleared) (defScope s_cleared) .none kV_cleared dc_cleared pm_cleared an_cleared cd_cleared ct_cleared), sl_cleared⟩) (e_cleared : PySem.W.codeIn K cd_cleared "cleared" = true) (k_cleared : PySem.W.keepIn K (.ref f_cleared) = true)
    {od_table_of an_table_of : Option Addr} {sl_table_of : Array (Option Value)} {oc_table_of kV_table_of dc_table_of pm_table_of cd_table_of ct_table_of : Value}
    (a_table_of : PySem.W.nsIn K mainGlobals "table_of" = some (some (.ref f_table_of)))
    (l_table_of : K.lookup f_table_of = some ⟨oc_table_of, od_table_of, .func (PySem.W.fnOf "table_of" "table_of" (defArgs s_table_of) (defBody s_table_of) (defScope s_table_of) .none kV_table_of dc_table_of pm_table_of an_table_of cd_table_of ct_table_of), sl_table_of⟩) (e_table_of : PySem.W.codeIn K cd_table_of "table_of" = true) (k_table_of : PySem.W.keepIn K (.ref f_table_of) = true)
    {od_rest_of an_rest_of : Option Addr} {sl_rest_of : Array (Option Value)} {oc_rest_of kV_rest_of dc_rest_of pm_rest_of cd_rest_of ct_rest_of : Value}
    (a_rest_of : PySem.W.nsIn K mainGlobals "rest_of" = some (some (.ref f_rest_of)))
    (l_rest_of : K.lookup f_rest_of = some ⟨oc_rest_of, od_rest_of, .func (PySem.W.fnOf "rest_of" "rest_of" (defArgs s_rest_of) (defBody s_rest_of) (defScope s_rest_of) .none kV_rest_of dc_rest_of pm_rest_of an_rest_of cd_rest_of ct_rest_of), sl_rest_of⟩) (e_rest_of : PySem.W.codeIn K cd_rest_of "rest_of" = true) (k_rest_of : PySem.W.keepIn K (.ref f_rest_of) = true)
    {od_joined an_joined : Option Addr} {sl_joined : Array (Option Value)} {oc_joined kV_joined dc_joined pm_joined cd_joined ct_joined : Value}
    (a_joined : PySem.W.nsIn K mainGlobals "joined" = some (some (.ref f_joined)))
    (l_joined : K.lookup f_joined = some ⟨oc_joined, od_joined, .func (PySem.W.fnOf "joined" "joined" (defArgs s_joined) (defBody s_joined) (defScope s_joined) .none kV_joined dc_joined pm_joined an_joined cd_joined ct_joined), sl_joined⟩) (e_joined : PySem.W.codeIn K cd_joined "joined" = true) (k_joined : PySem.W.keepIn K (.ref f_joined) = true)
    {od_kernel_row an_kernel_row : Option Addr} {sl_kernel_row : Array (Option Value)} {oc_kernel_row kV_kernel_row dc_kernel_row pm_kernel_row cd_kernel_row ct_kernel_row : Value}
    (a_kernel_row : PySem.W.nsIn K mainGlobals "kernel_row" = some (some (.ref f_kernel_row)))
    (l_kernel_row : K.lookup f_kernel_row = some ⟨oc_kernel_row, od_kernel_row, .func (PySem.W.fnOf "kernel_row" "kernel_row" (defArgs s_kernel_row) (defBody s_kernel_row) (defScope s_kernel_row) .none kV_kernel_row dc_kernel_row pm_kernel_row an_kernel_row cd_kernel_row ct_kernel_row), sl_kernel_row⟩) (e_kernel_row : PySem.W.codeIn K cd_kernel_row "kernel_row" = true) (k_kernel_row : PySem.W.keepIn K (.ref f_kernel_row) = true)
    {od__law_pool an__law_pool : Option Addr} {sl__law_pool : Array (Option Value)} {oc__law_pool kV__law_pool dc__law_pool pm__law_pool cd__law_pool ct__law_pool : Value}
    (a__law_pool : PySem.W.nsIn K mainGlobals "_law_pool" = some (some (.ref f__law_pool)))
    (l__law_pool : K.lookup f__law_pool = some ⟨oc__law_pool, od__law_pool, .func (PySem.W.fnOf "_law_pool" "_law_pool" (defArgs s__law_pool) (defBody s__law_pool) (defScope s__law_pool) .none kV__law_pool dc__law_pool pm__law_pool an__law_pool cd__law_pool ct__law_pool), sl__law_pool⟩) (e__law_pool : PySem.W.codeIn K cd__law_pool "_law_pool" = true) (k__law_pool : PySem.W.keepIn K (.ref f__law_pool) = true)
    {od__law_take an__law_take : Option Addr} {sl__law_take : Array (Option Value)} {oc__law_take kV__law_take dc__law_take pm__law_take cd__law_take ct__law_take : Value}
    (a__law_take : PySem.W.nsIn K mainGlobals "_law_take" = some (some (.ref f__law_take)))
    (l__law_take : K.lookup f__law_take = some ⟨oc__law_take, od__law_take, .func (PySem.W.fnOf "_law_take" "_law_take" (defArgs s__law_take) (defBody s__law_take) (defScope s__law_take) .none kV__law_take dc__law_take pm__law_take an__law_take cd__law_take ct__law_take), sl__law_take⟩) (e__law_take : PySem.W.codeIn K cd__law_take "_law_take" = true) (k__law_take : PySem.W.keepIn K (.ref f__law_take) = true)
    {od__law_thin an__law_thin : Option Addr} {sl__law_thin : Array (Option Value)} {oc__law_thin kV__law_thin dc__law_thin pm__law_thin cd__law_thin ct__law_thin : Value}
    (a__law_thin : PySem.W.nsIn K mainGlobals "_law_thin" = some (some (.ref f__law_thin)))
    (l__law_thin : K.lookup f__law_thin = some ⟨oc__law_thin, od__law_thin, .func (PySem.W.fnOf "_law_thin" "_law_thin" (defArgs s__law_thin) (defBody s__law_thin) (defScope s__law_thin) .none kV__law_thin dc__law_thin pm__law_thin an__law_thin cd__law_thin ct__law_thin), sl__law_thin⟩) (e__law_thin : PySem.W.codeIn K cd__law_thin "_law_thin" = true) (k__law_thin : PySem.W.keepIn K (.ref f__law_thin) = true)
    {od__law_rank an__law_rank : Option Addr} {sl__law_rank : Array (Option Value)} {oc__law_rank kV__law_rank dc__law_rank pm__law_rank cd__law_rank ct__law_rank : Value}
    (a__law_rank : PySem.W.nsIn K mainGlobals "_law_rank" = some (some (.ref f__law_rank)))
    (l__law_rank : K.lookup f__law_rank = some ⟨oc__law_rank, od__law_rank, .func (PySem.W.fnOf "_law_rank" "_law_rank" (defArgs s__law_rank) (defBody s__law_rank) (defScope s__law_rank) .none kV__law_rank dc__law_rank pm__law_rank an__law_rank cd__law_rank ct__law_rank), sl__law_rank⟩) (e__law_rank : PySem.W.codeIn K cd__law_rank "_law_rank" = true) (k__law_rank : PySem.W.keepIn K (.ref f__law_rank) = true)
    {od_law an_law : Option Addr} {sl_law : Array (Option Value)} {oc_law kV_law dc_law pm_law cd_law ct_law : Value}
    (a_law : PySem.W.nsIn K mainGlobals "law" = some (some (.ref f_law)))
    (l_law : K.lookup f_law = some ⟨oc_law, od_law, .func (PySem.W.fnOf "law" "law" (defArgs s_law) (defBody s_law) (defScope s_law) .none kV_law dc_law pm_law an_law cd_law ct_law), sl_law⟩) (e_law : PySem.W.codeIn K cd_law "law" = true) (k_law : PySem.W.keepIn K (.ref f_law) = true)
    (z_int : PySem.W.nsIn K mainGlobals "int" = some none)
    (z_bool : PySem.W.nsIn K mainGlobals "bool" = some none)
    (z_isinstance : PySem.W.nsIn K mainGlobals "isinstance" = some none)
    (z_all : PySem.W.nsIn K mainGlobals "all" = some none)
    (z_len : PySem.W.nsIn K mainGlobals "len" = some none)
    (z_sum : PySem.W.nsIn K mainGlobals "sum" = some none)
    (z_tuple : PySem.W.nsIn K mainGlobals "tuple" = some none)
    (z_list : PySem.W.nsIn K mainGlobals "list" = some none)
    (z_range : PySem.W.nsIn K mainGlobals "range" = some none)
    (z_zip : PySem.W.nsIn K mainGlobals "zip" = some none)
    (z_enumerate : PySem.W.nsIn K mainGlobals "enumerate" = some none)
    (z_abs : PySem.W.nsIn K mainGlobals "abs" = some none)
    (z_max : PySem.W.nsIn K mainGlobals "max" = some none)
    (z_min : PySem.W.nsIn K mainGlobals "min" = some none)
    (y_gcd : PySem.W.nsIn K mainGlobals "gcd" = some (some (.builtin "math.gcd")))
    (y_lcm : PySem.W.nsIn K mainGlobals "lcm" = some (some (.builtin "math.lcm")))
    : ∃ fd : FuncData, (∀ (s : Shared) (v : Value), BindsTo s fd ⟨[v], []⟩ [("_law_script", v)]) ∧ ∀ base : Heap, K.In base → base.Ns mainGlobals mg → FnOk l.prog w K mg base CX0 8 fa fd ["_law_script"] (spLaw K) := by
  have e := hfa.symm.trans (PySem.W.mg_of X G a_law)
  cases e
  have F_is_integer := fun_mk (st := s_is_integer) l_is_integer e_is_integer k_is_integer
  have b_is_integer := F_is_integer.binds (ps := ["value"]) fun _ _ _ _ _ _ us hl => match us, hl with | [_], _ => rfl
  have F_are_integers := fun_mk (st := s_are_integers) l_are_integers e_are_integers k_are_integers
  have b_are_integers := F_are_integers.binds (ps := ["values"]) fun _ _ _ _ _ _ us hl => match us, hl with | [_], _ => rfl
  have F_kernel := fun_mk (st := s_kernel) l_kernel e_kernel k_kernel
  have b_kernel := F_kernel.binds (ps := ["rows", "width"]) fun _ _ _ _ _ _ us hl => match us, hl with | [_, _], _ => rfl
  have F_product := fun_mk (st := s_product) l_product e_product k_product
  have b_product := F_product.binds (ps := ["one", "other"]) fun _ _ _ _ _ _ us hl => match us, hl with | [_, _], _ => rfl
  have F_is_row := fun_mk (st := s_is_row) l_is_row e_is_row k_is_row
  have b_is_row := F_is_row.binds (ps := ["value", "width"]) fun _ _ _ _ _ _ us hl => match us, hl with | [_, _], _ => rfl
  have F_lead_of := fun_mk (st := s_lead_of) l_lead_of e_lead_of k_lead_of
  have b_lead_of := F_lead_of.binds (ps := ["row"]) fun _ _ _ _ _ _ us hl => match us, hl with | [_], _ => rfl
  have F_primitive := fun_mk (st := s_primitive) l_primitive e_primitive k_primitive
  have b_primitive := F_primitive.binds (ps := ["row"]) fun _ _ _ _ _ _ us hl => match us, hl with | [_], _ => rfl
  have F_cleared := fun_mk (st := s_cleared) l_cleared e_cleared k_cleared
  have b_cleared := F_cleared.binds (ps := ["row", "other", "lead"]) fun _ _ _ _ _ _ us hl => match us, hl with | [_, _, _], _ => rfl
  have F_table_of := fun_mk (st := s_table_of) l_table_of e_table_of k_table_of
  have b_table_of := F_table_of.binds (ps := ["rows", "width"]) fun _ _ _ _ _ _ us hl => match us, hl with | [_, _], _ => rfl
  have F_rest_of := fun_mk (st := s_rest_of) l_rest_of e_rest_of k_rest_of
  have b_rest_of := F_rest_of.binds (ps := ["table", "row"]) fun _ _ _ _ _ _ us hl => match us, hl with | [_, _], _ => rfl
  have F_joined := fun_mk (st := s_joined) l_joined e_joined k_joined
  have b_joined := F_joined.binds (ps := ["table", "row"]) fun _ _ _ _ _ _ us hl => match us, hl with | [_, _], _ => rfl
  have F_kernel_row := fun_mk (st := s_kernel_row) l_kernel_row e_kernel_row k_kernel_row
  have b_kernel_row := F_kernel_row.binds (ps := ["table", "free", "width"]) fun _ _ _ _ _ _ us hl => match us, hl with | [_, _, _], _ => rfl
  have F__law_pool := fun_mk (st := s__law_pool) l__law_pool e__law_pool k__law_pool
  have b__law_pool := F__law_pool.binds (ps := ["_law_script", "_law_k"]) fun _ _ _ _ _ _ us hl => match us, hl with | [_, _], _ => rfl
  have F__law_take := fun_mk (st := s__law_take) l__law_take e__law_take k__law_take
  have b__law_take := F__law_take.binds (ps := ["_law_pool_here", "_law_wide"]) fun _ _ _ _ _ _ us hl => match us, hl with | [_, _], _ => rfl
  have F__law_thin := fun_mk (st := s__law_thin) l__law_thin e__law_thin k__law_thin
  have b__law_thin := F__law_thin.binds (ps := ["_law_row"]) fun _ _ _ _ _ _ us hl => match us, hl with | [_], _ => rfl
  have F__law_rank := fun_mk (st := s__law_rank) l__law_rank e__law_rank k__law_rank
  have b__law_rank := F__law_rank.binds (ps := ["_law_rows"]) fun _ _ _ _ _ _ us hl => match us, hl with | [_], _ => rfl
  have F_law := fun_mk (st := s_law) l_law e_law k_law
  have T : Txt K mg { f_is_integer := f_is_integer, f_is_integer_d := _, f_are_integers := f_are_integers, f_are_integers_d := _, f_kernel := f_kernel, f_kernel_d := _, f_product := f_product, f_product_d := _, f_is_row := f_is_row, f_is_row_d := _, f_lead_of := f_lead_of, f_lead_of_d := _, f_primitive := f_primitive, f_primitive_d := _, f_cleared := f_cleared, f_cleared_d := _, f_table_of := f_table_of, f_table_of_d := _, f_rest_of := f_rest_of, f_rest_of_d := _, f_joined := f_joined, f_joined_d := _, f_kernel_row := f_kernel_row, f_kernel_row_d := _, f__law_pool := f__law_pool, f__law_pool_d := _, f__law_take := f__law_take, f__law_take_d := _, f__law_thin := f__law_thin, f__law_thin_d := _, f__law_rank := f__law_rank, f__law_rank_d := _, f_law := fa, f_law_d := _ } := {
    F_is_integer := F_is_integer,
    b_is_integer := b_is_integer,
    g_is_integer := PySem.W.mg_of X G a_is_integer,
    F_are_integers := F_are_integers,
    b_are_integers := b_are_integers,
    g_are_integers := PySem.W.mg_of X G a_are_integers,
    F_kernel := F_kernel,
    b_kernel := b_kernel,
    g_kernel := PySem.W.mg_of X G a_kernel,
    F_product := F_product,
    b_product := b_product,
    g_product := PySem.W.mg_of X G a_product,
    F_is_row := F_is_row,
    b_is_row := b_is_row,
    g_is_row := PySem.W.mg_of X G a_is_row,
    F_lead_of := F_lead_of,
    b_lead_of := b_lead_of,
    g_lead_of := PySem.W.mg_of X G a_lead_of,
    F_primitive := F_primitive,
    b_primitive := b_primitive,
    g_primitive := PySem.W.mg_of X G a_primitive,
    F_cleared := F_cleared,
    b_cleared := b_cleared,
    g_cleared := PySem.W.mg_of X G a_cleared,
    F_table_of := F_table_of,
    b_table_of := b_table_of,
    g_table_of := PySem.W.mg_of X G a_table_of,
    F_rest_of := F_rest_of,
    b_rest_of := b_rest_of,
    g_rest_of := PySem.W.mg_of X G a_rest_of,
    F_joined := F_joined,
    b_joined := b_joined,
    g_joined := PySem.W.mg_of X G a_joined,
    F_kernel_row := F_kernel_row,
    b_kernel_row := b_kernel_row,
    g_kernel_row := PySem.W.mg_of X G a_kernel_row,
    F__law_pool := F__law_pool,
    b__law_pool := b__law_pool,
    g__law_pool := PySem.W.mg_of X G a__law_pool,
    F__law_take := F__law_take,
    b__law_take := b__law_take,
    g__law_take := PySem.W.mg_of X G a__law_take,
    F__law_thin := F__law_thin,
    b__law_thin := b__law_thin,
    g__law_thin := PySem.W.mg_of X G a__law_thin,
    F__law_rank := F__law_rank,
    b__law_rank := b__law_rank,
    g__law_rank := PySem.W.mg_of X G a__law_rank,
    F_law := F_law,
    g_law := PySem.W.mg_of X G a_law,
    int := PySem.W.mg_none_of X G z_int,
    bool := PySem.W.mg_none_of X G z_bool,
    isinstance := PySem.W.mg_none_of X G z_isinstance,
    all := PySem.W.mg_none_of X G z_all,
    len := PySem.W.mg_none_of X G z_len,
    sum := PySem.W.mg_none_of X G z_sum,
    tuple := PySem.W.mg_none_of X G z_tuple,
    list := PySem.W.mg_none_of X G z_list,
    range := PySem.W.mg_none_of X G z_range,
    zip := PySem.W.mg_none_of X G z_zip,
    enumerate := PySem.W.mg_none_of X G z_enumerate,
    abs := PySem.W.mg_none_of X G z_abs,
    max := PySem.W.mg_none_of X G z_max,
    min := PySem.W.mg_none_of X G z_min,
    g_gcd := PySem.W.mg_of X G y_gcd,
    g_lcm := PySem.W.mg_of X G y_lcm }
  exact ⟨PySem.W.fnOf "law" "law" (defArgs s_law) (defBody s_law) (defScope s_law) .none kV_law dc_law pm_law an_law cd_law ct_law, fun s v => .of_eq rfl, fun base _ _ => ok_law T⟩
end K42
open PySem PySem.W PyProof.Rows
set_option maxRecDepth 100000 in
set_option maxHeartbeats 0 in
theorem PySem.Challenge.cw_allornothing_k42_kernels_holds : PySem.Challenge.rw_allornothing_k42_kernels.Holds := by
  w_on; o_law; k_head; (case hw => w_witness2)
  k_fill
  refine L2.walk_of (l := PySem.Challenge.rw_allornothing_k42_kernels) (n := 63) (k := 8) (x := "_law_script") (CX := fun _ => L2.CX0) (sp := fun w => K42.spLaw _) rfl (by decide) rfl ⟨rfl, by decide, by decide⟩ (fun w h Y => PySem.W.kIn_of Y) ?F (fun _ _ a ns hl _ hS => ⟨a, ns, rfl, hS, hl, fun _ => rfl⟩) (fun _ _ _ _ _ h => h)
  case F =>
    intro w mg fa h KX G hmg
    refine' K42.all_mk KX G hmg ?a_is_integer ?l_is_integer ?e_is_integer ?k_is_integer ?a_are_integers ?l_are_integers ?e_are_integers ?k_are_integers ?a_kernel ?l_kernel ?e_kernel ?k_kernel ?a_product ?l_product ?e_product ?k_product ?a_is_row ?l_is_row ?e_is_row ?k_is_row ?a_lead_of ?l_lead_of ?e_lead_of ?k_lead_of ?a_primitive ?l_primitive ?e_primitive ?k_primitive ?a_cleared ?l_cleared ?e_cleared ?k_cleared ?a_table_of ?l_table_of ?e_table_of ?k_table_of ?a_rest_of ?l_rest_of ?e_rest_of ?k_rest_of ?a_joined ?l_joined ?e_joined ?k_joined ?a_kernel_row ?l_kernel_row ?e_kernel_row ?k_kernel_row ?a__law_pool ?l__law_pool ?e__law_pool ?k__law_pool ?a__law_take ?l__law_take ?e__law_take ?k__law_take ?a__law_thin ?l__law_thin ?e__law_thin ?k__law_thin ?a__law_rank ?l__law_rank ?e__law_rank ?k__law_rank ?a_law ?l_law ?e_law ?k_law ?z_int ?z_bool ?z_isinstance ?z_all ?z_len ?z_sum ?z_tuple ?z_list ?z_range ?z_zip ?z_enumerate ?z_abs ?z_max ?z_min ?y_gcd ?y_lcm
    (case a_is_integer => k_is)
    (case l_is_integer => k_is)
    (case e_is_integer => k_is)
    (case k_is_integer => k_is)
    (case a_are_integers => k_is)
    (case l_are_integers => k_is)
    (case e_are_integers => k_is)
    (case k_are_integers => k_is)
    (case a_kernel => k_is)
    (case l_kernel => k_is)
    (case e_kernel => k_is)
    (case k_kernel => k_is)
    (case a_product => k_is)
    (case l_product => k_is)
    (case e_product => k_is)
    (case k_product => k_is)
    (case a_is_row => k_is)
    (case l_is_row => k_is)
    (case e_is_row => k_is)
    (case k_is_row => k_is)
    (case a_lead_of => k_is)
    (case l_lead_of => k_is)
    (case e_lead_of => k_is)
    (case k_lead_of => k_is)
    (case a_primitive => k_is)
    (case l_primitive => k_is)
    (case e_primitive => k_is)
    (case k_primitive => k_is)
    (case a_cleared => k_is)
    (case l_cleared => k_is)
    (case e_cleared => k_is)
    (case k_cleared => k_is)
    (case a_table_of => k_is)
    (case l_table_of => k_is)
    (case e_table_of => k_is)
    (case k_table_of => k_is)
    (case a_rest_of => k_is)
    (case l_rest_of => k_is)
    (case e_rest_of => k_is)
    (case k_rest_of => k_is)
    (case a_joined => k_is)
    (case l_joined => k_is)
    (case e_joined => k_is)
    (case k_joined => k_is)
    (case a_kernel_row => k_is)
    (case l_kernel_row => k_is)
    (case e_kernel_row => k_is)
    (case k_kernel_row => k_is)
    (case a__law_pool => k_is)
    (case l__law_pool => k_is)
    (case e__law_pool => k_is)
    (case k__law_pool => k_is)
    (case a__law_take => k_is)
    (case l__law_take => k_is)
    (case e__law_take => k_is)
    (case k__law_take => k_is)
    (case a__law_thin => k_is)
    (case l__law_thin => k_is)
    (case e__law_thin => k_is)
    (case k__law_thin => k_is)
    (case a__law_rank => k_is)
    (case l__law_rank => k_is)
    (case e__law_rank => k_is)
    (case k__law_rank => k_is)
    (case a_law => k_is)
    (case l_law => k_is)
    (case e_law => k_is)
    (case k_law => k_is)
    (case z_int => k_is)
    (case z_bool => k_is)
    (case z_isinstance => k_is)
    (case z_all => k_is)
    (case z_len => k_is)
    (case z_sum => k_is)
    (case z_tuple => k_is)
    (case z_list => k_is)
    (case z_range => k_is)
    (case z_zip => k_is)
    (case z_enumerate => k_is)
    (case z_abs => k_is)
    (case z_max => k_is)
    (case z_min => k_is)
    (case y_gcd => k_is)
    (case y_lcm => k_is)
#print axioms PySem.Challenge.cw_allornothing_k42_kernels_holds
