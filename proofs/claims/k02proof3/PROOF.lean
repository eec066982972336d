import PyProof.Rows.All
import Wide.All
import OpenK.AllK
import Wide.FinOn
import HandS.ForMost
import HandS.Wide
import HandS.Steps
import HandS.IsInst
import PySem.Challenge.RW_allornothing_k02_names
set_option Elab.async false
set_option linter.all false
set_option maxRecDepth 100000
set_option maxHeartbeats 4000000
namespace Dw
open PySem PySem.Spec PyProof.Rows L2
def top (i : Nat) : Stmt := PySem.Challenge.pw_allornothing_k02_names.main.body.getD i (.Pass ⟨0, 0, 0, 0⟩)
abbrev sPool : Stmt := top 8
abbrev sMixed : Stmt := top 9
abbrev sDraw : Stmt := top 10
/-- a pool at p, its cells at l, at most n draws so far -/
structure PoolAt (H : Hp) (p l : Addr) (n : Int) : Prop where
  ne : p ≠ l
  ex : ∃ (cs : List Int) (ix cnt seed ph : Int), H p = some (.lst [.ref l, .int ix, .int cnt, .int seed, .int ph, .int 30]) ∧ H l = some (.lst (cs.map V.int)) ∧
    0 ≤ ix ∧ 0 ≤ cnt ∧ cnt ≤ n ∧ 0 ≤ seed ∧ seed < 2147483647 ∧ cs.length ≤ 63
theorem PoolAt.keep {H H' : Hp} {p l : Addr} {n : Int} (P : PoolAt H p l n) (hp : H' p = H p) (hl : H' l = H l) : PoolAt H' p l n := by
  obtain ⟨ne, cs, ix, cnt, seed, ph, h1, h2, r⟩ := P
  exact ⟨ne, cs, ix, cnt, seed, ph, by rw [hp]; exact h1, by rw [hl]; exact h2, r⟩
theorem PoolAt.same {H H' : Hp} {p l : Addr} {n : Int} (P : PoolAt H p l n) (s : Same H H') : PoolAt H' p l n := by
  obtain ⟨ne, cs, ix, cnt, seed, ph, h1, h2, r⟩ := P
  exact ⟨ne, cs, ix, cnt, seed, ph, s _ _ h1, s _ _ h2, r⟩
theorem same_upd {H : Hp} {p : Addr} {o : HO} (h : H p = none) : Same H (upd H p o) := fun b x e => by
  rw [upd_ne (ne_of_none e h)]
  exact e
def spPool (K : PySem.W.Frag) : Sp := fun vs H Q _ => ∃ (a : Addr) (ns : List Int), vs = [.ref a] ∧ SqL K H a (ns.map V.int) ∧ ns.length ≤ 63 ∧
  ∀ H' p l, Same H H' → H p = none → H l = none → PoolAt H' p l 0 → Q (.ref p) H'
def spMixed : Sp := fun vs H Q _ => ∃ (a c m : Int), vs = [.int a, .int c, .int m] ∧ 0 ≤ a ∧ a < 2147483647 ∧ 0 ≤ c ∧ c ≤ 1099511627776 ∧ 0 < m ∧
  ∀ r : Int, 0 ≤ r → r < m → Q (.int r) H
def spDraw : Sp := fun vs H Q _ => ∃ (p l : Addr) (n m : Int), vs = [.ref p, .int m] ∧ PoolAt H p l n ∧ n < 1099511627776 ∧ 0 < m ∧ m.natAbs.log2 < 9000 ∧
  ∀ (r : Int) (H' : Hp), 0 ≤ r → r < m → PoolAt H' p l (n + 1) → (∀ b, b ≠ p → b ≠ l → H' b = H b) → Q (.int r) H'
section
variable {P : Program} {w : World} {K : PySem.W.Frag} {mg : Str → Option Value} {base : Heap}
theorem scM : FnScope ["_law_number", "_law_count", "_law_many"] ["_law_number", "_law_count", "_law_many"] (defScope sMixed) := ⟨rfl, rfl, rfl, by decide +kernel, rfl, by decide +kernel, by decide +kernel⟩
theorem ok_mixed {f : Addr} {fd : FuncData} (F : Fun K "_law_mixed" "_law_mixed" sMixed f fd) (mint : mg "int" = none) : FnOk P w K mg base CX0 1 f fd ["_law_number", "_law_count", "_law_many"] spMixed := by
  refine F.ok scM (fun vs H Q E h => ?_) (fun cdv A outer s H vs Q E hr h => ?_)
  · obtain ⟨a, c, m, rfl, _⟩ := h
    rfl
  obtain ⟨a, c, m, rfl, ha0, ha1, hc0, hc1, hm, q⟩ := h
  refine ⟨_, pss_one (ps_ret (pe_op op_mod (pe_op op_fdiv (pe_callTy call_int1 (by rfl) mint (by decide +kernel) (pa_cons (pe_op op_mod
    (pe_op op_pow (pe_callTy call_int1 (by rfl) mint (by decide +kernel) (pa_cons (pe_op op_add (pv 0) (pe_op op_mul pe_int (pv 1))) pa_nil)) pe_int) pe_int) pa_nil)) pe_int) (pv 2))), ?_⟩
  refine ⟨_, rfl, _, rfl, _, _, rfl, rfl, .inl ⟨by decide, by decide⟩, _, _, rfl, rfl, .inl ⟨_, rfl, ?_⟩⟩
  refine ⟨_, _, rfl, rfl, ⟨by decide, by decide, by omega⟩, _, _, rfl, rfl, (by show (0 : Int) < 2147483647; decide), .inl ⟨_, rfl, ?_⟩⟩
  refine ⟨_, _, rfl, rfl, ⟨by decide, by decide⟩, _, rfl, _, _, rfl, rfl, hm, ?_⟩
  exact q _ (Int.emod_nonneg _ (by omega)) (Int.emod_lt_of_pos _ hm)
theorem scP : FnScope ["_law_script", "_law_cell", "_law_cells", "_law_seed"] ["_law_script"] (defScope sPool) := ⟨rfl, rfl, rfl, by decide +kernel, rfl, by decide +kernel, by decide +kernel⟩
theorem ok_pool {f : Addr} {fd : FuncData} (F : Fun K "_law_pool" "_law_pool" sPool f fd) (mint : mg "int" = none) : FnOk P w K mg base CX0 1 f fd ["_law_script"] (spPool K) := by
  refine F.ok scP (fun vs H Q E h => ?_) (fun cdv A outer s H vs Q E hr h => ?_)
  · obtain ⟨a, ns, rfl, _⟩ := h
    rfl
  obtain ⟨a, ns, rfl, hS, hlen, q⟩ := h
  refine ⟨_, pss_cons (ps_setLc (i := 2) (own := [("_law_cell", 1)]) (g := gName 1) (tt := tYes) (by rfl) scP.nd rfl rfl (sw_true rfl rfl rfl (by decide +kernel)) (pi_list (pe_slice sl_list (pv 0) po_none (po_some pe_int)))
      (blkOk_by (own := [("_law_cell", 1)]) (N := ["_law_script", "_law_cell", "_law_cells", "_law_seed"]) (sc := defScope sPool) (by decide +kernel)) (fun _ _ _ _ _ => pg_name (i := 1) scP.nd rfl (Or.inl rfl)) (fun _ _ _ _ _ => pts_nil)
      (fun _ _ _ _ _ => pe_callTy call_int1 (by rfl) mint (by decide +kernel) (pa_cons (pv 1) pa_nil)))
    (pss_cons (ps_set (i := 3) scP.nd rfl (.inl rfl) pe_int)
    (pss_cons (ps_for PassesOwn.never rfl (pi_list (pv 2)) (pg_name (i := 1) scP.nd rfl (.inl rfl))
      (pss_one (ps_set (i := 3) scP.nd rfl (.inl rfl) (pe_op op_mod (pe_callTy call_int1 (by rfl) mint (by decide +kernel) (pa_cons (pe_op op_add (pe_op op_mul (pv 3) pe_int) (pv 1)) pa_nil)) pe_int))))
    (pss_one (ps_ret (pe_lst (pa_cons (pv 2) (pa_cons pe_int (pa_cons pe_int (pa_cons (pv 3) (pa_cons pe_int (pa_cons pe_int pa_nil))))))))))), ?_⟩
  have ecut : cutV (ns.map V.int) none (some 63) = ns.map V.int := by
    unfold cutV
    rw [show HT.sIx (ns.map V.int).length (ns.map V.int).length (some 63) = min 63 (ns.map V.int).length from HT.sIx_nat _ _ 63, HT.sIx_none, List.length_map]
    show (ns.map V.int).take (min 63 ns.length - 0) = ns.map V.int
    exact List.take_of_length_le (by rw [List.length_map]; omega)
  refine ⟨_, rfl, 63, rfl, a, _, rfl, hS, fun c hc => ?_⟩
  have s1 : Same H (upd H c (.lst (cutV (ns.map V.int) none (some 63)))) := same_upd hc
  refine ⟨c, rfl, ⟨_, SqL.of upd_same⟩, fun D hD => ?_⟩
  have hcD : c ≠ D := ne_of_none upd_same hD
  refine lc_list (K := K) (a := c) (xs := ns.map V.int) (fun i H' => Same H H' ∧ H' c = some (.lst (ns.map V.int)) ∧ H' D = some (.lst ((ns.take i).map V.int))) ⟨s1.trans (same_upd hD), ?_, upd_same⟩ (fun i H' _ hh => SqL.of hh.2.1) ?_ ?_
  · rw [upd_ne hcD, upd_same, ecut]
  · rintro i x H' hi ⟨s2, hc2, hD2⟩
    obtain ⟨z, hz, rfl⟩ : ∃ z, ns[i]? = some z ∧ x = V.int z := by
      rw [List.getElem?_map] at hi
      cases e : ns[i]? with
      | none => rw [e] at hi; cases hi
      | some z => rw [e] at hi; exact ⟨z, rfl, (Option.some.inj hi).symm⟩
    have hil : i < ns.length := (List.getElem?_eq_some_iff.mp hz).1
    refine ⟨rfl, _, rfl, .inl ⟨_, rfl, _, hD2, ?_, ?_, ?_, ?_⟩⟩
    · rw [List.length_map, List.length_take]
      exact Nat.lt_of_le_of_lt (Nat.min_le_left _ _) (small1000 (by omega))
    · intro b o e
      rw [upd_ne (ne_of_none e (s1.free hD))]
      exact s2 _ _ e
    · rw [upd_ne hcD]; exact hc2
    · rw [upd_same, List.take_add_one, hz, List.map_append]; rfl
  · rintro H1 ⟨s2, hc2, hD2⟩
    rw [List.length_map, List.take_length] at hD2
    refine ⟨_, rfl, D, rfl, ⟨_, SqL.of hD2⟩, for_list (K := K) (a := D) (xs := ns.map V.int) (fun i σ H' => ∃ (v : Option V) (sd : Int), σ = [some (.ref a), v, some (.ref D), some (.int sd)] ∧ H' = H1 ∧ 0 ≤ sd ∧ sd < 2147483647)
      ⟨none, 11, rfl, rfl, by decide, by decide⟩ (fun i σ H' _ ⟨_, _, _, e, _⟩ => by rw [e]; exact SqL.of hD2) ?_ ?_⟩
    · rintro i x σ H' hi ⟨v, sd, rfl, rfl, h0, h1⟩
      obtain ⟨z, hz, rfl⟩ : ∃ z, ns[i]? = some z ∧ x = V.int z := by
        rw [List.getElem?_map] at hi
        cases e : ns[i]? with
        | none => rw [e] at hi; cases hi
        | some z => rw [e] at hi; exact ⟨z, rfl, (Option.some.inj hi).symm⟩
      refine ⟨_, rfl, _, _, rfl, rfl, .inl ⟨by omega, by omega⟩, _, rfl, _, _, rfl, rfl, .inl ⟨_, rfl, _, _, rfl, rfl, (by show (0 : Int) < 2147483647; decide), ?_⟩⟩
      exact ⟨_, _, rfl, rfl, Int.emod_nonneg _ (by decide), Int.emod_lt_of_pos _ (by decide)⟩
    · rintro σ H' ⟨v, sd, rfl, rfl, h0, h1⟩
      refine ⟨_, rfl, _, rfl, (by show 6 ≤ sizeLine; decide), fun p hp => ?_⟩
      have hpD : D ≠ p := ne_of_none hD2 hp
      refine q _ p D (s2.trans (same_upd hp)) (s2.free hp) (s1.free hD) ⟨fun e => hpD e.symm, ns, 0, 0, sd, 0, upd_same, by rw [upd_ne hpD]; exact hD2, by decide, by decide, by decide, h0, h1, hlen⟩
theorem ixN_at {n j : Nat} (hj : j < n) : ixN n (j : Int) = some j := by
  unfold ixN
  rw [if_pos (by omega), if_pos (by omega)]
  exact congrArg some (by omega)
theorem st_ite {c : TT} {t1 t2 : TS} {σ : L2.St} {H : Hp} {D : Ends} {b : Bool} (h : Ans c σ H b) (h1 : b = true → t1 D σ H) (h2 : b = false → t2 D σ H) : tIfS c t1 t2 D σ H := by
  cases b with
  | true => exact st_yes h (h1 rfl)
  | false => exact st_no h (h2 rfl)
/-- what the draws ask of the module's names -/
structure TD (mg : Str → Option Value) (K : PySem.W.Frag) (fM : Addr) : Prop where
  int : mg "int" = none
  len : mg "len" = none
  g__law_mixed : mg "_law_mixed" = some (.ref fM)
  k__law_mixed : PySem.W.keepIn K (.ref fM) = true
theorem scD : FnScope ["_law_pool_here", "_law_many", "_law_at", "_law_cells", "_law_cell"] ["_law_pool_here", "_law_many"] (defScope sDraw) := ⟨rfl, rfl, rfl, by decide +kernel, rfl, by decide +kernel, by decide +kernel⟩
theorem ok_draw {f fM : Addr} {fd fdM : FuncData} (F : Fun K "_law_draw" "_law_draw" sDraw f fd) (T : TD mg K fM) (G__law_mixed : FnOk P w K mg base CX0 1 fM fdM ["_law_number", "_law_count", "_law_many"] spMixed)
    (b__law_mixed : Binds K fdM ["_law_number", "_law_count", "_law_many"] []) : FnOk P w K mg base CX0 2 f fd ["_law_pool_here", "_law_many"] spDraw := by
  refine F.ok scD (fun vs H Q E h => ?_) (fun cdv A outer s H vs Q E hr h => ?_)
  · obtain ⟨p, l, n, m, rfl, _⟩ := h
    rfl
  obtain ⟨p, l, n, m, rfl, ⟨ne, cs, ix, cnt, seed, ph, h1, h2, hix, hc0, hcn, hs0, hs1, hlen⟩, hn, hm, hml, q⟩ := h
  have hr1 : Room 1 (A.deeper (envOfC "_law_draw" (defScope sDraw) s.heap.objs.size f cdv)) := hr
  refine ⟨_, (pss_cons (ps_asg (pe_op op_add (pe_ix ix_list (pv 0) pe_int (fun _ _ => rfl)) pe_int) (pg_sub (pv 0) pe_int set_list))
    (pss_cons (ps_if (pt_cmpR op_ge (pe_ix ix_list (pv 0) pe_int (fun _ _ => rfl)) (pe_callB call_len_seq (by rfl) T.len PySem.boot_len (pa_cons (pe_ix ix_list (pv 0) pe_int (fun _ _ => rfl)) pa_nil)) (nomark _))
      (pss_one (ps_ret (pe_call G__law_mixed (hr.mono (by decide)) (by rfl) T.g__law_mixed T.k__law_mixed b__law_mixed .nil pass0 (pa_cons (pe_ix ix_list (pv 0) pe_int (fun _ _ => rfl)) (pa_cons (pe_ix ix_list (pv 0) pe_int (fun _ _ => rfl)) (pa_cons (pv 1) pa_nil))))))
      pss_nil)
    (pss_cons (ps_set (i := 2) scD.nd rfl (Or.inl rfl) (pe_ix ix_list (pv 0) pe_int (fun _ _ => rfl)))
    (pss_cons (ps_set (i := 3) scD.nd rfl (Or.inl rfl) (pe_ix ix_list (pv 0) pe_int (fun _ _ => rfl)))
    (pss_cons (ps_set (i := 4) scD.nd rfl (Or.inl rfl) (pe_ix ix_list (pv 3) (pv 2) (fun _ _ => rfl)))
    (pss_cons (ps_if (PW.pt (pw_and (pt_cmpR op_ne (pe_ix ix_list (pv 0) pe_int (fun _ _ => rfl)) pe_int (nomark _)) (pw_and1 (pt_cmpR op_lt (pv 4) (pe_op op_pow pe_int pe_int) (nomark _)))))
      (pss_cons (ps_asg (pe_op op_add (pe_ix ix_list (pv 0) pe_int (fun _ _ => rfl)) pe_int) (pg_sub (pv 0) pe_int set_list))
      (pss_cons (ps_if (pt_cmpR op_eq (pe_ix ix_list (pv 0) pe_int (fun _ _ => rfl)) pe_int (nomark _))
        (pss_cons (ps_asg (pe_op op_add (pv 2) pe_int) (pg_sub (pv 0) pe_int set_list))
        (pss_one (ps_asg pe_int (pg_sub (pv 0) pe_int set_list))))
        pss_nil)
      (pss_one (ps_ret (pe_call G__law_mixed (hr.mono (by decide)) (by rfl) T.g__law_mixed T.k__law_mixed b__law_mixed .nil pass0 (pa_cons (pe_op op_mod (pe_callTy call_int1 (by rfl) T.int (by decide +kernel) (pa_cons (pv 4) pa_nil)) pe_int) (pa_cons (pe_ix ix_list (pv 0) pe_int (fun _ _ => rfl)) (pa_cons (pv 1) pa_nil))))))))
      pss_nil)
    (pss_cons (ps_asg pe_int (pg_sub (pv 0) pe_int set_list))
    (pss_cons (ps_asg (pe_op op_fdivW (pe_callTy call_int1 (by rfl) T.int (by decide +kernel) (pa_cons (pv 4) pa_nil)) (pv 1)) (pg_sub (pv 3) (pv 2) set_list))
    (pss_cons (ps_if (pt_cmpR op_eq (pe_ix ix_list (pv 3) (pv 2) (fun _ _ => rfl)) pe_int (nomark _))
      (pss_cons (ps_asg (pe_op op_add (pv 2) pe_int) (pg_sub (pv 0) pe_int set_list))
      (pss_one (ps_asg pe_int (pg_sub (pv 0) pe_int set_list))))
      pss_nil)
    (pss_one (ps_ret (pe_op op_mod (pe_callTy call_int1 (by rfl) T.int (by decide +kernel) (pa_cons (pv 4) pa_nil)) (pv 1))))))))))))), ?_⟩
  refine ⟨_, rfl, p, _, _, _, rfl, rfl, SqL.of h1, atI_nat (j := 2) rfl, _, _, rfl, rfl, _, rfl, p, _, _, 2, rfl, rfl, h1, rfl, ?_⟩
  have h1a : (upd H p (.lst [.ref l, .int ix, .int (cnt + 1), .int seed, .int ph, .int 30])) p = some (.lst [.ref l, .int ix, .int (cnt + 1), .int seed, .int ph, .int 30]) := upd_same
  have h2a : (upd H p (.lst [.ref l, .int ix, .int (cnt + 1), .int seed, .int ph, .int 30])) l = some (.lst (cs.map V.int)) := by rw [upd_ne ne.symm]; exact h2
  have hfa : ∀ b, b ≠ p → b ≠ l → (upd H p (.lst [.ref l, .int ix, .int (cnt + 1), .int seed, .int ph, .int 30])) b = H b := fun b hb _ => upd_ne hb
  show tSeq _ _ _ _ (upd H p (.lst [.ref l, .int ix, .int (cnt + 1), .int seed, .int ph, .int 30]))
  generalize (upd H p (.lst [.ref l, .int ix, .int (cnt + 1), .int seed, .int ph, .int 30])) = H1 at h1a h2a hfa ⊢
  refine ⟨_, rfl, p, _, _, _, rfl, rfl, SqL.of h1a, atI_nat (j := 1) rfl, _, rfl, p, _, _, _, rfl, rfl, SqL.of h1a, atI_nat (j := 0) rfl, l, _, rfl, .inl (SqL.of h2a), _, _, rfl, rfl, _, rfl, ite2 (fun e => ?_) (fun e => ?_)⟩
  · refine ⟨_, rfl, p, _, _, _, rfl, rfl, SqL.of h1a, atI_nat (j := 3) rfl, _, rfl, p, _, _, _, rfl, rfl, SqL.of h1a, atI_nat (j := 2) rfl, _, rfl, seed, cnt + 1, m, rfl, hs0, hs1, by omega, by omega, hm, fun r hr0 hr1 => ?_⟩
    exact q r _ hr0 hr1 ⟨ne, cs, ix, cnt + 1, seed, ph, h1a, h2a, hix, by omega, by omega, hs0, hs1, hlen⟩ hfa
  · have hlt : ix < (cs.length : Int) := by
      have e' := of_decide_eq_false (Bool.eq_false_iff.mpr e)
      rw [List.length_map] at e'
      omega
    obtain ⟨j, rfl⟩ : ∃ j : Nat, ix = (j : Int) := ⟨ix.toNat, by omega⟩
    have hj : j < cs.length := by omega
    have hz : (cs.map V.int)[j]? = some (.int cs[j]) := by rw [List.getElem?_map, List.getElem?_eq_getElem hj]; rfl
    generalize cs[j] = z at hz
    refine ⟨_, rfl, p, _, _, _, rfl, rfl, SqL.of h1a, atI_nat (j := 1) rfl, ?_⟩
    refine ⟨_, rfl, p, _, _, _, rfl, rfl, SqL.of h1a, atI_nat (j := 0) rfl, ?_⟩
    refine ⟨_, rfl, _, rfl, l, _, _, _, rfl, rfl, SqL.of h2a, atI_nat (j := j) hz, ?_⟩
    dsimp only [gName]
    refine st_seq (st_ite (b := (!decide (V.int ph = V.int 2)) && decide (z < 10 ^ (18 : Int).toNat)) (ans_and2 (fun Q q => ⟨_, rfl, p, _, _, _, rfl, rfl, SqL.of h1a, atI_nat (j := 4) rfl, rfl, _, rfl, q⟩) (fun Q q => ⟨_, rfl, _, _, rfl, rfl, ⟨by decide, by decide, by decide⟩, _, _, rfl, rfl, _, rfl, q⟩)) (fun e1 => ?_) (fun e1 => ?_))
    · -- a small cell: the phase grows
      refine ⟨_, rfl, p, _, _, _, rfl, rfl, SqL.of h1a, atI_nat (j := 4) rfl, _, _, rfl, rfl, _, rfl, p, _, _, 4, rfl, rfl, h1a, rfl, ?_⟩
      dsimp only [gName]
      refine st_seq (st_ite (b := decide (V.int (ph + 1) = V.int 2)) (fun Q q => ⟨_, rfl, p, _, _, _, rfl, rfl, SqL.of upd_same, atI_nat (j := 4) rfl, rfl, _, rfl, q⟩) (fun e2 => ?_) (fun e2 => ?_))
      · refine ⟨_, rfl, _, _, rfl, rfl, _, rfl, p, _, _, 1, rfl, rfl, upd_same, rfl, _, rfl, p, _, _, 4, rfl, rfl, upd_same, rfl, ?_⟩
        refine ⟨_, rfl, .inl ⟨_, rfl, _, _, rfl, rfl, (by show (0 : Int) < 2147483647; decide), _, rfl, p, _, _, _, rfl, rfl, SqL.of upd_same, atI_nat (j := 2) rfl, _, rfl, _, cnt + 1, m, rfl, Int.emod_nonneg _ (by decide), Int.emod_lt_of_pos _ (by decide), by omega, by omega, hm, fun r hr0 hr1 => ?_⟩⟩
        exact q r _ hr0 hr1 ⟨ne, cs, (j : Int) + 1, cnt + 1, seed, 0, upd_same, by rw [upd_ne ne.symm, upd_ne ne.symm, upd_ne ne.symm]; exact h2a, by omega, by omega, by omega, hs0, hs1, hlen⟩ fun b hb hb2 => by rw [upd_ne hb, upd_ne hb, upd_ne hb]; exact hfa b hb hb2
      · refine ⟨_, rfl, .inl ⟨_, rfl, _, _, rfl, rfl, (by show (0 : Int) < 2147483647; decide), _, rfl, p, _, _, _, rfl, rfl, SqL.of upd_same, atI_nat (j := 2) rfl, _, rfl, _, cnt + 1, m, rfl, Int.emod_nonneg _ (by decide), Int.emod_lt_of_pos _ (by decide), by omega, by omega, hm, fun r hr0 hr1 => ?_⟩⟩
        exact q r _ hr0 hr1 ⟨ne, cs, (j : Int), cnt + 1, seed, ph + 1, upd_same, by rw [upd_ne ne.symm]; exact h2a, by omega, by omega, by omega, hs0, hs1, hlen⟩ fun b hb hb2 => by rw [upd_ne hb]; exact hfa b hb hb2
    · -- a great one: divided
      refine ⟨_, rfl, p, _, _, 4, rfl, rfl, h1a, rfl, ?_⟩
      refine ⟨_, rfl, .inl ⟨_, rfl, _, rfl, _, _, rfl, rfl, ⟨hm, hml⟩, _, rfl, _, rfl, l, _, _, j, rfl, rfl, by rw [upd_ne ne.symm]; exact h2a, ixN_at (by rw [List.length_map]; exact hj), ?_⟩⟩
      have h1b : ∀ x, (upd (upd H1 p (.lst [.ref l, .int j, .int (cnt + 1), .int seed, .int 2, .int 30])) l x) p = some (.lst [.ref l, .int j, .int (cnt + 1), .int seed, .int 2, .int 30]) := fun x => by rw [upd_ne ne]; exact upd_same
      have e3 : (cs.map V.int).set j (.int (z / m)) = (cs.set j (z / m)).map V.int := by rw [List.map_set]
      have hl2 : (cs.set j (z / m)).length ≤ 63 := by rw [List.length_set]; exact hlen
      have hz2 : ((cs.map V.int).set j (.int (z / m)))[j]? = some (.int (z / m)) := by rw [List.getElem?_set_self]; rw [List.length_map]; exact hj
      dsimp only [gName]
      refine st_seq (st_ite (b := decide (V.int (z / m) = V.int 0)) (fun Q q => ⟨_, rfl, _, rfl, l, _, _, _, rfl, rfl, SqL.of upd_same, atI_nat (j := j) hz2, rfl, _, rfl, q⟩) (fun e2 => ?_) (fun e2 => ?_))
      · refine ⟨_, rfl, _, _, rfl, rfl, _, rfl, p, _, _, 1, rfl, rfl, h1b _, rfl, _, rfl, p, _, _, 4, rfl, rfl, upd_same, rfl, ?_⟩
        refine ⟨_, rfl, .inl ⟨_, rfl, _, rfl, _, _, rfl, rfl, hm, ?_⟩⟩
        exact q _ _ (Int.emod_nonneg _ (by omega)) (Int.emod_lt_of_pos _ hm) ⟨ne, _, (j : Int) + 1, cnt + 1, seed, 0, upd_same, by rw [upd_ne ne.symm, upd_ne ne.symm, upd_same, e3], by omega, by omega, by omega, hs0, hs1, hl2⟩ fun b hb hb2 => by rw [upd_ne hb, upd_ne hb, upd_ne hb2, upd_ne hb]; exact hfa b hb hb2
      · refine ⟨_, rfl, .inl ⟨_, rfl, _, rfl, _, _, rfl, rfl, hm, ?_⟩⟩
        exact q _ _ (Int.emod_nonneg _ (by omega)) (Int.emod_lt_of_pos _ hm) ⟨ne, _, (j : Int), cnt + 1, seed, 2, h1b _, by rw [upd_same, e3], by omega, by omega, by omega, hs0, hs1, hl2⟩ fun b hb hb2 => by rw [upd_ne hb2, upd_ne hb]; exact hfa b hb hb2
end
end Dw
namespace K2
open PySem PySem.Spec PyProof.Rows L2 Dw TL
abbrev sWord : Stmt := top 4
abbrev sName : Stmt := top 6
abbrev sKw : Stmt := top 11
abbrev sDue : Stmt := top 12
abbrev sLaw : Stmt := top 13
abbrev LET : Str := "abcdefghijklmnopqrstuvwxyz"
abbrev DIG : Str := "0123456789"
abbrev ALN : Str := "abcdefghijklmnopqrstuvwxyz0123456789"
def kws1 : List V := [.str "globals", .str "kinds", .str "keep", .str "def", .str "if", .str "else", .str "while", .str "risk", .str "raise", .str "try"]
def kws2 : List V := [.str "except", .str "finally", .str "undo", .str "with", .str "swallow", .str "return"]
def kws : List V := kws1 ++ kws2
def alnum (c : Nat) : Bool := decide (c ∈ LET.cps.toList) || decide (c ∈ DIG.cps.toList)
def isW (z : Str) : Bool := match z.cps.toList with
  | [] => false
  | c :: r => decide (c ∈ LET.cps.toList) && (c :: r).all alnum
def isN (z : Str) : Bool := isW z && !inV (.str z) kws
def Small (z : Str) : Prop := z.length ≤ 1000
theorem small_line {z : Str} (h : Small z) : z.length ≤ sizeLine := Nat.le_of_lt (small1000 h)
theorem lc_str {x : Str} {g : TG} {tt : TT} {te : TE} {vs : List Nat} {σ : L2.St} {H1 : Hp} {D : Addr} {Qd : Hp → Prop} (Pv : Nat → Hp → Prop) (h0 : Pv 0 (upd H1 D (.lst [])))
    (hs : ∀ i c H, x.cps[i]? = some c → Pv i H → g (.str ⟨#[c]⟩) (wipe σ vs) H fun σ2 H2 => wipe σ2 vs = wipe σ vs ∧ tt σ2 H2 fun b H3 =>
      if b = true then te σ2 H3 fun y H4 => ∃ acc, H4 D = some (.lst acc) ∧ acc.length < sizeLine ∧ Pv (i + 1) (upd H4 D (.lst (acc ++ [y]))) else Pv (i + 1) H3) (hd : ∀ H, Pv x.cps.size H → Qd H) :
    ∃ W : Nat → Nat → Hp → Prop, (∃ m, W 0 m (upd H1 D (.lst []))) ∧ ∀ i m H, W i m H →
      ((Its x).stop i H ∧ Qd H) ∨ ((Its x).go i H ∧ ∃ Nx : Hp → Prop, (∀ H', Nx H' → ∃ m', m' < m ∧ W (i + 1) m' H') ∧ ∀ x' H', (Its x).yld i H x' H' → g x' (wipe σ vs) H' fun σ2 H2 => wipe σ2 vs = wipe σ vs ∧ tt σ2 H2 fun b H3 =>
        if b = true then te σ2 H3 fun y H4 => ∃ acc, H4 D = some (.lst acc) ∧ acc.length < sizeLine ∧ Nx (upd H4 D (.lst (acc ++ [y]))) else Nx H3) := by
  refine ⟨fun i m H => m = x.cps.size - i ∧ i ≤ x.cps.size ∧ Pv i H, ⟨x.cps.size, by simp, Nat.zero_le _, h0⟩, ?_⟩
  rintro i m H ⟨rfl, hi, p⟩
  by_cases hlt : i < x.cps.size
  · refine .inr ⟨hlt, Pv (i + 1), fun H' p' => ⟨x.cps.size - (i + 1), by omega, rfl, hlt, p'⟩, fun x' H' y => ?_⟩
    obtain ⟨e, c, hc, y⟩ := y
    subst e y
    exact hs i c _ hc p
  · have e : i = x.cps.size := by omega
    subst e
    exact .inl ⟨Nat.le_refl _, hd H p⟩
/-- what all read of the module's names -/
structure TN (K : PySem.W.Frag) (mg : Str → Option Value) (tKW fM fP fD fW fN fK fU : Addr) : Prop where
  int : mg "int" = none
  len : mg "len" = none
  all : mg "all" = none
  range : mg "range" = none
  isinstance : mg "isinstance" = none
  str : mg "str" = none
  bool : mg "bool" = none
  mg_LETTERS : ∃ t, mg "LETTERS" = some (.str LET t)
  mg_DIGITS : ∃ t, mg "DIGITS" = some (.str DIG t)
  mg_KEYWORDS : mg "KEYWORDS" = some (.ref tKW)
  kwT : ∀ H, SqT K H tKW kws
  g_is_word : mg "is_word" = some (.ref fW)
  k_is_word : PySem.W.keepIn K (.ref fW) = true
  g_is_name : mg "is_name" = some (.ref fN)
  k_is_name : PySem.W.keepIn K (.ref fN) = true
  g__law_pool : mg "_law_pool" = some (.ref fP)
  k__law_pool : PySem.W.keepIn K (.ref fP) = true
  g__law_draw : mg "_law_draw" = some (.ref fD)
  k__law_draw : PySem.W.keepIn K (.ref fD) = true
  g__law_keywords : mg "_law_keywords" = some (.ref fK)
  k__law_keywords : PySem.W.keepIn K (.ref fK) = true
  g__law_due : mg "_law_due" = some (.ref fU)
  k__law_due : PySem.W.keepIn K (.ref fU) = true
/-- a value of the law's: a small text, or something that is no text -/
def Named (K : PySem.W.Frag) (vs : List V) (H : Hp) (Q : VK) : Prop := (∃ z, vs = [.str z] ∧ Small z ∧ ∀ H', Same H H' → Q (.bl (isN z)) H') ∨ (∃ v T, vs = [v] ∧ TyX K H v (.type T) ∧ kitB T "str" = some false ∧ Q (.bl false) H)
def spWord : Sp := fun vs H Q _ => ∃ z, vs = [.str z] ∧ Small z ∧ ∀ H', Same H H' → Q (.bl (isW z)) H'
def spName (K : PySem.W.Frag) : Sp := fun vs H Q _ => Named K vs H Q
def spKw : Sp := fun vs H Q _ => vs = [] ∧ ∀ H' p, Same H H' → H p = none → H' p = some (.lst kws) → Q (.ref p) H'
section
variable {P : Program} {w : World} {K : PySem.W.Frag} {mg : Str → Option Value} {base : Heap} {tKW fM fP fD fW fN fK fU : Addr}
theorem scW : FnScope ["text", "sign"] ["text"] (defScope sWord) := ⟨rfl, rfl, rfl, by decide +kernel, rfl, by decide +kernel, by decide +kernel⟩
theorem isW_cons {z : Str} {c : Nat} {r : List Nat} (e : z.cps.toList = c :: r) (hc : c ∈ LET.cps.toList) : isW z = (z.cps.toList.map alnum).all id := by
  unfold isW
  rw [e]
  show (decide (c ∈ LET.cps.toList) && (c :: r).all alnum) = ((c :: r).map alnum).all id
  rw [decide_eq_true hc, Bool.true_and, List.all_map]
  rfl
theorem isW_not {z : Str} {c : Nat} {r : List Nat} (e : z.cps.toList = c :: r) (hc : ¬ c ∈ LET.cps.toList) : isW z = false := by
  unfold isW
  rw [e]
  show (decide (c ∈ LET.cps.toList) && (c :: r).all alnum) = false
  rw [decide_eq_false hc, Bool.false_and]
theorem isW_nil {z : Str} (e : z.cps.toList = []) : isW z = false := by
  unfold isW
  rw [e]
theorem st_ret_same {D : Ends} {σ : L2.St} {H : Hp} : True := trivial
theorem ok_word {f : Addr} {fd : FuncData} (F : Fun K "is_word" "is_word" sWord f fd) (T : TN K mg tKW fM fP fD fW fN fK fU) : FnOk P w K mg base CX0 1 f fd ["text"] spWord := by
  refine F.ok scW (fun vs H Q E h => ?_) (fun cdv A outer s H vs Q E hr h => ?_)
  · obtain ⟨z, rfl, _⟩ := h
    rfl
  obtain ⟨z, rfl, hz, q⟩ := h
  obtain ⟨tL, mL⟩ := T.mg_LETTERS
  obtain ⟨tD, mD⟩ := T.mg_DIGITS
  refine ⟨_, (pss_cons (ps_if (PW.pt (pw_or (pt_cmpR op_eq (pv 0) pe_str (nomark _)) (pw_or1 (pt_cmpR op_notIn_sign (pe_ix ix_str (pv 0) pe_int (fun _ _ => rfl)) (pe_glob (v := .str LET) rfl mL ⟨tL, rfl⟩) (by rfl)))))
      (pss_one (ps_ret pe_bl))
      pss_nil)
    (pss_one (ps_ret (pe_callB (cr_all rfl) (by rfl) T.all (by decide +kernel) (pa_cons (pe_lc (own := [("sign", 1)]) (g := gName 1) (tt := tYes) (by rfl) scW.nd (pi_str (pv 0)) (blkOk_by (own := [("sign", 1)]) (N := ["text", "sign"]) (sc := defScope sWord) (by decide +kernel)) (fun _ _ _ _ _ => pg_name (i := 1) scW.nd rfl (Or.inl rfl)) (fun _ _ _ _ _ => pts_nil) (fun _ _ _ _ _ => (pe_or (pe_cmpR op_in_sign (pv 1) (pe_glob (v := .str LET) rfl mL ⟨tL, rfl⟩) (by rfl)) (pe_one (pe_cmpR op_in_sign (pv 1) (pe_glob (v := .str DIG) rfl mD ⟨tD, rfl⟩) (by rfl)))))) pa_nil))))), ?_⟩
  cases hc : z.cps.toList with
  | nil =>
    have ez : z = Str.ofString "" := Str.ext' (Array.toList_inj.mp (hc.trans (by decide +kernel)))
    refine st_seq (st_yes (ans_or1 (ans_eq (fun Q q => ⟨_, rfl, q⟩) (fun Q q => q) rfl (decide_eq_true (congrArg V.str ez)))) ?_)
    have := q H (Same.refl H)
    rw [isW_nil hc] at this
    exact this
  | cons c r =>
    have ez : ¬ z = Str.ofString "" := fun e => by
      rw [e] at hc
      rw [show (Str.ofString "").cps.toList = [] from by decide +kernel] at hc
      cases hc
    have hat : atI z.cps.toList 0 = some c := by
      rw [hc]
      exact atI_nat (j := 0) rfl
    by_cases hl : c ∈ LET.cps.toList
    · refine st_seq (st_no (ans_or (ans_eq (fun Q q => ⟨_, rfl, q⟩) (fun Q q => q) rfl (decide_eq_false fun e => ez (V.str.inj e))) (fun Q q => ⟨_, rfl, z, 0, c, rfl, rfl, small_line hz, hat, c, LET, rfl, rfl, _, rfl, (by rw [decide_eq_true hl]; exact q)⟩)) ?_)
      refine ⟨_, rfl, z, rfl, fun D hD => lc_str (fun i H' => Same H H' ∧ H' D = some (.lst (((z.cps.toList.take i).map alnum).map V.bl))) ⟨same_upd hD, upd_same⟩ ?_ ?_⟩
      · rintro i c' H' hi ⟨s2, hD2⟩
        have hi2 : z.cps.toList[i]? = some c' := by rw [Array.getElem?_toList]; exact hi
        have hil : i < z.length := (Array.getElem?_eq_some_iff.mp hi).1
        refine ⟨rfl, _, rfl, c', LET, rfl, rfl, _, rfl, ?_⟩
        have hz' : z.length ≤ 1000 := hz
        have hsz : (((z.cps.toList.take i).map alnum).map V.bl).length < sizeLine := by
          rw [List.length_map, List.length_map, List.length_take]
          exact Nat.lt_of_le_of_lt (Nat.min_le_left _ _) (small1000 (by omega))
        have fin : ∀ y, y = V.bl (alnum c') → ∃ acc, H' D = some (.lst acc) ∧ acc.length < sizeLine ∧ (Same H (upd H' D (.lst (acc ++ [y]))) ∧ (upd H' D (.lst (acc ++ [y]))) D = some (.lst (((z.cps.toList.take (i + 1)).map alnum).map V.bl))) := by
          rintro y rfl
          refine ⟨_, hD2, hsz, fun b o e => ?_, ?_⟩
          · rw [upd_ne (ne_of_none e hD)]
            exact s2 _ _ e
          · rw [upd_same, List.take_add_one, hi2, List.map_append, List.map_append]
            rfl
        refine ite2 (fun e => ?_) (fun e => ?_)
        · exact fin _ (by unfold alnum; rw [e]; rfl)
        · refine ⟨_, rfl, c', DIG, rfl, rfl, ?_⟩
          exact fin _ (by unfold alnum; rw [Bool.eq_false_iff.mpr e, Bool.false_or])
      · rintro H' ⟨s2, hD2⟩
        have et : z.cps.toList.take z.cps.size = z.cps.toList := List.take_of_length_le (by rw [Array.length_toList]; exact Nat.le_refl _)
        rw [et] at hD2
        refine ⟨D, _, rfl, SqL.of hD2, ?_⟩
        rw [← isW_cons hc hl]
        exact q _ s2
    · refine st_seq (st_yes (ans_or (ans_eq (fun Q q => ⟨_, rfl, q⟩) (fun Q q => q) rfl (decide_eq_false fun e => ez (V.str.inj e))) (fun Q q => ⟨_, rfl, z, 0, c, rfl, rfl, small_line hz, hat, c, LET, rfl, rfl, _, rfl, (by rw [decide_eq_false hl]; exact q)⟩)) ?_)
      have := q H (Same.refl H)
      rw [isW_not hc hl] at this
      exact this
theorem scN : FnScope ["value"] ["value"] (defScope sName) := ⟨rfl, rfl, rfl, by decide +kernel, rfl, by decide +kernel, by decide +kernel⟩
theorem kws_flat : kws.all flatV = true := by decide +kernel
theorem ok_name {f : Addr} {fd fdW : FuncData} (F : Fun K "is_name" "is_name" sName f fd) (T : TN K mg tKW fM fP fD fW fN fK fU) (G_is_word : FnOk P w K mg base CX0 1 fW fdW ["text"] spWord) (b_is_word : Binds K fdW ["text"] []) :
    FnOk P w K mg base CX0 2 f fd ["value"] (spName K) := by
  refine F.ok scN (fun vs H Q E h => ?_) (fun cdv A outer s H vs Q E hr h => ?_)
  · rcases h with ⟨z, rfl, _⟩ | ⟨v, t, rfl, _⟩
    · rfl
    · rfl
  refine ⟨_, (pss_one (ps_ret (pe_and (pe_callB call_isi (by rfl) T.isinstance (by decide +kernel) (pa_cons (pv 0) (pa_cons (pe_bltn (v := .ty "str") (by rfl) T.str (by decide +kernel) rfl) pa_nil))) (pe_and (pe_call G_is_word (hr.mono (by decide)) (by rfl) T.g_is_word T.k_is_word b_is_word .nil pass0 (pa_cons (pv 0) pa_nil)) (pe_one (pe_cmpR op_notIn_seq (pv 0) (pe_glob (v := .ref tKW) rfl T.mg_KEYWORDS rfl) (by rfl))))))), ?_⟩
  rcases h with ⟨z, rfl, hz, q⟩ | ⟨v, t, rfl, hty, hk, q⟩
  · refine ⟨_, rfl, _, _, _, _, true, rfl, .ty "str", .base (.str z), kit_ty (by decide +kernel), true, rfl, iteT ⟨_, rfl, z, rfl, hz, fun H1 s1 => ⟨isW z, rfl, ite2 (fun e => ?_) (fun e => ?_)⟩⟩⟩
    · refine ⟨_, rfl, tKW, kws, rfl, .inr (T.kwT H1), rfl, kws_flat, ?_⟩
      have := q H1 s1
      unfold isN at this
      rw [e, Bool.true_and] at this
      exact this
    · have := q H1 s1
      unfold isN at this
      rw [Bool.eq_false_iff.mpr e, Bool.false_and] at this
      exact this
  · exact ⟨_, rfl, _, _, _, _, false, rfl, .ty "str", hty, kit_ty hk, false, rfl, iteF q⟩
theorem scK : FnScope ["_law_first"] [] (defScope sKw) := ⟨rfl, rfl, rfl, by decide +kernel, rfl, by decide +kernel, by decide +kernel⟩
theorem ok_kw {f : Addr} {fd : FuncData} (F : Fun K "_law_keywords" "_law_keywords" sKw f fd) : FnOk P w K mg base CX0 1 f fd [] spKw := by
  refine F.ok scK (fun vs H Q E h => ?_) (fun cdv A outer s H vs Q E hr h => ?_)
  · obtain ⟨rfl, _⟩ := h
    rfl
  obtain ⟨rfl, q⟩ := h
  refine ⟨_, (pss_cons (ps_set (i := 0) scK.nd rfl (Or.inl rfl) (pe_lst (pa_cons pe_str (pa_cons pe_str (pa_cons pe_str (pa_cons pe_str (pa_cons pe_str (pa_cons pe_str (pa_cons pe_str (pa_cons pe_str (pa_cons pe_str (pa_cons pe_str pa_nil))))))))))))
    (pss_one (ps_ret (pe_op op_cat (pv 0) (pe_lst (pa_cons pe_str (pa_cons pe_str (pa_cons pe_str (pa_cons pe_str (pa_cons pe_str (pa_cons pe_str pa_nil))))))))))), ?_⟩
  refine ⟨(by show 10 ≤ sizeLine; decide), fun a ha => ?_⟩
  refine ⟨_, rfl, (by show 6 ≤ sizeLine; decide), fun b hb => ?_⟩
  have hab : a ≠ b := ne_of_none upd_same hb
  refine ⟨a, b, kws1, kws2, rfl, rfl, by rw [upd_ne hab]; exact upd_same, upd_same, (by show 16 ≤ sizeLine; decide), fun c hc => ?_⟩
  exact q _ c ((same_upd ha).trans ((same_upd hb).trans (same_upd hc))) (((same_upd ha).trans (same_upd hb)).free hc) upd_same
theorem scU : FnScope ["_law_value", "_law_letters", "_law_char"] ["_law_value"] (defScope sDue) := ⟨rfl, rfl, rfl, by decide +kernel, rfl, by decide +kernel, by decide +kernel⟩
theorem aln_is (c : Nat) : decide (c ∈ (LET ++ Str.ofString "0123456789").cps.toList) = alnum c := by
  unfold alnum
  rw [show (LET ++ Str.ofString "0123456789").cps.toList = LET.cps.toList ++ DIG.cps.toList by decide +kernel]
  by_cases h1 : c ∈ LET.cps.toList
  · rw [decide_eq_true h1, decide_eq_true (List.mem_append_left _ h1)]; rfl
  · by_cases h2 : c ∈ DIG.cps.toList
    · rw [decide_eq_true h2, decide_eq_true (List.mem_append_right _ h2), Bool.or_true]
    · rw [decide_eq_false h1, decide_eq_false h2, decide_eq_false (fun h => (List.mem_append.mp h).elim h1 h2)]; rfl
theorem ok_due {f : Addr} {fd fdK : FuncData} (F : Fun K "_law_due" "_law_due" sDue f fd) (T : TN K mg tKW fM fP fD fW fN fK fU) (G__law_keywords : FnOk P w K mg base CX0 1 fK fdK [] spKw) (b__law_keywords : Binds K fdK [] []) :
    FnOk P w K mg base CX0 2 f fd ["_law_value"] (spName K) := by
  refine F.ok scU (fun vs H Q E h => ?_) (fun cdv A outer s H vs Q E hr h => ?_)
  · rcases h with ⟨z, rfl, _⟩ | ⟨v, t, rfl, _⟩
    · rfl
    · rfl
  refine ⟨_, (pss_cons (ps_if (PW.pt (pw_or (pt_not (pt_val (pe_callB call_isi (by rfl) T.isinstance (by decide +kernel) (pa_cons (pv 0) (pa_cons (pe_bltn (v := .ty "str") (by rfl) T.str (by decide +kernel) rfl) pa_nil))))) (pw_or (pt_cmpR op_eq (pv 0) pe_str (nomark _)) (pw_or1 (pt_cmpR op_in_seq (pv 0) (pe_call0 G__law_keywords (hr.mono (by decide)) (by rfl) T.g__law_keywords T.k__law_keywords b__law_keywords .nil pass0) (by rfl))))))
      (pss_one (ps_ret pe_bl))
      pss_nil)
    (pss_cons (ps_set (i := 1) scU.nd rfl (Or.inr rfl) pe_str)
    (pss_cons (ps_if (pt_cmpR op_notIn_sign (pe_ix ix_str (pv 0) pe_int (fun _ _ => rfl)) (pv 1) (by rfl))
      (pss_one (ps_ret pe_bl))
      pss_nil)
    (pss_one (ps_ret (pe_callB (cr_all rfl) (by rfl) T.all (by decide +kernel) (pa_cons (pe_lc (own := [("_law_char", 2)]) (g := gName 2) (tt := tYes) (by rfl) scU.nd (pi_str (pv 0)) (blkOk_by (own := [("_law_char", 2)]) (N := ["_law_value", "_law_letters", "_law_char"]) (sc := defScope sDue) (by decide +kernel)) (fun _ _ _ _ _ => pg_name (i := 2) scU.nd rfl (Or.inl rfl)) (fun _ _ _ _ _ => pts_nil) (fun _ _ _ _ _ => (pe_cmpR op_in_sign (pv 2) (pe_op op_add_str (pv 1) pe_str) (by rfl)))) pa_nil))))))), ?_⟩
  rcases h with ⟨z, rfl, hz, q⟩ | ⟨v, t, rfl, hty, hk, q⟩
  · refine ⟨_, rfl, _, _, _, _, true, rfl, .ty "str", .base (.str z), kit_ty (by decide +kernel), true, rfl, iteF ⟨_, rfl, rfl, _, rfl, ite2 (fun e => ?_) (fun e => ?_)⟩⟩
    · -- the empty text
      have ez : z = Str.ofString "" := V.str.inj (of_decide_eq_true e)
      have := q H (Same.refl H)
      rw [show isN z = false by rw [ez]; decide +kernel] at this
      exact this
    · have ez : ¬ z = Str.ofString "" := fun e' => e (decide_eq_true (congrArg V.str e'))
      refine ⟨_, rfl, rfl, fun H1 p s1 _ hp => ⟨p, kws, rfl, .inl (SqL.of hp), rfl, kws_flat, _, rfl, ite2 (fun e2 => ?_) (fun e2 => ?_)⟩⟩
      · have := q H1 s1
        have e2' : inV (.str z) kws = true := e2
        rw [show isN z = false by unfold isN; rw [e2', Bool.not_true, Bool.and_false]] at this
        exact this
      · have e2' : inV (.str z) kws = false := Bool.eq_false_iff.mpr e2
        have en : isN z = isW z := by unfold isN; rw [e2', Bool.not_false, Bool.and_true]
        cases hc : z.cps.toList with
        | nil => exact absurd (Str.ext' (Array.toList_inj.mp (hc.trans (by decide +kernel)))) ez
        | cons c r =>
          have hat : atI z.cps.toList 0 = some c := by
            rw [hc]
            exact atI_nat (j := 0) rfl
          refine ⟨_, rfl, z, 0, c, rfl, rfl, small_line hz, hat, _, rfl, c, LET, rfl, rfl, _, rfl, ite2 (fun e3 => ?_) (fun e3 => ?_)⟩
          · have hl : ¬ c ∈ LET.cps.toList := fun h => by
              rw [decide_eq_true h] at e3
              cases e3
            have := q H1 s1
            rw [en, isW_not hc hl] at this
            exact this
          · have hl : c ∈ LET.cps.toList := by
              by_cases h : c ∈ LET.cps.toList
              · exact h
              · exact absurd (by rw [decide_eq_false h]; rfl) e3
            refine ⟨_, rfl, z, rfl, fun D hD => lc_str (fun i H' => Same H1 H' ∧ H' D = some (.lst (((z.cps.toList.take i).map alnum).map V.bl))) ⟨same_upd hD, upd_same⟩ ?_ ?_⟩
            · rintro i c' H' hi ⟨s2, hD2⟩
              have hi2 : z.cps.toList[i]? = some c' := by rw [Array.getElem?_toList]; exact hi
              have hil : i < z.length := (Array.getElem?_eq_some_iff.mp hi).1
              have hz' : z.length ≤ 1000 := hz
              have hsz : (((z.cps.toList.take i).map alnum).map V.bl).length < sizeLine := by
                rw [List.length_map, List.length_map, List.length_take]
                exact Nat.lt_of_le_of_lt (Nat.min_le_left _ _) (small1000 (by omega))
              refine ⟨rfl, _, rfl, _, rfl, _, _, rfl, rfl, (by decide +kernel), c', _, rfl, rfl, _, hD2, hsz, fun b o e => ?_, ?_⟩
              · rw [upd_ne (ne_of_none e hD)]
                exact s2 _ _ e
              · rw [upd_same, List.take_add_one, hi2, List.map_append, List.map_append, aln_is]
                rfl
            · rintro H' ⟨s2, hD2⟩
              have et : z.cps.toList.take z.cps.size = z.cps.toList := List.take_of_length_le (by rw [Array.length_toList]; exact Nat.le_refl _)
              rw [et] at hD2
              refine ⟨D, _, rfl, SqL.of hD2, ?_⟩
              rw [← isW_cons hc hl, ← en]
              exact q _ (s1.trans s2)
  · exact ⟨_, rfl, _, _, _, _, false, rfl, .ty "str", hty, kit_ty hk, false, rfl, iteT q⟩
theorem scL : FnScope ["_law_script", "_law_pool_here", "_law_chars", "_law_word", "_law_odd", "_law_at", "_law_keyword", "_law_values", "_law_value", "_law_k"] ["_law_script"] (defScope sLaw) := ⟨rfl, rfl, rfl, by decide +kernel, rfl, by decide +kernel, by decide +kernel⟩
def spLaw (K : PySem.W.Frag) : Sp := fun vs H Q _ => ∃ (a : Addr) (ns : List Int), vs = [.ref a] ∧ SqL K H a (ns.map V.int) ∧ ns.length ≤ 63 ∧ ∀ H', Q (.bl true) H'
theorem _root_.Dw.PoolAt.mono {H : Hp} {p l : Addr} {n m : Int} (P : PoolAt H p l n) (h : n ≤ m) : PoolAt H p l m := by
  obtain ⟨ne, cs, ix, cnt, seed, ph, h1, h2, a, b, c, d⟩ := P
  exact ⟨ne, cs, ix, cnt, seed, ph, h1, h2, a, b, by omega, d⟩
theorem same_draw {H H1 H2 : Hp} {p l : Addr} (np : H p = none) (nl : H l = none) (s : Same H H1) (f : ∀ b, b ≠ p → b ≠ l → H2 b = H1 b) : Same H H2 := fun b o e => by
  rw [f b (ne_of_none e np) (ne_of_none e nl)]
  exact s _ _ e
theorem atI_ex {α : Type} {xs : List α} {r : Int} (h0 : 0 ≤ r) (h1 : r < xs.length) : ∃ c, atI xs r = some c ∧ c ∈ xs := by
  obtain ⟨j, rfl⟩ : ∃ j : Nat, r = (j : Int) := ⟨r.toNat, by omega⟩
  have hj : j < xs.length := by omega
  exact ⟨xs[j], atI_nat (List.getElem?_eq_getElem hj), List.getElem_mem hj⟩
theorem log_small {m : Int} (h0 : 0 < m) (h : m < 1152921504606846976) : m.natAbs.log2 < 9000 := by
  have e : (2:Nat) ^ 60 = 1152921504606846976 := by decide
  have : m.natAbs.log2 < 60 := (Nat.log2_lt (by omega)).mpr (by rw [e]; omega)
  omega
theorem joinL_len : ∀ ps : List (List Nat), (joinL [] ps).length = (ps.map List.length).sum
  | [] => rfl
  | [p] => by simp [joinL]
  | p :: q :: r => by
    show (p ++ ([] ++ joinL [] (q :: r))).length = _
    rw [List.nil_append, List.length_append, joinL_len (q :: r), List.map_cons, List.map_cons, List.map_cons, List.sum_cons, List.sum_cons, List.sum_cons]
theorem join_len (ys : List Str) (h : ∀ y ∈ ys, y.length = 1) : (Txt.join (Str.ofString "") ys).length = ys.length := by
  rw [join_eq, len_tl, tl_join, show tl (Str.ofString "") = [] from by decide +kernel, joinL_len, List.map_map]
  induction ys with
  | nil => rfl
  | cons y r ih =>
    rw [List.map_cons, List.sum_cons, ih (fun z hz => h z (List.mem_cons_of_mem _ hz)), List.length_cons]
    have := h y (List.mem_cons_self)
    rw [len_tl] at this
    show (tl y).length + r.length = r.length + 1
    omega
theorem ones_sum (ys : List Str) (h : ∀ y ∈ ys, y.length = 1) : (ys.map (·.length)).sum = ys.length := by
  induction ys with
  | nil => rfl
  | cons y r ih =>
    rw [List.map_cons, List.sum_cons, ih (fun z hz => h z (List.mem_cons_of_mem _ hz)), List.length_cons]
    have := h y (List.mem_cons_self)
    omega
theorem cutS_len (z : Str) (lo hi : Option Int) : (cutS z lo hi).length ≤ z.length := by
  rw [len_tl, len_tl z]
  show ((z.cps.toList.drop _).take _).toArray.toList.length ≤ _
  rw [List.length_take, List.length_drop]
  show _ ≤ z.cps.toList.length
  omega
theorem kws_small : ∀ v ∈ kws, ∃ y : Str, v = .str y ∧ y.length ≤ 7 := by
  intro v hv
  have h : kws.all (fun v => match v with | .str y => decide (y.length ≤ 7) | _ => false) = true := by decide +kernel
  have := List.all_eq_true.mp h v hv
  cases v with
  | str y => exact ⟨y, rfl, of_decide_eq_true this⟩
  | _ => cases this
/-- a value that the loop comes to -/
def OkV (H : Hp) (x : V) : Prop := (∃ z, x = .str z ∧ Small z) ∨ x = .non ∨ x = .int 5 ∨ x = .bl true ∨ (∃ a xs, x = .ref a ∧ H a = some (.tup xs)) ∨ ∃ a xs, x = .ref a ∧ H a = some (.lst xs)
theorem OkV.same {H H' : Hp} {x : V} (s : Same H H') (h : OkV H x) : OkV H' x := by
  rcases h with h | h | h | h | ⟨a, xs, e, h⟩ | ⟨a, xs, e, h⟩
  · exact .inl h
  · exact .inr (.inl h)
  · exact .inr (.inr (.inl h))
  · exact .inr (.inr (.inr (.inl h)))
  · exact .inr (.inr (.inr (.inr (.inl ⟨a, xs, e, s _ _ h⟩))))
  · exact .inr (.inr (.inr (.inr (.inr ⟨a, xs, e, s _ _ h⟩))))
theorem OkV.kind {K : PySem.W.Frag} {H : Hp} {x : V} (h : OkV H x) : (∃ z, x = .str z ∧ Small z) ∨ ∀ H', Same H H' → ∃ T, TyX K H' x (.type T) ∧ kitB T "str" = some false := by
  rcases h with h | rfl | rfl | rfl | ⟨a, xs, rfl, h⟩ | ⟨a, xs, rfl, h⟩
  · exact .inl h
  · exact .inr fun H' s => ⟨"NoneType", .base .non, by decide +kernel⟩
  · exact .inr fun H' s => ⟨"int", .base (.int 5), by decide +kernel⟩
  · exact .inr fun H' s => ⟨"bool", .base (.bl true), by decide +kernel⟩
  · exact .inr fun H' s => ⟨"tuple", .base (.tup (s _ _ h)), by decide +kernel⟩
  · exact .inr fun H' s => ⟨"list", .base (.lst (s _ _ h)), by decide +kernel⟩
theorem line {n : Nat} (h : n ≤ 1000) : n ≤ sizeLine := Nat.le_of_lt (small1000 h)
theorem _root_.Dw.PoolAt.off {H : Hp} {p l k : Addr} {n : Int} (P : PoolAt H p l n) (h : H k = none) : k ≠ p ∧ k ≠ l := by
  obtain ⟨_, cs, ix, cnt, seed, ph, e1, e2, _⟩ := P
  refine ⟨fun e => ?_, fun e => ?_⟩
  · rw [e, e1] at h
    cases h
  · rw [e, e2] at h
    cases h
theorem loop_ok {H : Hp} {d : Addr} {xs : List V} {G : Hp → Prop} (ok : ∀ x ∈ xs, OkV H x) (hd : H d = some (.lst xs)) (h : ∀ (vs : List V) (H9 : Hp), (∀ x ∈ vs, OkV H9 x) → H9 d = some (.lst vs) → G H9) : G H := h xs H ok hd
theorem ok_law {f : Addr} {fd fdP fdD fdN fdK fdU : FuncData} (F : Fun K "law" "law" sLaw f fd) (T : TN K mg tKW fM fP fD fW fN fK fU)
    (G__law_pool : FnOk P w K mg base CX0 1 fP fdP ["_law_script"] (spPool K)) (b__law_pool : Binds K fdP ["_law_script"] [])
    (G__law_draw : FnOk P w K mg base CX0 2 fD fdD ["_law_pool_here", "_law_many"] spDraw) (b__law_draw : Binds K fdD ["_law_pool_here", "_law_many"] [])
    (G_is_name : FnOk P w K mg base CX0 2 fN fdN ["value"] (spName K)) (b_is_name : Binds K fdN ["value"] [])
    (G__law_keywords : FnOk P w K mg base CX0 1 fK fdK [] spKw) (b__law_keywords : Binds K fdK [] [])
    (G__law_due : FnOk P w K mg base CX0 2 fU fdU ["_law_value"] (spName K)) (b__law_due : Binds K fdU ["_law_value"] []) : FnOk P w K mg base CX0 3 f fd ["_law_script"] (spLaw K) := by
  refine F.ok scL (fun vs H Q E h => ?_) (fun cdv A outer s H vs Q E hr h => ?_)
  · obtain ⟨a, ns, rfl, _⟩ := h
    rfl
  obtain ⟨a, ns, rfl, hS, hlen, q⟩ := h
  refine ⟨_, (pss_cons (ps_set (i := 1) scL.nd rfl (Or.inr rfl) (pe_call G__law_pool (hr.mono (by decide)) (by rfl) T.g__law_pool T.k__law_pool b__law_pool .nil pass0 (pa_cons (pv 0) pa_nil)))
    (pss_cons (ps_set (i := 2) scL.nd rfl (Or.inr rfl) pe_str)
    (pss_cons (ps_set (i := 3) scL.nd rfl (Or.inl rfl) (pe_join pe_str (pe_lc (own := [("_law_k", 9)]) (g := gName 9) (tt := tYes) (by rfl) scL.nd (pi_range1 (by rfl) T.range (pa_cons (pe_op op_add pe_int (pe_call G__law_draw (hr.mono (by decide)) (by rfl) T.g__law_draw T.k__law_draw b__law_draw .nil pass0 (pa_cons (pv 1) (pa_cons pe_int pa_nil)))) pa_nil)) (blkOk_by (own := [("_law_k", 9)]) (N := ["_law_script", "_law_pool_here", "_law_chars", "_law_word", "_law_odd", "_law_at", "_law_keyword", "_law_values", "_law_value", "_law_k"]) (sc := defScope sLaw) (by decide +kernel)) (fun _ _ _ _ _ => pg_name (i := 9) scL.nd rfl (Or.inl rfl)) (fun _ _ _ _ _ => pts_nil) (fun _ _ _ _ _ => (pe_ix ix_str (pv 2) (pe_call G__law_draw (hr.mono (by decide)) (by rfl) T.g__law_draw T.k__law_draw b__law_draw .nil pass0 (pa_cons (pv 1) (pa_cons pe_int pa_nil))) (fun _ _ => rfl))))))
    (pss_cons (ps_set (i := 4) scL.nd rfl (Or.inl rfl) (pe_ix ix_str pe_str (pe_call G__law_draw (hr.mono (by decide)) (by rfl) T.g__law_draw T.k__law_draw b__law_draw .nil pass0 (pa_cons (pv 1) (pa_cons pe_int pa_nil))) (fun _ _ => rfl)))
    (pss_cons (ps_set (i := 5) scL.nd rfl (Or.inl rfl) (pe_call G__law_draw (hr.mono (by decide)) (by rfl) T.g__law_draw T.k__law_draw b__law_draw .nil pass0 (pa_cons (pv 1) (pa_cons (pe_op op_add (pe_callB call_len_str (by rfl) T.len PySem.boot_len (pa_cons (pv 3) pa_nil)) pe_int) pa_nil))))
    (pss_cons (ps_set (i := 6) scL.nd rfl (Or.inl rfl) (pe_ix ix_list (pe_call0 G__law_keywords (hr.mono (by decide)) (by rfl) T.g__law_keywords T.k__law_keywords b__law_keywords .nil pass0) (pe_call G__law_draw (hr.mono (by decide)) (by rfl) T.g__law_draw T.k__law_draw b__law_draw .nil pass0 (pa_cons (pv 1) (pa_cons pe_int pa_nil))) (fun _ _ => rfl)))
    (pss_cons (ps_set (i := 7) scL.nd rfl (Or.inl rfl) (pe_lst (pa_cons (pv 3) (pa_cons (pe_op op_add_str (pe_op op_add_str (pe_slice sl_str (pv 3) po_none (po_some (pv 5))) (pv 4)) (pe_slice sl_str (pv 3) (po_some (pv 5)) po_none)) (pa_cons (pv 6) (pa_cons (pe_op op_add_str (pv 6) (pe_slice sl_str (pv 3) po_none (po_some pe_int))) (pa_cons (pe_slice sl_str (pv 6) (po_some pe_int) po_none) (pa_cons pe_str pa_nil))))))))
    (pss_cons (ps_set (i := 7) scL.nd rfl (Or.inl rfl) (pe_op op_cat (pv 7) (pe_lst (pa_cons pe_non (pa_cons pe_int (pa_cons pe_bl (pa_cons (pe_tup (pa_cons (pv 3) pa_nil)) (pa_cons (pe_lst (pa_cons (pv 3) pa_nil)) pa_nil))))))))
    (pss_cons (ps_for PassesOwn.never rfl (pi_list (pv 7)) (pg_name (i := 8) scL.nd rfl (Or.inl rfl))
      (pss_one (ps_if (PW.pt (pw_or (pt_not (pt_val (pe_callB call_isi (by rfl) T.isinstance (by decide +kernel) (pa_cons (pe_call G_is_name (hr.mono (by decide)) (by rfl) T.g_is_name T.k_is_name b_is_name .nil pass0 (pa_cons (pv 8) pa_nil)) (pa_cons (pe_bltn (v := .ty "bool") (by rfl) T.bool (by decide +kernel) rfl) pa_nil))))) (pw_or1 (pt_cmpR op_ne (pe_call G_is_name (hr.mono (by decide)) (by rfl) T.g_is_name T.k_is_name b_is_name .nil pass0 (pa_cons (pv 8) pa_nil)) (pe_call G__law_due (hr.mono (by decide)) (by rfl) T.g__law_due T.k__law_due b__law_due .nil pass0 (pa_cons (pv 8) pa_nil)) (nomark _)))))
        (pss_one (ps_ret pe_bl))
        pss_nil)))
    (pss_one (ps_ret pe_bl))))))))))), ?_⟩
  refine ⟨_, rfl, a, ns, rfl, hS, hlen, fun H1 p l s1 np nl P1 => ?_⟩
  -- the word
  refine ⟨⟨_, rfl⟩, _, rfl, p, l, 0, 6, rfl, P1, by decide, by decide, log_small (by decide) (by decide), fun r H2 hr0 hr6 P2 f2 => ?_⟩
  have s2 : Same H H2 := same_draw np nl s1 f2
  refine ⟨1, r, rfl, rfl, 1 + r, rfl, by omega, by omega, fun D hD => ?_⟩
  have hDp : D ≠ p := by
    obtain ⟨_, cs, ix, cnt, seed, ph, e1, e2, _⟩ := P2
    exact fun e => by rw [e, e1] at hD; cases hD
  have hDl : D ≠ l := by
    obtain ⟨_, cs, ix, cnt, seed, ph, e1, e2, _⟩ := P2
    exact fun e => by rw [e, e2] at hD; cases hD
  have nD : H D = none := s2.free hD
  refine lc_range (lo := 0) (n := (1 + r).toNat) (fun i H' => Same H H' ∧ PoolAt H' p l (1 + (i : Int)) ∧ ∃ ys : List Str, H' D = some (.lst (ys.map V.str)) ∧ ys.length = i ∧ ∀ y ∈ ys, y.length = 1)
    ⟨s2.trans (same_upd hD), ?_, [], upd_same, rfl, by simp⟩ ?_ ?_
  · exact (P2.same (same_upd hD)).mono (by omega)
  · rintro i H3 hi ⟨s3, P3, ys, hD3, hy, h1⟩
    refine ⟨rfl, _, rfl, _, rfl, p, l, _, 36, rfl, P3, by omega, by decide, log_small (by decide) (by decide), fun r2 H4 hr0' hr36 P4 f4 => ?_⟩
    obtain ⟨c, hc, _⟩ := atI_ex (xs := ALN.cps.toList) (r := r2) hr0' (by rw [show ALN.cps.toList.length = 36 from by decide +kernel]; exact hr36)
    have s4 : Same H H4 := same_draw np nl s3 f4
    have hD4 : H4 D = some (.lst (ys.map V.str)) := by rw [f4 D hDp hDl]; exact hD3
    refine ⟨ALN, r2, c, rfl, rfl, (by decide +kernel), hc, _, hD4, ?_, ?_, ?_, ys ++ [⟨#[c]⟩], ?_, ?_, ?_⟩
    · rw [List.length_map]
      exact small1000 (by omega)
    · exact fun b o e => by
        rw [upd_ne (ne_of_none e nD)]
        exact s4 _ _ e
    · exact (P4.keep (upd_ne hDp.symm) (upd_ne hDl.symm)).mono (by omega)
    · rw [upd_same, List.map_append]
      rfl
    · rw [List.length_append, hy]
      rfl
    · intro y hm
      rcases List.mem_append.mp hm with hm | hm
      · exact h1 y hm
      · rw [List.mem_singleton.mp hm]
        rfl
  · rintro H3 ⟨s3, P3, ys, hD3, hy, h1⟩
    refine ⟨Str.ofString "", D, ys, rfl, rfl, .inl (SqL.of hD3), ?_, ?_⟩
    · rw [ones_sum ys h1, show (Str.ofString "").length = 0 from by decide +kernel]
      omega
    have hw0 : (Txt.join (Str.ofString "") ys).length ≤ 6 := by
      rw [join_len ys h1]
      omega
    have P3 := P3.mono (m := 7) (by omega)
    dsimp only [gName]
    generalize Txt.join (Str.ofString "") ys = w0 at hw0 ⊢
    have hw : w0.length ≤ sizeLine := line (by omega)
    -- the odd sign, the place, the keyword
    refine ⟨_, rfl, p, l, _, 18, rfl, P3, by decide, by decide, log_small (by decide) (by decide), fun ro H4 o0 o1 P4 f4 => ?_⟩
    obtain ⟨co, hco, _⟩ := atI_ex (xs := (Str.ofString " ABZ_.-+&*{}()=,?~").cps.toList) (r := ro) o0 (by rw [show (Str.ofString " ABZ_.-+&*{}()=,?~").cps.toList.length = 18 from by decide +kernel]; exact o1)
    refine ⟨_, ro, co, rfl, rfl, (by decide +kernel), hco, ?_⟩
    refine ⟨_, rfl, _, rfl, w0, rfl, hw, _, _, rfl, rfl, p, l, _, _, rfl, P4, by decide, by omega, log_small (by omega) (by omega), fun ra H5 a0 a1 P5 f5 => ?_⟩
    refine ⟨rfl, fun H6 k s56 nk hk => ⟨_, rfl, p, l, _, 16, rfl, P5.same s56, by decide, by decide, log_small (by decide) (by decide), fun rk H7 k0 k1 P7 f7 => ?_⟩⟩
    have hk7 : H7 k = some (.lst kws) := by rw [f7 k (P5.off nk).1 (P5.off nk).2]; exact hk
    obtain ⟨v, hv, hm⟩ := atI_ex (xs := kws) (r := rk) k0 (by rw [show kws.length = 16 from rfl]; exact k1)
    obtain ⟨kw, rfl, hkl⟩ := kws_small v hm
    refine ⟨k, kws, rk, .str kw, rfl, rfl, SqL.of hk7, hv, ?_⟩
    have l1 := cutS_len w0 none (some ra)
    have l2 := cutS_len w0 (some ra) none
    have l3 := cutS_len w0 none (some 1)
    have l4 := cutS_len kw (some 1) none
    have lo : (⟨#[co]⟩ : Str).length = 1 := rfl
    have l12 : (cutS w0 none (some ra) ++ (⟨#[co]⟩ : Str)).length ≤ 7 := by rw [Str.length_append]; omega
    have l123 : (cutS w0 none (some ra) ++ (⟨#[co]⟩ : Str) ++ cutS w0 (some ra) none).length ≤ 13 := by rw [Str.length_append]; omega
    have l34 : (kw ++ cutS w0 none (some 1)).length ≤ 13 := by rw [Str.length_append]; omega
    refine ⟨_, rfl, _, rfl, _, rfl, ra, rfl, w0, rfl, hw, _, rfl, _, _, rfl, rfl, line (by omega), _, rfl, _, rfl, ra, rfl, w0, rfl, hw, _, _, rfl, rfl, line (by omega), _, rfl, _, rfl, _, rfl, 1, rfl, w0, rfl, hw, _, _, rfl, rfl, line (by omega),
      _, rfl, 1, rfl, kw, rfl, line (by omega), (by show 6 ≤ sizeLine; decide), fun b hb => ?_⟩
    refine ⟨_, rfl, _, rfl, (by show 1 ≤ sizeLine; decide), fun t ht => ⟨_, rfl, (by show 1 ≤ sizeLine; decide), fun u hu => ⟨(by show 5 ≤ sizeLine; decide), fun y hy2 => ?_⟩⟩⟩
    generalize cutS w0 none (some ra) ++ (⟨#[co]⟩ : Str) ++ cutS w0 (some ra) none = x2 at l123 hb ht hu hy2 ⊢
    generalize kw ++ cutS w0 none (some 1) = x4 at l34 hb ht hu hy2 ⊢
    generalize cutS kw (some 1) none = x5 at l4 hb ht hu hy2 ⊢
    have hbt : b ≠ t := ne_of_none upd_same ht
    have hbu : b ≠ u := ne_of_none (by rw [upd_ne hbt]; exact upd_same) hu
    have htu : t ≠ u := ne_of_none upd_same hu
    have hby : b ≠ y := ne_of_none (by rw [upd_ne hbu, upd_ne hbt]; exact upd_same) hy2
    have hty : t ≠ y := ne_of_none (by rw [upd_ne htu]; exact upd_same) hy2
    have huy : u ≠ y := ne_of_none upd_same hy2
    refine ⟨b, y, _, _, rfl, rfl, by rw [upd_ne hby, upd_ne hbu, upd_ne hbt]; exact upd_same, upd_same, (by show 11 ≤ sizeLine; decide), fun d hd => ?_⟩
    have hdt : t ≠ d := ne_of_none (by rw [upd_ne hty, upd_ne htu]; exact upd_same) hd
    have hdu : u ≠ d := ne_of_none (by rw [upd_ne huy]; exact upd_same) hd
    have okd : ∀ H9 : Hp, H9 t = some (.tup [.str w0]) → H9 u = some (.lst [.str w0]) → ∀ x ∈ ([.str w0, .str x2, .str kw, .str x4, .str x5, .str (Str.ofString "")] ++ [.non, .int 5, .bl true, .ref t, .ref u] : List V), OkV H9 x := by
      intro H9 ht9 hu9 x hx
      have st : ∀ z : Str, z.length ≤ 1000 → OkV H9 (.str z) := fun z hz => .inl ⟨z, rfl, hz⟩
      rcases List.mem_append.mp hx with hx | hx
      · simp only [List.mem_cons, List.not_mem_nil, or_false] at hx
        rcases hx with rfl | rfl | rfl | rfl | rfl | rfl
        · exact st _ (by omega)
        · exact st _ (by omega)
        · exact st _ (by omega)
        · exact st _ (by omega)
        · exact st _ (by omega)
        · exact st _ (by decide +kernel)
      · simp only [List.mem_cons, List.not_mem_nil, or_false] at hx
        rcases hx with rfl | rfl | rfl | rfl | rfl
        · exact .inr (.inl rfl)
        · exact .inr (.inr (.inl rfl))
        · exact .inr (.inr (.inr (.inl rfl)))
        · exact .inr (.inr (.inr (.inr (.inl ⟨t, _, rfl, ht9⟩))))
        · exact .inr (.inr (.inr (.inr (.inr ⟨u, _, rfl, hu9⟩))))
    have ok9 := okd (upd (upd (upd (upd (upd H7 b (.lst [.str w0, .str x2, .str kw, .str x4, .str x5, .str (Str.ofString "")])) t (.tup [.str w0])) u (.lst [.str w0])) y (.lst [.non, .int 5, .bl true, .ref t, .ref u])) d
      (.lst ([.str w0, .str x2, .str kw, .str x4, .str x5, .str (Str.ofString "")] ++ [.non, .int 5, .bl true, .ref t, .ref u])))
      (by rw [upd_ne hdt, upd_ne hty, upd_ne htu]; exact upd_same) (by rw [upd_ne hdu, upd_ne huy]; exact upd_same)
    clear okd
    refine loop_ok ok9 upd_same ?_
    intro vs H9 ok9 hd9
    refine ⟨_, rfl, d, rfl, ⟨_, SqL.of hd9⟩, for_list (K := K) (a := d) (xs := vs) (fun i σ H' => ∃ v8 : Option V, σ = [some (.ref a), some (.ref p), some (.str ALN), some (.str w0), some (.str ⟨#[co]⟩), some (.int ra), some (.str kw), some (.ref d), v8, none] ∧ Same H9 H')
      ⟨none, rfl, Same.refl _⟩ (fun i σ H' _ ⟨_, _, s'⟩ => s'.seq (SqL.of hd9)) ?_ ?_⟩
    · rintro i x σ H' hi ⟨v8, rfl, s'⟩
      rcases ((ok9 x (List.mem_of_getElem? hi)).same s').kind (K := K) with ⟨z, rfl, hz⟩ | hk
      · refine ⟨_, rfl, .inl ⟨z, rfl, hz, fun Ha sa => ⟨_, _, _, _, true, rfl, .ty "bool", .base (.bl _), kit_ty (by decide +kernel), true, rfl, iteF ?_⟩⟩⟩
        refine ⟨_, rfl, .inl ⟨z, rfl, hz, fun Hb sb => ⟨_, rfl, .inl ⟨z, rfl, hz, fun Hc sc => ⟨rfl, _, rfl, iteNS rfl ?_⟩⟩⟩⟩⟩
        exact ⟨some (.str z), rfl, ((s'.trans sa).trans sb).trans sc⟩
      · obtain ⟨t1, y1, k1⟩ := hk H' (Same.refl _)
        refine ⟨_, rfl, .inr ⟨x, t1, rfl, y1, k1, ⟨_, _, _, _, true, rfl, .ty "bool", .base (.bl _), kit_ty (by decide +kernel), true, rfl, iteF ?_⟩⟩⟩
        refine ⟨_, rfl, .inr ⟨x, t1, rfl, y1, k1, _, rfl, .inr ⟨x, t1, rfl, y1, k1, rfl, _, rfl, iteNS rfl ?_⟩⟩⟩
        exact ⟨some x, rfl, s'⟩
    · rintro σ H' ⟨v8, rfl, s'⟩
      exact q _
end
theorem all_mk {l : PySem.W.OpenLaw} {w : World} {K : PySem.W.Frag} {h : Heap} {mg : Str → Option Value} {fa f_W f_N f_P f_M f_D f_K f_U f_L t_KW : Addr} (X : K.In h) (G : h.Ns mainGlobals mg) (hfa : mg "law" = some (.ref fa))
    {od_W an_W : Option Addr} {sl_W : Array (Option Value)} {oc_W kV_W dc_W pm_W cd_W ct_W : Value}
    (a_W : PySem.W.nsIn K mainGlobals "is_word" = some (some (.ref f_W))) (l_W : K.lookup f_W = some ⟨oc_W, od_W, .func (PySem.W.fnOf "is_word" "is_word" (defArgs sWord) (defBody sWord) (defScope sWord) .none kV_W dc_W pm_W an_W cd_W ct_W), sl_W⟩) (c_W : PySem.W.codeIn K cd_W "is_word" = true) (k_W : PySem.W.keepIn K (.ref f_W) = true)
    {od_N an_N : Option Addr} {sl_N : Array (Option Value)} {oc_N kV_N dc_N pm_N cd_N ct_N : Value}
    (a_N : PySem.W.nsIn K mainGlobals "is_name" = some (some (.ref f_N))) (l_N : K.lookup f_N = some ⟨oc_N, od_N, .func (PySem.W.fnOf "is_name" "is_name" (defArgs sName) (defBody sName) (defScope sName) .none kV_N dc_N pm_N an_N cd_N ct_N), sl_N⟩) (c_N : PySem.W.codeIn K cd_N "is_name" = true) (k_N : PySem.W.keepIn K (.ref f_N) = true)
    {od_P an_P : Option Addr} {sl_P : Array (Option Value)} {oc_P kV_P dc_P pm_P cd_P ct_P : Value}
    (a_P : PySem.W.nsIn K mainGlobals "_law_pool" = some (some (.ref f_P))) (l_P : K.lookup f_P = some ⟨oc_P, od_P, .func (PySem.W.fnOf "_law_pool" "_law_pool" (defArgs sPool) (defBody sPool) (defScope sPool) .none kV_P dc_P pm_P an_P cd_P ct_P), sl_P⟩) (c_P : PySem.W.codeIn K cd_P "_law_pool" = true) (k_P : PySem.W.keepIn K (.ref f_P) = true)
    {od_M an_M : Option Addr} {sl_M : Array (Option Value)} {oc_M kV_M dc_M pm_M cd_M ct_M : Value}
    (a_M : PySem.W.nsIn K mainGlobals "_law_mixed" = some (some (.ref f_M))) (l_M : K.lookup f_M = some ⟨oc_M, od_M, .func (PySem.W.fnOf "_law_mixed" "_law_mixed" (defArgs sMixed) (defBody sMixed) (defScope sMixed) .none kV_M dc_M pm_M an_M cd_M ct_M), sl_M⟩) (c_M : PySem.W.codeIn K cd_M "_law_mixed" = true) (k_M : PySem.W.keepIn K (.ref f_M) = true)
    {od_D an_D : Option Addr} {sl_D : Array (Option Value)} {oc_D kV_D dc_D pm_D cd_D ct_D : Value}
    (a_D : PySem.W.nsIn K mainGlobals "_law_draw" = some (some (.ref f_D))) (l_D : K.lookup f_D = some ⟨oc_D, od_D, .func (PySem.W.fnOf "_law_draw" "_law_draw" (defArgs sDraw) (defBody sDraw) (defScope sDraw) .none kV_D dc_D pm_D an_D cd_D ct_D), sl_D⟩) (c_D : PySem.W.codeIn K cd_D "_law_draw" = true) (k_D : PySem.W.keepIn K (.ref f_D) = true)
    {od_K an_K : Option Addr} {sl_K : Array (Option Value)} {oc_K kV_K dc_K pm_K cd_K ct_K : Value}
    (a_K : PySem.W.nsIn K mainGlobals "_law_keywords" = some (some (.ref f_K))) (l_K : K.lookup f_K = some ⟨oc_K, od_K, .func (PySem.W.fnOf "_law_keywords" "_law_keywords" (defArgs sKw) (defBody sKw) (defScope sKw) .none kV_K dc_K pm_K an_K cd_K ct_K), sl_K⟩) (c_K : PySem.W.codeIn K cd_K "_law_keywords" = true) (k_K : PySem.W.keepIn K (.ref f_K) = true)
    {od_U an_U : Option Addr} {sl_U : Array (Option Value)} {oc_U kV_U dc_U pm_U cd_U ct_U : Value}
    (a_U : PySem.W.nsIn K mainGlobals "_law_due" = some (some (.ref f_U))) (l_U : K.lookup f_U = some ⟨oc_U, od_U, .func (PySem.W.fnOf "_law_due" "_law_due" (defArgs sDue) (defBody sDue) (defScope sDue) .none kV_U dc_U pm_U an_U cd_U ct_U), sl_U⟩) (c_U : PySem.W.codeIn K cd_U "_law_due" = true) (k_U : PySem.W.keepIn K (.ref f_U) = true)
    {od_L an_L : Option Addr} {sl_L : Array (Option Value)} {oc_L kV_L dc_L pm_L cd_L ct_L : Value}
    (a_L : PySem.W.nsIn K mainGlobals "law" = some (some (.ref f_L))) (l_L : K.lookup f_L = some ⟨oc_L, od_L, .func (PySem.W.fnOf "law" "law" (defArgs sLaw) (defBody sLaw) (defScope sLaw) .none kV_L dc_L pm_L an_L cd_L ct_L), sl_L⟩) (c_L : PySem.W.codeIn K cd_L "law" = true) (k_L : PySem.W.keepIn K (.ref f_L) = true)
    (z_int : PySem.W.nsIn K mainGlobals "int" = some none)
    (z_len : PySem.W.nsIn K mainGlobals "len" = some none)
    (z_all : PySem.W.nsIn K mainGlobals "all" = some none)
    (z_range : PySem.W.nsIn K mainGlobals "range" = some none)
    (z_isinstance : PySem.W.nsIn K mainGlobals "isinstance" = some none)
    (z_str : PySem.W.nsIn K mainGlobals "str" = some none)
    (z_bool : PySem.W.nsIn K mainGlobals "bool" = some none)
    {tk_LET : Tok} (y_LET : PySem.W.nsIn K mainGlobals "LETTERS" = some (some (.str LET tk_LET)))
    {tk_DIG : Tok} (y_DIG : PySem.W.nsIn K mainGlobals "DIGITS" = some (some (.str DIG tk_DIG)))
    {td_KW : Option Addr} {ti_KW : Array Value} {tn_KW : Nat} {ts_KW : Array (Option Value)} (u_KW : PySem.W.nsIn K mainGlobals "KEYWORDS" = some (some (.ref t_KW))) (w_KW : K.lookup t_KW = some ⟨.type "tuple", td_KW, .seq ti_KW tn_KW, ts_KW⟩) (v_KW : ti_KW.size ≤ sizeLine ∧ Vals kws ti_KW.toList)
    : ∃ fd : FuncData, (∀ (s : Shared) (v : Value), BindsTo s fd ⟨[v], []⟩ [("_law_script", v)]) ∧ ∀ base : Heap, K.In base → base.Ns mainGlobals mg → FnOk l.prog w K mg base CX0 3 fa fd ["_law_script"] (spLaw K) := by
  have e := hfa.symm.trans (PySem.W.mg_of X G a_L)
  cases e
  have F_W := fun_mk (st := sWord) l_W c_W k_W
  have b_W := F_W.binds (ps := ["text"]) fun _ _ _ _ _ _ us hl => match us, hl with | [_], _ => rfl
  have g_W := PySem.W.mg_of X G a_W
  have F_N := fun_mk (st := sName) l_N c_N k_N
  have b_N := F_N.binds (ps := ["value"]) fun _ _ _ _ _ _ us hl => match us, hl with | [_], _ => rfl
  have g_N := PySem.W.mg_of X G a_N
  have F_P := fun_mk (st := sPool) l_P c_P k_P
  have b_P := F_P.binds (ps := ["_law_script"]) fun _ _ _ _ _ _ us hl => match us, hl with | [_], _ => rfl
  have g_P := PySem.W.mg_of X G a_P
  have F_M := fun_mk (st := sMixed) l_M c_M k_M
  have b_M := F_M.binds (ps := ["_law_number", "_law_count", "_law_many"]) fun _ _ _ _ _ _ us hl => match us, hl with | [_, _, _], _ => rfl
  have g_M := PySem.W.mg_of X G a_M
  have F_D := fun_mk (st := sDraw) l_D c_D k_D
  have b_D := F_D.binds (ps := ["_law_pool_here", "_law_many"]) fun _ _ _ _ _ _ us hl => match us, hl with | [_, _], _ => rfl
  have g_D := PySem.W.mg_of X G a_D
  have F_K := fun_mk (st := sKw) l_K c_K k_K
  have b_K := F_K.binds (ps := []) fun _ _ _ _ _ _ us hl => match us, hl with | [], _ => rfl
  have g_K := PySem.W.mg_of X G a_K
  have F_U := fun_mk (st := sDue) l_U c_U k_U
  have b_U := F_U.binds (ps := ["_law_value"]) fun _ _ _ _ _ _ us hl => match us, hl with | [_], _ => rfl
  have g_U := PySem.W.mg_of X G a_U
  have F_L := fun_mk (st := sLaw) l_L c_L k_L
  have g_L := PySem.W.mg_of X G a_L
  have m_int := PySem.W.mg_none_of X G z_int
  have m_len := PySem.W.mg_none_of X G z_len
  have m_all := PySem.W.mg_none_of X G z_all
  have m_range := PySem.W.mg_none_of X G z_range
  have m_isinstance := PySem.W.mg_none_of X G z_isinstance
  have m_str := PySem.W.mg_none_of X G z_str
  have m_bool := PySem.W.mg_none_of X G z_bool
  have n_LET := PySem.W.mg_of X G y_LET
  have n_DIG := PySem.W.mg_of X G y_DIG
  have n_KW := PySem.W.mg_of X G u_KW
  have sq_KW : ∀ H, SqT K H t_KW kws := fun H => .inr ⟨_, _, _, w_KW, rfl, rfl, v_KW.1, v_KW.2⟩
  refine ⟨PySem.W.fnOf "law" "law" (defArgs sLaw) (defBody sLaw) (defScope sLaw) .none kV_L dc_L pm_L an_L cd_L ct_L, fun s v => .of_eq rfl, fun base _ _ => ?_⟩
  have TDr : TD mg K f_M := ⟨m_int, m_len, g_M, k_M⟩
  have T : TN K mg t_KW f_M f_P f_D f_W f_N f_K f_U := ⟨m_int, m_len, m_all, m_range, m_isinstance, m_str, m_bool, ⟨_, n_LET⟩, ⟨_, n_DIG⟩, n_KW, sq_KW, g_W, k_W, g_N, k_N, g_P, k_P, g_D, k_D, g_K, k_K, g_U, k_U⟩
  have GM := ok_mixed (P := l.prog) (w := w) (base := base) F_M m_int
  have GP := ok_pool (P := l.prog) (w := w) (base := base) F_P m_int
  have GD := ok_draw F_D TDr GM b_M
  have GW := ok_word (P := l.prog) (w := w) (base := base) F_W T
  have GN := ok_name F_N T GW b_W
  have GK := ok_kw (P := l.prog) (w := w) (mg := mg) (base := base) F_K
  have GU := ok_due F_U T GK b_K
  exact ok_law F_L T GP b_P GD b_D GN b_N GK b_K GU b_U
end K2
open PySem PySem.W PyProof.Rows
set_option maxRecDepth 100000 in
set_option maxHeartbeats 0 in
theorem PySem.Challenge.cw_allornothing_k02_names_holds : PySem.Challenge.rw_allornothing_k02_names.Holds := by
  w_on; o_law; k_head; (case hw => w_witness2)
  k_fill
  refine L2.walk_of (l := PySem.Challenge.rw_allornothing_k02_names) (n := 63) (k := 3) (x := "_law_script") (CX := fun _ => L2.CX0) (sp := fun w => K2.spLaw _) rfl (by decide) rfl ⟨rfl, by decide, by decide⟩ (fun w h Y => PySem.W.kIn_of Y) ?F (fun _ _ a ns hl _ hS => ⟨a, ns, rfl, hS, hl, fun _ => rfl⟩) (fun _ _ _ _ _ h => h)
  case F =>
    intro w mg fa h KX G hmg
    refine' K2.all_mk KX G hmg ?a_W ?l_W ?c_W ?k_W ?a_N ?l_N ?c_N ?k_N ?a_P ?l_P ?c_P ?k_P ?a_M ?l_M ?c_M ?k_M ?a_D ?l_D ?c_D ?k_D ?a_K ?l_K ?c_K ?k_K ?a_U ?l_U ?c_U ?k_U ?a_L ?l_L ?c_L ?k_L ?z_int ?z_len ?z_all ?z_range ?z_isinstance ?z_str ?z_bool ?y_LET ?y_DIG ?u_KW ?w_KW ?v_KW
    (case a_W => k_is)
    (case l_W => k_is)
    (case c_W => k_is)
    (case k_W => k_is)
    (case a_N => k_is)
    (case l_N => k_is)
    (case c_N => k_is)
    (case k_N => k_is)
    (case a_P => k_is)
    (case l_P => k_is)
    (case c_P => k_is)
    (case k_P => k_is)
    (case a_M => k_is)
    (case l_M => k_is)
    (case c_M => k_is)
    (case k_M => k_is)
    (case a_D => k_is)
    (case l_D => k_is)
    (case c_D => k_is)
    (case k_D => k_is)
    (case a_K => k_is)
    (case l_K => k_is)
    (case c_K => k_is)
    (case k_K => k_is)
    (case a_U => k_is)
    (case l_U => k_is)
    (case c_U => k_is)
    (case k_U => k_is)
    (case a_L => k_is)
    (case l_L => k_is)
    (case c_L => k_is)
    (case k_L => k_is)
    (case z_int => k_is)
    (case z_len => k_is)
    (case z_all => k_is)
    (case z_range => k_is)
    (case z_isinstance => k_is)
    (case z_str => k_is)
    (case z_bool => k_is)
    (case y_LET => k_is)
    (case y_DIG => k_is)
    (case u_KW => k_is)
    (case w_KW => k_is)
    (case v_KW => exact ⟨by decide, by first | exact .nil | (repeat (first | exact .nil | refine .cons ⟨_, rfl⟩ ?_))⟩)
#print axioms PySem.Challenge.cw_allornothing_k02_names_holds
