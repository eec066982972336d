import PyProof.Rows.All
import Wide.All
import OpenK.AllK
import Wide.FinOn
import HandS.ForMost
import HandS.Wide
import HandS.Steps
import HandS.IsInst
import HandS.More
import HandS.TupAny
import HandS.Deep
import HandS.Style
import HandS.DictComp
import HandS.Walk
import HandS.Property
import HandS.Records
import PySem.Challenge.RW_allornothing_k26_stores
set_option Elab.async false
set_option linter.all false
set_option maxRecDepth 100000
set_option maxHeartbeats 8000000
namespace K26
open PySem PySem.Spec PyProof.Rows L2 TL
/-! ### words for all -/
theorem pe_gs {X : Cx} {x : Str} {z : Str} {pos : Pos} (hg : Gl X x) (hm : ∃ t, X.mg x = some (.str z t)) (hd : (x == ("__debug__" : Str)) = false := by decide) : PE X (.Name x pos) (tC (.str z)) :=
  hm.elim fun t h => pe_glob (v := .str z) hg h ⟨t, rfl⟩ hd
theorem pe_gi {X : Cx} {x : Str} {z : Int} {pos : Pos} (hg : Gl X x) (hm : ∃ t, X.mg x = some (.int z t)) (hd : (x == ("__debug__" : Str)) = false := by decide) : PE X (.Name x pos) (tC (.int z)) :=
  hm.elim fun t h => pe_glob (v := .int z) hg h ⟨t, rfl⟩ hd
theorem pe_gr {X : Cx} {x : Str} {r : Addr} {pos : Pos} (hg : Gl X x) (hm : X.mg x = some (.ref r)) (hd : (x == ("__debug__" : Str)) = false := by decide) : PE X (.Name x pos) (tC (.ref r)) := pe_glob (v := .ref r) hg hm rfl hd
theorem same_upd {H : Hp} {p : Addr} {o : HO} (h : H p = none) : Same H (upd H p o) := fun b x e => by
  rw [upd_ne (ne_of_none e h)]
  exact e
/-- a new object of ours changes: what stood before stands -/
theorem same_mut {H H' : Hp} {p : Addr} {o : HO} (s : Same H H') (h : H p = none) : Same H (upd H' p o) := fun b x e => by
  rw [upd_ne (ne_of_none e h)]
  exact s _ _ e
def Big (z : Str) : Prop := z.length ≤ 1000000
theorem bigLine {n : Nat} (h : n ≤ 1000000) : n < sizeLine := Nat.lt_of_le_of_lt h (by decide)
theorem bigLe {n : Nat} (h : n ≤ 1000000) : n ≤ sizeLine := Nat.le_of_lt (bigLine h)
theorem st_ite {c : TT} {t1 t2 : TS} {σ : L2.St} {H : Hp} {D : Ends} {b : Bool} (h : Ans c σ H b) (h1 : b = true → t1 D σ H) (h2 : b = false → t2 D σ H) : tIfS c t1 t2 D σ H := by
  cases b with
  | true => exact st_yes h (h1 rfl)
  | false => exact st_no h (h2 rfl)
theorem while_ans {c : TT} {tb : TS} {D : Ends} {σ : L2.St} {H : Hp} (Pv : Nat → L2.St → Hp → Prop) (m : Nat) (h0 : Pv m σ H)
    (hs : ∀ m σ H, Pv m σ H → ∃ b, Ans c σ H b ∧ (b = true → tb { D with nx := fun σ' H' => ∃ m', m' < m ∧ Pv m' σ' H', ct := fun σ' H' => ∃ m', m' < m ∧ Pv m' σ' H', bk := D.nx } σ H) ∧ (b = false → D.nx σ H)) : tWhile c tb D σ H := by
  refine ⟨Pv, ⟨m, h0⟩, fun m σ H p => ?_⟩
  obtain ⟨b, ha, ht, hf⟩ := hs m σ H p
  refine ha _ ?_
  cases b with
  | true => exact ⟨_, fun σ' H' h => h, ht rfl⟩
  | false => exact hf rfl
/-- a comprehension or loop over the signs of a text -/
theorem lc_str {x : Str} {g : TG} {tt : TT} {te : TE} {vs : List Nat} {σ : L2.St} {H1 : Hp} {D : Addr} {Qd : Hp → Prop} (Pv : Nat → Hp → Prop) (h0 : Pv 0 (upd H1 D (.lst [])))
    (hs : ∀ i c H, x.cps[i]? = some c → Pv i H → g (.str ⟨#[c]⟩) (wipe σ vs) H fun σ2 H2 => wipe σ2 vs = wipe σ vs ∧ tt σ2 H2 fun b H3 =>
      if b = true then te σ2 H3 fun y H4 => ∃ acc, H4 D = some (.lst acc) ∧ acc.length < sizeLine ∧ Pv (i + 1) (upd H4 D (.lst (acc ++ [y]))) else Pv (i + 1) H3) (hd : ∀ H, Pv x.cps.size H → Qd H) :
    ∃ W : Nat → Nat → Hp → Prop, (∃ m, W 0 m (upd H1 D (.lst []))) ∧ ∀ i m H, W i m H →
      ((Its x).stop i H ∧ Qd H) ∨ ((Its x).go i H ∧ ∃ Nx : Hp → Prop, (∀ H', Nx H' → ∃ m', m' < m ∧ W (i + 1) m' H') ∧ ∀ x' H', (Its x).yld i H x' H' → g x' (wipe σ vs) H' fun σ2 H2 => wipe σ2 vs = wipe σ vs ∧ tt σ2 H2 fun b H3 =>
        if b = true then te σ2 H3 fun y H4 => ∃ acc, H4 D = some (.lst acc) ∧ acc.length < sizeLine ∧ Nx (upd H4 D (.lst (acc ++ [y]))) else Nx H3) := by
  refine ⟨fun i m H => m = x.cps.size - i ∧ i ≤ x.cps.size ∧ Pv i H, ⟨x.cps.size, by simp, Nat.zero_le _, h0⟩, ?_⟩
  rintro i m H ⟨rfl, hi, p⟩
  by_cases hlt : i < x.cps.size
  · refine .inr ⟨hlt, Pv (i + 1), fun H' p' => ⟨x.cps.size - (i + 1), by omega, rfl, hlt, p'⟩, fun x' H' y => ?_⟩
    obtain ⟨e, c, hc, y⟩ := y
    subst e y
    exact hs i c _ hc p
  · have e : i = x.cps.size := by omega
    subst e
    exact .inl ⟨Nat.le_refl _, hd H p⟩
/-- f of each sign, put into a new list -/
theorem lc_signs {z : Str} {g : TG} {te : TE} {vs : List Nat} {σ : L2.St} {H1 : Hp} {D : Addr} {Qd : Hp → Prop} (f : Nat → Bool) (hz : Big z) (hD : H1 D = none)
    (hs : ∀ c H (Q : VK), Q (.bl (f c)) H → g (.str ⟨#[c]⟩) (wipe σ vs) H fun σ2 H2 => wipe σ2 vs = wipe σ vs ∧ te σ2 H2 Q) (hd : ∀ H, Same H1 H → H D = some (.lst (((tl z).map f).map V.bl)) → Qd H) :
    ∃ W : Nat → Nat → Hp → Prop, (∃ m, W 0 m (upd H1 D (.lst []))) ∧ ∀ i m H, W i m H →
      ((Its z).stop i H ∧ Qd H) ∨ ((Its z).go i H ∧ ∃ Nx : Hp → Prop, (∀ H', Nx H' → ∃ m', m' < m ∧ W (i + 1) m' H') ∧ ∀ x' H', (Its z).yld i H x' H' → g x' (wipe σ vs) H' fun σ2 H2 => wipe σ2 vs = wipe σ vs ∧ tYes σ2 H2 fun b H3 =>
        if b = true then te σ2 H3 fun y H4 => ∃ acc, H4 D = some (.lst acc) ∧ acc.length < sizeLine ∧ Nx (upd H4 D (.lst (acc ++ [y]))) else Nx H3) := by
  refine lc_str (fun i H' => Same H1 H' ∧ H' D = some (.lst ((((tl z).take i).map f).map V.bl))) ⟨same_upd hD, upd_same⟩ ?_ ?_
  · rintro i c H' hi ⟨s2, hD2⟩
    have hi2 : (tl z)[i]? = some c := by rw [Array.getElem?_toList]; exact hi
    have hil : i < z.length := (Array.getElem?_eq_some_iff.mp hi).1
    have hsz : ((((tl z).take i).map f).map V.bl).length < sizeLine := by
      rw [List.length_map, List.length_map, List.length_take]
      exact Nat.lt_of_le_of_lt (Nat.min_le_left _ _) (bigLine (by unfold Big at hz; omega))
    have := hs c H' (fun y H4 => ∃ acc, H4 D = some (.lst acc) ∧ acc.length < sizeLine ∧ (Same H1 (upd H4 D (.lst (acc ++ [y]))) ∧ (upd H4 D (.lst (acc ++ [y]))) D = some (.lst ((((tl z).take (i + 1)).map f).map V.bl)))) ?_
    · exact this
    · refine ⟨_, hD2, hsz, same_mut s2 hD, ?_⟩
      rw [upd_same, List.take_add_one, hi2, List.map_append, List.map_append]
      rfl
  · rintro H' ⟨s2, hD2⟩
    have et : (tl z).take z.cps.size = tl z := List.take_of_length_le (by rw [Array.length_toList]; exact Nat.le_refl _)
    rw [et] at hD2
    exact hd _ s2 hD2
/-! ### own rules -/
theorem hu65 {A : Around} {k : Nat} (hr : Room k A) : A.units + 65 < cLine := by have := hr.un; omega
section
variable {X : Cx} {pos : Pos}
/-- o.f as a target -/
def gFld (K : PySem.W.Frag) (to : TE) (f : Str) : TG := fun v σ H Q => to σ H fun x H1 => ∃ a C dx fs, x = .ref a ∧ H1 a = some (.ins C dx fs) ∧ Cls K C ∧ NoAttr K C f ∧ fs.length < 1000 ∧ Q σ (upd H1 a (.ins C dx (putF f v fs)))
theorem pg_fld {o : Expr} {f : Str} {to : TE} (ho : PE X o to) : PG X (.Attribute o f pos) (gFld X.K to f) := by
  refine ⟨fun pins s σ H v u Q I r h => ?_⟩
  rw [assign_Attribute]
  refine wpAny_bind (wpAny_holding (thn (ho.run pins s σ H _ I h) fun ov s1 ⟨x, H1, I1, rx, a, C, dx, fs, ex, ea, c, n, l, q⟩ => ?_))
  subst ex
  obtain rfl : ov = Value.ref a := rx
  refine wpAny_bind (wpAny_standAt (wpAny_bind (wpAny_holding (setattr_ok I1 ea c n l r fun s3 I3 => ?_))))
  exact wpAny_release ⟨σ, _, I3, q⟩
/-- x in a tuple of data -/
def rInT (K : PySem.W.Frag) : R2 := fun x y H Q => ∃ d ds, Dp K H x d ∧ Dp K H y (.tuple ds) ∧ SeqAt.shaped d = true ∧ SeqAt.shaped (.tuple ds) = true ∧ Q (.bl (ds.any fun z => PyData.eqv z d)) H
theorem op_inT (hu : X.A.units + 65 < cLine) : OpR X (compareOp .In) (rInT X.K) := by
  intro pins s σ H x y v u Q I rx ry h
  obtain ⟨d, ds, hd, he, sd, se, q⟩ := h
  obtain ⟨as, r1⟩ := Dp.reads I d x v hd rx
  obtain ⟨bs, r2⟩ := Dp.reads I (.tuple ds) y u he ry
  exact SeqAt.in_tuple_reads r2 r1 (SeqAt.canLay_of_shaped se) (SeqAt.canLay_of_shaped sd) (room_in_shaped sd hu) ⟨.bl _, H, I, rfl, q⟩
end
/-! ### the text -/
abbrev LET : Str := "abcdefghijklmnopqrstuvwxyz"
abbrev DIG : Str := "0123456789"
def kws : List V := [.str "globals", .str "kinds", .str "keep", .str "def", .str "if", .str "else", .str "while", .str "risk", .str "raise", .str "try", .str "except", .str "finally", .str "undo", .str "with", .str "swallow", .str "return"]
def top (i : Nat) : Stmt := PySem.Challenge.pw_allornothing_k26_stores.main.body.getD i (.Pass ⟨0, 0, 0, 0⟩)
abbrev s_is_integer : Stmt := top 6
abbrev s_is_word : Stmt := top 11
abbrev s_is_name : Stmt := top 13
abbrev s_are_values : Stmt := top 17
abbrev s_is_event : Stmt := top 18
abbrev s_behind : Stmt := top 19
abbrev s_undone_by_log : Stmt := top 20
abbrev s_Store___init__ : Stmt := inClass (top 22) 0
abbrev s_Store_perform : Stmt := inClass (top 22) 1
abbrev s_Store_current : Stmt := inClass (top 22) 2
abbrev s_Store_log : Stmt := inClass (top 22) 3
abbrev s_Store_pending : Stmt := inClass (top 22) 4
abbrev s_Store_recovered : Stmt := inClass (top 22) 6
abbrev s_store_at : Stmt := top 23
abbrev s__law_pool : Stmt := top 25
abbrev s__law_mixed : Stmt := top 26
abbrev s__law_draw : Stmt := top 27
abbrev s__law_names : Stmt := top 28
abbrev s__law_event : Stmt := top 30
abbrev s__law_recovered : Stmt := top 31
abbrev s__law_fits : Stmt := top 32
abbrev s_law : Stmt := top 33
/-- where the text's defs and classes stand -/
structure Ads where
  f_is_integer : Addr
  f_is_integer_d : FuncData
  f_is_word : Addr
  f_is_word_d : FuncData
  f_is_name : Addr
  f_is_name_d : FuncData
  f_are_values : Addr
  f_are_values_d : FuncData
  f_is_event : Addr
  f_is_event_d : FuncData
  f_behind : Addr
  f_behind_d : FuncData
  f_undone_by_log : Addr
  f_undone_by_log_d : FuncData
  f_Store___init__ : Addr
  f_Store___init___d : FuncData
  f_Store_perform : Addr
  f_Store_perform_d : FuncData
  f_Store_current : Addr
  f_Store_current_d : FuncData
  f_Store_log : Addr
  f_Store_log_d : FuncData
  f_Store_pending : Addr
  f_Store_pending_d : FuncData
  pr_Store_pending : Addr
  f_Store_recovered : Addr
  f_Store_recovered_d : FuncData
  f_store_at : Addr
  f_store_at_d : FuncData
  f__law_pool : Addr
  f__law_pool_d : FuncData
  f__law_mixed : Addr
  f__law_mixed_d : FuncData
  f__law_draw : Addr
  f__law_draw_d : FuncData
  f__law_names : Addr
  f__law_names_d : FuncData
  f__law_event : Addr
  f__law_event_d : FuncData
  f__law_recovered : Addr
  f__law_recovered_d : FuncData
  f__law_fits : Addr
  f__law_fits_d : FuncData
  f_law : Addr
  f_law_d : FuncData
  c_Store : Addr
  t_KEYWORDS : Addr
  t_FLUSH : Addr
  t_CLEAR : Addr
/-- what the top has left -/
structure Txt (K : PySem.W.Frag) (mg : Str → Option Value) (a : Ads) : Prop where
  F_is_integer : Fun K "is_integer" "is_integer" s_is_integer a.f_is_integer a.f_is_integer_d
  b_is_integer : Binds K a.f_is_integer_d ["value"] []
  g_is_integer : mg "is_integer" = some (.ref a.f_is_integer)
  F_is_word : Fun K "is_word" "is_word" s_is_word a.f_is_word a.f_is_word_d
  b_is_word : Binds K a.f_is_word_d ["text"] []
  g_is_word : mg "is_word" = some (.ref a.f_is_word)
  F_is_name : Fun K "is_name" "is_name" s_is_name a.f_is_name a.f_is_name_d
  b_is_name : Binds K a.f_is_name_d ["value"] []
  g_is_name : mg "is_name" = some (.ref a.f_is_name)
  F_are_values : Fun K "are_values" "are_values" s_are_values a.f_are_values a.f_are_values_d
  b_are_values : Binds K a.f_are_values_d ["value"] []
  g_are_values : mg "are_values" = some (.ref a.f_are_values)
  F_is_event : Fun K "is_event" "is_event" s_is_event a.f_is_event a.f_is_event_d
  b_is_event : Binds K a.f_is_event_d ["value", "values"] []
  g_is_event : mg "is_event" = some (.ref a.f_is_event)
  F_behind : Fun K "behind" "behind" s_behind a.f_behind a.f_behind_d
  b_behind : Binds K a.f_behind_d ["values", "records", "events"] []
  g_behind : mg "behind" = some (.ref a.f_behind)
  F_undone_by_log : Fun K "undone_by_log" "undone_by_log" s_undone_by_log a.f_undone_by_log a.f_undone_by_log_d
  b_undone_by_log : Binds K a.f_undone_by_log_d ["values", "records"] []
  g_undone_by_log : mg "undone_by_log" = some (.ref a.f_undone_by_log)
  F_Store___init__ : Fun K "__init__" "Store.__init__" s_Store___init__ a.f_Store___init__ a.f_Store___init___d
  b_Store___init__ : Binds K a.f_Store___init___d ["self", "values"] []
  mk_Store : Mk K a.c_Store a.f_Store___init__
  F_Store_perform : Fun K "perform" "Store.perform" s_Store_perform a.f_Store_perform a.f_Store_perform_d
  b_Store_perform : Binds K a.f_Store_perform_d ["self", "event"] []
  m_Store_perform : Meth K a.c_Store "perform" a.f_Store_perform
  F_Store_current : Fun K "current" "Store.current" s_Store_current a.f_Store_current a.f_Store_current_d
  b_Store_current : Binds K a.f_Store_current_d ["self"] []
  m_Store_current : Meth K a.c_Store "current" a.f_Store_current
  F_Store_log : Fun K "log" "Store.log" s_Store_log a.f_Store_log a.f_Store_log_d
  b_Store_log : Binds K a.f_Store_log_d ["self"] []
  m_Store_log : Meth K a.c_Store "log" a.f_Store_log
  F_Store_pending : Fun K "pending" "Store.pending" s_Store_pending a.f_Store_pending a.f_Store_pending_d
  b_Store_pending : Binds K a.f_Store_pending_d ["self"] []
  pp_Store_pending : PropOf K a.c_Store "pending" a.pr_Store_pending a.f_Store_pending
  F_Store_recovered : Fun K "recovered" "Store.recovered" s_Store_recovered a.f_Store_recovered a.f_Store_recovered_d
  b_Store_recovered : Binds K a.f_Store_recovered_d ["self"] []
  m_Store_recovered : Meth K a.c_Store "recovered" a.f_Store_recovered
  F_store_at : Fun K "store_at" "store_at" s_store_at a.f_store_at a.f_store_at_d
  b_store_at : Binds K a.f_store_at_d ["values", "records"] []
  g_store_at : mg "store_at" = some (.ref a.f_store_at)
  F__law_pool : Fun K "_law_pool" "_law_pool" s__law_pool a.f__law_pool a.f__law_pool_d
  b__law_pool : Binds K a.f__law_pool_d ["_law_script"] []
  g__law_pool : mg "_law_pool" = some (.ref a.f__law_pool)
  F__law_mixed : Fun K "_law_mixed" "_law_mixed" s__law_mixed a.f__law_mixed a.f__law_mixed_d
  b__law_mixed : Binds K a.f__law_mixed_d ["_law_number", "_law_count", "_law_many"] []
  g__law_mixed : mg "_law_mixed" = some (.ref a.f__law_mixed)
  F__law_draw : Fun K "_law_draw" "_law_draw" s__law_draw a.f__law_draw a.f__law_draw_d
  b__law_draw : Binds K a.f__law_draw_d ["_law_pool_here", "_law_many"] []
  g__law_draw : mg "_law_draw" = some (.ref a.f__law_draw)
  F__law_names : Fun K "_law_names" "_law_names" s__law_names a.f__law_names a.f__law_names_d
  b__law_names : Binds K a.f__law_names_d ["_law_pool_here"] []
  g__law_names : mg "_law_names" = some (.ref a.f__law_names)
  F__law_event : Fun K "_law_event" "_law_event" s__law_event a.f__law_event a.f__law_event_d
  b__law_event : Binds K a.f__law_event_d ["_law_pool_here", "_law_names_here"] []
  g__law_event : mg "_law_event" = some (.ref a.f__law_event)
  F__law_recovered : Fun K "_law_recovered" "_law_recovered" s__law_recovered a.f__law_recovered a.f__law_recovered_d
  b__law_recovered : Binds K a.f__law_recovered_d ["_law_values", "_law_log"] []
  g__law_recovered : mg "_law_recovered" = some (.ref a.f__law_recovered)
  F__law_fits : Fun K "_law_fits" "_law_fits" s__law_fits a.f__law_fits a.f__law_fits_d
  b__law_fits : Binds K a.f__law_fits_d ["_law_store", "_law_values", "_law_log", "_law_pending"] []
  g__law_fits : mg "_law_fits" = some (.ref a.f__law_fits)
  F_law : Fun K "law" "law" s_law a.f_law a.f_law_d
  g_law : mg "law" = some (.ref a.f_law)
  cl_Store : Cls K a.c_Store
  mg_Store : mg "Store" = some (.ref a.c_Store)
  n_Store__values : NoAttr K a.c_Store "_values"
  n_Store__records : NoAttr K a.c_Store "_records"
  n_Store__ahead : NoAttr K a.c_Store "_ahead"
  int : mg "int" = none
  len : mg "len" = none
  all : mg "all" = none
  isinstance : mg "isinstance" = none
  str : mg "str" = none
  tuple : mg "tuple" = none
  range : mg "range" = none
  bool : mg "bool" = none
  list : mg "list" = none
  dict : mg "dict" = none
  g_LETTERS : ∃ t, mg "LETTERS" = some (.str LET t)
  g_DIGITS : ∃ t, mg "DIGITS" = some (.str DIG t)
  g_KEYWORDS : mg "KEYWORDS" = some (.ref a.t_KEYWORDS)
  q_KEYWORDS : ∀ H, SqT K H a.t_KEYWORDS kws
  g_FLUSH : mg "FLUSH" = some (.ref a.t_FLUSH)
  q_FLUSH : ∀ H, SqT K H a.t_FLUSH [.str "flush"]
  g_CLEAR : mg "CLEAR" = some (.ref a.t_CLEAR)
  q_CLEAR : ∀ H, SqT K H a.t_CLEAR [.str "clear"]

/-! ### names -/
def letter (c : Nat) : Bool := decide (c ∈ LET.cps.toList)
def digit (c : Nat) : Bool := decide (c ∈ DIG.cps.toList)
def blank (c : Nat) : Bool := decide (c ∈ (Str.ofString " \n").cps.toList)
def alnum (c : Nat) : Bool := letter c || digit c
def isW (z : Str) : Bool := match tl z with
  | [] => false
  | c :: r => letter c && (c :: r).all alnum
theorem isW_cons {z : Str} {c : Nat} {r : List Nat} (e : tl z = c :: r) (hc : letter c = true) : isW z = ((tl z).map alnum).all id := by
  unfold isW
  rw [e]
  show (letter c && (c :: r).all alnum) = ((c :: r).map alnum).all id
  rw [hc, Bool.true_and, List.all_map]
  rfl
theorem isW_not {z : Str} {c : Nat} {r : List Nat} (e : tl z = c :: r) (hc : letter c = false) : isW z = false := by
  unfold isW
  rw [e]
  show (letter c && (c :: r).all alnum) = false
  rw [hc, Bool.false_and]
theorem isW_nil {z : Str} (e : tl z = []) : isW z = false := by
  unfold isW
  rw [e]
theorem tl_empty : tl (Str.ofString "") = [] := by decide +kernel
theorem at0 {z : Str} {c : Nat} {r : List Nat} (e : tl z = c :: r) : atI z.cps.toList 0 = some c := by
  show atI (tl z) 0 = some c
  rw [e]
  exact atI_nat (j := 0) rfl
def spWord : Sp := fun vs H Q _ => ∃ z, vs = [.str z] ∧ Big z ∧ ∀ H', Same H H' → Q (.bl (isW z)) H'
def isN (z : Str) : Bool := isW z && !inV (.str z) kws
theorem kws_flat : kws.all flatV = true := by decide +kernel
def spIsInt : Sp := fun vs H Q _ => ∃ i : Int, vs = [.int i] ∧ Q (.bl true) H
def spName : Sp := fun vs H Q _ => ∃ z, vs = [.str z] ∧ Big z ∧ ∀ H', Same H H' → Q (.bl (isN z)) H'
section
variable {P : Program} {w : World} {K : PySem.W.Frag} {mg : Str → Option Value} {base : Heap} {a : Ads}
theorem sc_is_integer : FnScope ["value"] ["value"] (defScope s_is_integer) := ⟨rfl, rfl, rfl, by decide +kernel, rfl, by decide +kernel, by decide +kernel⟩
theorem ok_is_integer (T : Txt K mg a) : FnOk P w K mg base CX0 1 a.f_is_integer a.f_is_integer_d ["value"] spIsInt := by
  refine T.F_is_integer.ok sc_is_integer (fun vs H Q E h => ?_) (fun cdv A outer s H vs Q E hr h => ?_)
  · obtain ⟨i, rfl, _⟩ := h
    rfl
  obtain ⟨i, rfl, q⟩ := h
  refine ⟨_, (pss_one (ps_ret (pe_and (pe_callB call_isi (by rfl) T.isinstance (by decide +kernel) (pa_cons (pv 0) (pa_cons (pe_bltn (v := .ty "int") (by rfl) T.int (by decide +kernel) rfl) pa_nil))) (pe_one (pe_not (pe_callB call_isi (by rfl) T.isinstance (by decide +kernel) (pa_cons (pv 0) (pa_cons (pe_bltn (v := .ty "bool") (by rfl) T.bool (by decide +kernel) rfl) pa_nil)))))))), ?_⟩
  refine ⟨_, rfl, .int i, .ty "int", .type "int", .type "int", true, rfl, .ty "int", .base (.int i), kit_ty (by decide +kernel), _, rfl, ite2 (fun _ => ?_) (fun e => absurd rfl e)⟩
  exact ⟨_, rfl, .int i, .ty "bool", .type "int", .type "bool", false, rfl, .ty "bool", .base (.int i), kit_ty (by decide +kernel), _, rfl, q⟩
theorem sc_is_word : FnScope ["text", "sign"] ["text"] (defScope s_is_word) := ⟨rfl, rfl, rfl, by decide +kernel, rfl, by decide +kernel, by decide +kernel⟩
theorem ok_is_word (T : Txt K mg a) : FnOk P w K mg base CX0 1 a.f_is_word a.f_is_word_d ["text"] spWord := by
  refine T.F_is_word.ok sc_is_word (fun vs H Q E h => ?_) (fun cdv A outer s H vs Q E hr h => ?_)
  · obtain ⟨z, rfl, _⟩ := h
    rfl
  obtain ⟨z, rfl, hz, q⟩ := h
  refine ⟨_, (pss_cons (ps_if (PW.pt (pw_or (pt_cmpR op_eq (pv 0) pe_str (nomark _)) (pw_or1 (pt_cmpR op_notIn_sign (pe_ix ix_str (pv 0) pe_int (fun _ _ => rfl)) (pe_gs rfl T.g_LETTERS) (by rfl)))))
      (pss_one (ps_ret pe_bl))
      pss_nil)
    (pss_one (ps_ret (pe_callB (cr_all rfl) (by rfl) T.all (by decide +kernel) (pa_cons (pe_lc (own := [("sign", 1)]) (g := gName 1) (tt := tYes) (by rfl) sc_is_word.nd (pi_str (pv 0)) (blkOk_by (own := [("sign", 1)]) (N := ["text", "sign"]) (sc := defScope s_is_word) (by decide +kernel)) (fun _ _ _ _ _ => pg_name (i := 1) sc_is_word.nd rfl (Or.inl rfl)) (fun _ _ _ _ _ => pts_nil) (fun _ _ _ _ _ => (pe_or (pe_cmpR op_in_sign (pv 1) (pe_gs rfl T.g_LETTERS) (by rfl)) (pe_one (pe_cmpR op_in_sign (pv 1) (pe_gs rfl T.g_DIGITS) (by rfl)))))) pa_nil))))), ?_⟩
  cases hc : tl z with
  | nil =>
    have ez : z = Str.ofString "" := ext_tl (hc.trans tl_empty.symm)
    refine st_seq (st_yes (ans_or1 (ans_eq (fun Q q => ⟨_, rfl, q⟩) (fun Q q => q) rfl (decide_eq_true (congrArg V.str ez)))) ?_)
    have := q H (Same.refl H)
    rw [isW_nil hc] at this
    exact this
  | cons c r =>
    have ez : ¬ z = Str.ofString "" := fun e => by
      rw [e, tl_empty] at hc
      cases hc
    refine st_seq (st_ite (ans_or (ans_eq (fun Q q => ⟨_, rfl, q⟩) (fun Q q => q) rfl (decide_eq_false fun e => ez (V.str.inj e))) (b := !letter c) (fun Q q => ⟨_, rfl, z, 0, c, rfl, rfl, bigLe hz, at0 hc, c, LET, rfl, rfl, _, rfl, q⟩)) (fun e => ?_) (fun e => ?_))
    · have := q H (Same.refl H)
      rw [isW_not hc (by simpa using e)] at this
      exact this
    · have hl : letter c = true := by simpa using e
      refine ⟨_, rfl, z, rfl, fun D hD => lc_signs alnum hz hD (fun c' H' Q' q' => ⟨rfl, _, rfl, c', LET, rfl, rfl, _, rfl, ite2 (fun e => ?_) (fun e => ?_)⟩) (fun H' s2 hD2 => ⟨D, _, rfl, SqL.of hD2, ?_⟩)⟩
      · have : alnum c' = true := by unfold alnum letter; rw [e]; rfl
        rw [this] at q'
        exact q'
      · refine ⟨_, rfl, c', DIG, rfl, rfl, ?_⟩
        have : alnum c' = digit c' := by unfold alnum letter; rw [Bool.eq_false_iff.mpr e, Bool.false_or]
        rw [this] at q'
        exact q'
      · rw [← isW_cons hc hl]
        exact q _ s2
theorem sc_is_name : FnScope ["value"] ["value"] (defScope s_is_name) := ⟨rfl, rfl, rfl, by decide +kernel, rfl, by decide +kernel, by decide +kernel⟩
theorem ok_is_name (T : Txt K mg a) : FnOk P w K mg base CX0 2 a.f_is_name a.f_is_name_d ["value"] spName := by
  refine T.F_is_name.ok sc_is_name (fun vs H Q E h => ?_) (fun cdv A outer s H vs Q E hr h => ?_)
  · obtain ⟨z, rfl, _⟩ := h
    rfl
  obtain ⟨z, rfl, hz, q⟩ := h
  refine ⟨_, (pss_one (ps_ret (pe_and (pe_callB call_isi (by rfl) T.isinstance (by decide +kernel) (pa_cons (pv 0) (pa_cons (pe_bltn (v := .ty "str") (by rfl) T.str (by decide +kernel) rfl) pa_nil))) (pe_and (pe_call (ok_is_word T) (hr.mono (by decide)) (by rfl) T.g_is_word T.F_is_word.kp T.b_is_word .nil pass0 (pa_cons (pv 0) pa_nil)) (pe_one (pe_cmpR op_notIn_seq (pv 0) (pe_gr rfl T.g_KEYWORDS) (by rfl))))))), ?_⟩
  refine ⟨_, rfl, _, _, _, _, true, rfl, .ty "str", .base (.str z), kit_ty (by decide +kernel), true, rfl, iteT ⟨_, rfl, z, rfl, hz, fun H1 s1 => ⟨isW z, rfl, ite2 (fun e => ?_) (fun e => ?_)⟩⟩⟩
  · refine ⟨_, rfl, a.t_KEYWORDS, kws, rfl, .inr (T.q_KEYWORDS H1), rfl, kws_flat, ?_⟩
    have := q H1 s1
    unfold isN at this
    rw [e, Bool.true_and] at this
    exact this
  · have := q H1 s1
    unfold isN at this
    rw [Bool.eq_false_iff.mpr e, Bool.false_and] at this
    exact this
end
end K26
namespace K26
open PySem PySem.Spec PyProof.Rows L2 TL
/-! ### tables of texts and ints, records, events -/
abbrev Tb := List (Str × Int)
def dv (t : Tb) : List (Key × V) := t.map fun p => (Sum.inr p.1, V.int p.2)
def putT (t : Tb) (x : Str) (v : Int) : Tb := if (t.any fun p => decide (p.1 = x)) = true then t.map (fun p => if p.1 = x then (p.1, v) else p) else t ++ [(x, v)]
def keysT (t : Tb) : List Str := t.map (·.1)
theorem dv_len (t : Tb) : (dv t).length = t.length := List.length_map _
theorem dv_any (t : Tb) (x : Str) : ((dv t).any fun kv => decide (kv.1 = Sum.inr x)) = t.any fun p => decide (p.1 = x) := by
  unfold dv
  rw [List.any_map]
  congr 1
  funext p
  by_cases h : p.1 = x
  · simp [h]
  · have h2 : ¬ ((Sum.inr p.1 : Key) = Sum.inr x) := fun z => h (Sum.inr.inj z)
    simp [h]
theorem dv_put (t : Tb) (x : Str) (v : Int) : putK (dv t) (Sum.inr x) (.int v) = dv (putT t x v) := by
  unfold putK putT
  rw [dv_any]
  by_cases h : (t.any fun p => decide (p.1 = x)) = true
  · rw [if_pos h, if_pos h]
    unfold dv
    rw [List.map_map, List.map_map]
    apply List.map_congr_left
    intro p _
    by_cases e : p.1 = x
    · simp [e]
    · have h2 : ¬ ((Sum.inr p.1 : Key) = Sum.inr x) := fun z => e (Sum.inr.inj z)
      simp [e]
  · rw [if_neg h, if_neg h]
    unfold dv
    rw [List.map_append]
    rfl
theorem keysT_put {t : Tb} {x : Str} (v : Int) (h : x ∈ keysT t) : keysT (putT t x v) = keysT t := by
  have h2 : (t.any fun p => decide (p.1 = x)) = true := by
    obtain ⟨p, hp, e⟩ := List.mem_map.mp h
    exact List.any_eq_true.mpr ⟨p, hp, decide_eq_true e⟩
  unfold putT keysT
  rw [if_pos h2, List.map_map]
  apply List.map_congr_left
  intro p _
  show (if p.1 = x then (p.1, v) else p).1 = p.1
  split <;> rfl
theorem keysT_new {t : Tb} {x : Str} (v : Int) (h : x ∉ keysT t) : putT t x v = t ++ [(x, v)] := by
  have h2 : ¬ (t.any fun p => decide (p.1 = x)) = true := fun z => by
    obtain ⟨p, hp, e⟩ := List.any_eq_true.mp z
    exact h (List.mem_map.mpr ⟨p, hp, of_decide_eq_true e⟩)
  unfold putT
  rw [if_neg h2]
theorem putT_nodup {t : Tb} {x : Str} (v : Int) (h : (keysT t).Nodup) : (keysT (putT t x v)).Nodup := by
  by_cases m : x ∈ keysT t
  · rw [keysT_put v m]
    exact h
  · rw [keysT_new v m]
    unfold keysT at h m ⊢
    rw [List.map_append, List.nodup_append]
    refine ⟨h, by simp, fun a ha b hb e => ?_⟩
    obtain rfl : b = x := by simpa using hb
    exact m (e ▸ ha)
theorem putT_mem {t : Tb} {x y : Str} {v : Int} (h : y ∈ keysT (putT t x v)) : y ∈ keysT t ∨ y = x := by
  by_cases m : x ∈ keysT t
  · rw [keysT_put v m] at h
    exact .inl h
  · rw [keysT_new v m] at h
    unfold keysT at h ⊢
    rw [List.map_append] at h
    rcases List.mem_append.mp h with h | h
    · exact .inl h
    · exact .inr (by simpa using h)
theorem putT_has {t : Tb} {x : Str} {v : Int} : x ∈ keysT (putT t x v) := by
  by_cases m : x ∈ keysT t
  · rw [keysT_put v m]
    exact m
  · rw [keysT_new v m]
    unfold keysT
    simp
theorem putT_keep {t : Tb} {x y : Str} {v : Int} (h : y ∈ keysT t) : y ∈ keysT (putT t x v) := by
  by_cases m : x ∈ keysT t
  · rw [keysT_put v m]
    exact h
  · rw [keysT_new v m]
    unfold keysT at h ⊢
    rw [List.map_append]
    exact List.mem_append_left _ h
theorem putT_len (t : Tb) (x : Str) (v : Int) : (putT t x v).length ≤ t.length + 1 := by
  unfold putT
  split
  · rw [List.length_map]; omega
  · rw [List.length_append]; exact Nat.le_refl _
theorem dv_val : ∀ {t : Tb}, (keysT t).Nodup → ∀ p ∈ dv t, valV (dv t) p.1 = some p.2 ∧ flatB p.2 = true
  | [], _, _, h => absurd h (by intro z; cases z)
  | (x, v) :: t, hn, p, h => by
    have hn2 : (x :: keysT t).Nodup := hn
    rw [List.nodup_cons] at hn2
    rcases List.mem_cons.mp (show p ∈ (Sum.inr x, V.int v) :: dv t from h) with e | h
    · subst e
      exact ⟨valV_pos (p := ((Sum.inr x : Key), V.int v)) (r := dv t) rfl, rfl⟩
    · obtain ⟨p', hp', e⟩ := List.mem_map.mp h
      have hne : ¬ ((Sum.inr x : Key) = p.1) := fun z => by
        rw [← e] at z
        exact hn2.1 (Sum.inr.inj z ▸ List.mem_map_of_mem hp')
      obtain ⟨h1, h2⟩ := dv_val hn2.2 p h
      exact ⟨(valV_neg (p := ((Sum.inr x : Key), V.int v)) (r := dv t) hne).trans h1, h2⟩
theorem dv_has {t : Tb} {x : Str} (h : x ∈ keysT t) : (valV (dv t) (Sum.inr x)).isSome = true := by
  rw [← valV_any, dv_any]
  obtain ⟨p, hp, e⟩ := List.mem_map.mp h
  exact List.any_eq_true.mpr ⟨p, hp, decide_eq_true e⟩
theorem dv_get {t : Tb} {i : Nat} {k : Key} {v : V} (h : (dv t)[i]? = some (k, v)) : ∃ x n, t[i]? = some (x, n) ∧ k = Sum.inr x ∧ v = .int n := by
  unfold dv at h
  rw [List.getElem?_map] at h
  obtain ⟨⟨x, n⟩, h1, h2⟩ := Option.map_eq_some_iff.mp h
  cases h2
  exact ⟨x, n, h1, rfl, rfl⟩
abbrev Rc := Str × Int
def rcV (r : Rc) : List V := [.str r.1, .int r.2]
inductive Ev where
  | log (x : Str) (v : Int)
  | write (x : Str) (v : Int)
  | clear
  | flush
def evV : Ev → List V
  | .log x v => [.str "log", .str x, .int v]
  | .write x v => [.str "write", .str x, .int v]
  | .clear => [.str "clear"]
  | .flush => [.str "flush"]
def evOk (ks : List Str) : Ev → Prop
  | .log x _ => x ∈ ks
  | .write x _ => x ∈ ks
  | _ => True
def stepE (s : Tb × List Rc) : Ev → Tb × List Rc
  | .log x v => (s.1, s.2 ++ [(x, v)])
  | .write x v => (putT s.1 x v, s.2)
  | .clear => (s.1, [])
  | .flush => s
def runE (s : Tb × List Rc) (es : List Ev) : Tb × List Rc := es.foldl stepE s
theorem runE_snoc (s : Tb × List Rc) (es : List Ev) (e : Ev) : runE s (es ++ [e]) = stepE (runE s es) e := by
  unfold runE
  rw [List.foldl_append]
  rfl
theorem runE_succ {s : Tb × List Rc} {es : List Ev} {i : Nat} {e : Ev} (h : es[i]? = some e) : runE s (es.take (i + 1)) = stepE (runE s (es.take i)) e := by
  rw [List.take_add_one, h]
  exact runE_snoc _ _ _
def undo (t : Tb) (l : List Rc) : Tb := l.reverse.foldl (fun t r => putT t r.1 r.2) t
/-- the keys are ks, and all records are of them -/
def KeyOk (ks : List Str) (s : Tb × List Rc) : Prop := keysT s.1 = ks ∧ ∀ r ∈ s.2, r.1 ∈ ks
theorem KeyOk.step {ks : List Str} {s : Tb × List Rc} (h : KeyOk ks s) {e : Ev} (he : evOk ks e) : KeyOk ks (stepE s e) := by
  cases e with
  | log x v =>
    refine ⟨h.1, fun r hr => (List.mem_append.mp hr).elim (h.2 r) fun z => ?_⟩
    obtain rfl : r = (x, v) := by simpa using z
    exact he
  | write x v => exact ⟨(keysT_put v (h.1 ▸ he)).trans h.1, h.2⟩
  | clear => exact ⟨h.1, fun r hr => by cases hr⟩
  | flush => exact h
theorem KeyOk.run {ks : List Str} : ∀ {es : List Ev} {s : Tb × List Rc}, KeyOk ks s → (∀ e ∈ es, evOk ks e) → KeyOk ks (runE s es)
  | [], _, h, _ => h
  | e :: es, _, h, he => KeyOk.run (es := es) (h.step (he e (List.mem_cons_self ..))) fun x hx => he x (List.mem_cons_of_mem _ hx)
theorem KeyOk.undo {ks : List Str} : ∀ {l : List Rc} {t : Tb}, keysT t = ks → (∀ r ∈ l, r.1 ∈ ks) → keysT (l.foldl (fun t r => putT t r.1 r.2) t) = ks
  | [], _, h, _ => h
  | r :: l, t, h, hl => KeyOk.undo (l := l) ((keysT_put r.2 (h ▸ hl r (List.mem_cons_self ..))).trans h) fun x hx => hl x (List.mem_cons_of_mem _ hx)
theorem stepE_log (s : Tb × List Rc) (e : Ev) : (stepE s e).2.length ≤ s.2.length + 1 := by
  cases e <;> simp [stepE]
theorem runE_log : ∀ (es : List Ev) (s : Tb × List Rc), (runE s es).2.length ≤ s.2.length + es.length
  | [], _ => Nat.le_refl _
  | e :: es, s => by
    have h1 := stepE_log s e
    have h2 := runE_log es (stepE s e)
    show (runE (stepE s e) es).2.length ≤ _
    rw [List.length_cons]
    omega
theorem stepE_tab (s : Tb × List Rc) (e : Ev) : (stepE s e).1.length ≤ s.1.length + 1 := by
  cases e with
  | write x v => exact putT_len _ _ _
  | _ => exact Nat.le_succ _
theorem runE_tab : ∀ (es : List Ev) (s : Tb × List Rc), (runE s es).1.length ≤ s.1.length + es.length
  | [], _ => Nat.le_refl _
  | e :: es, s => by
    have h1 := stepE_tab s e
    have h2 := runE_tab es (stepE s e)
    show (runE (stepE s e) es).1.length ≤ _
    rw [List.length_cons]
    omega
/-! ### tuples in rows of addresses -/
section
variable {α : Type}
def TupsAt (f : α → List V) (H : Hp) : List Addr → List α → Prop
  | [], [] => True
  | a :: as, r :: rs => H a = some (.tup (f r)) ∧ TupsAt f H as rs
  | _, _ => False
variable {f : α → List V} {H H' : Hp}
theorem TupsAt.same (s : Same H H') : ∀ {as : List Addr} {rs : List α}, TupsAt f H as rs → TupsAt f H' as rs
  | [], [], _ => trivial
  | _ :: _, _ :: _, h => ⟨s _ _ h.1, TupsAt.same s h.2⟩
  | [], _ :: _, h => h.elim
  | _ :: _, [], h => h.elim
theorem TupsAt.imp (k : ∀ b xs, H b = some (.tup xs) → H' b = some (.tup xs)) : ∀ {as : List Addr} {rs : List α}, TupsAt f H as rs → TupsAt f H' as rs
  | [], [], _ => trivial
  | _ :: _, _ :: _, h => ⟨k _ _ h.1, TupsAt.imp k h.2⟩
  | [], _ :: _, h => h.elim
  | _ :: _, [], h => h.elim
theorem TupsAt.app {a : Addr} {r : α} (ha : H a = some (.tup (f r))) : ∀ {as : List Addr} {rs : List α}, TupsAt f H as rs → TupsAt f H (as ++ [a]) (rs ++ [r])
  | [], [], _ => ⟨ha, trivial⟩
  | _ :: _, _ :: _, h => ⟨h.1, TupsAt.app ha h.2⟩
  | [], _ :: _, h => h.elim
  | _ :: _, [], h => h.elim
theorem TupsAt.len : ∀ {as : List Addr} {rs : List α}, TupsAt f H as rs → as.length = rs.length
  | [], [], _ => rfl
  | _ :: _, _ :: _, h => congrArg (· + 1) (TupsAt.len h.2)
  | [], _ :: _, h => h.elim
  | _ :: _, [], h => h.elim
theorem TupsAt.get : ∀ {as : List Addr} {rs : List α} {i : Nat} {a : Addr}, TupsAt f H as rs → as[i]? = some a → ∃ r, rs[i]? = some r ∧ H a = some (.tup (f r))
  | _ :: _, r :: _, 0, a, h, e => ⟨r, rfl, by rw [← Option.some.inj (show some _ = some a from e)]; exact h.1⟩
  | _ :: _, _ :: _, i + 1, _, h, e => TupsAt.get (i := i) h.2 e
  | [], [], _, _, _, e => by cases e
  | [], _ :: _, _, _, h, _ => h.elim
  | _ :: _, [], _, _, h, _ => h.elim
theorem TupsAt.rev {as : List Addr} {rs : List α} (h : TupsAt f H as rs) : TupsAt f H as.reverse rs.reverse := by
  induction as generalizing rs with
  | nil => cases rs with
    | nil => trivial
    | cons => exact h.elim
  | cons a as ih => cases rs with
    | nil => exact h.elim
    | cons r rs =>
      rw [List.reverse_cons, List.reverse_cons]
      exact (ih h.2).app h.1
theorem TupsAt.snoc {a : Addr} {r : α} (as : List Addr) (rs : List α) (h : TupsAt f H (as ++ [a]) (rs ++ [r])) : True := trivial
theorem TupsAt.get2 : ∀ {as : List Addr} {rs : List α} {i : Nat} {r : α}, TupsAt f H as rs → rs[i]? = some r → ∃ a, as[i]? = some a ∧ H a = some (.tup (f r))
  | a :: _, _ :: _, 0, r, h, e => ⟨a, rfl, by rw [← Option.some.inj (show some _ = some r from e)]; exact h.1⟩
  | _ :: _, _ :: _, i + 1, _, h, e => TupsAt.get2 (i := i) h.2 e
  | [], [], _, _, _, e => by cases e
  | [], _ :: _, _, _, h, _ => h.elim
  | _ :: _, [], _, _, h, _ => h.elim
/-- a list of tuples -/
def LstAt (f : α → List V) (H : Hp) (q : Addr) (rs : List α) : Prop := ∃ as, H q = some (.lst (as.map V.ref)) ∧ TupsAt f H as rs
theorem LstAt.same (s : Same H H') {q : Addr} {rs : List α} (h : LstAt f H q rs) : LstAt f H' q rs := by
  obtain ⟨as, e, t⟩ := h
  exact ⟨as, s _ _ e, t.same s⟩
theorem LstAt.imp (k : ∀ b xs, H b = some (.tup xs) → H' b = some (.tup xs)) {q : Addr} (kq : H' q = H q) {rs : List α} (h : LstAt f H q rs) : LstAt f H' q rs := by
  obtain ⟨as, e, t⟩ := h
  exact ⟨as, by rw [kq]; exact e, t.imp k⟩
end
/-- tuples stand when something else is written -/
theorem tup_off {H : Hp} {p : Addr} {u o : HO} (hp : H p = some u) (hu : ∀ xs, u ≠ .tup xs) : ∀ b xs, H b = some (.tup xs) → (upd H p o) b = some (.tup xs) := fun b xs e => by
  rw [upd_ne (ne_of e hp (fun z => hu _ z.symm))]
  exact e
end K26
namespace K26
open PySem PySem.Spec PyProof.Rows L2 TL
/-! ### events: promises -/
theorem same_lock {H H1 : Hp} {d : Addr} {od : Obj} {u : HO} (hd : H d = some u) (s : Same (upd H d (.frz od u)) H1) : Same H (upd H1 d u) := fun b x e => by
  by_cases z : b = d
  · subst z
    rw [upd_same, ← e, hd]
  · rw [upd_ne z]
    exact s b x (by rw [upd_ne z]; exact e)
theorem get_map {α β : Type} {f : α → β} {l : List α} {i : Nat} {y : β} (h : (l.map f)[i]? = some y) : ∃ x, l[i]? = some x ∧ f x = y := by
  rw [List.getElem?_map] at h
  exact Option.map_eq_some_iff.mp h
def GoodT (t : Tb) : Prop := ∀ p ∈ t, isN p.1 = true ∧ Big p.1
def spVals : Sp := fun vs H Q _ => ∃ (d : Addr) (t : Tb), vs = [.ref d] ∧ H d = some (.dK (dv t)) ∧ t.length ≤ 1000 ∧ GoodT t ∧ ∀ H', Same H H' → Q (.bl true) H'
def spEvent : Sp := fun vs H Q _ => ∃ (e d : Addr) (ev : Ev) (t : Tb), vs = [.ref e, .ref d] ∧ H e = some (.tup (evV ev)) ∧ H d = some (.dK (dv t)) ∧ evOk (keysT t) ev ∧ ∀ H', Same H H' → Q (.bl true) H'
def spBehind : Sp := fun vs H Q _ => ∃ (d r q : Addr) (t : Tb) (l : List Rc) (es : List Ev), vs = [.ref d, .ref r, .ref q] ∧ H d = some (.dK (dv t)) ∧ LstAt rcV H r l ∧ LstAt evV H q es ∧ t.length + es.length ≤ 1000 ∧ l.length + es.length ≤ 1000 ∧
  ∀ H' c d' r', Same H H' → H' c = some (.tup [.ref d', .ref r']) → H d' = none → H r' = none → H' d' = some (.dK (dv (runE (t, l) es).1)) → LstAt rcV H' r' (runE (t, l) es).2 → Q (.ref c) H'
def spUndone : Sp := fun vs H Q _ => ∃ (d r : Addr) (t : Tb) (l : List Rc), vs = [.ref d, .ref r] ∧ H d = some (.dK (dv t)) ∧ LstAt rcV H r l ∧ t.length + l.length ≤ 1000 ∧
  ∀ H' d', Same H H' → H d' = none → H' d' = some (.dK (dv (undo t l))) → Q (.ref d') H'
theorem ev_wl : decide (V.str "write" = V.str "log") = false := by decide +kernel
theorem ev_cl : decide (V.str "clear" = V.str "log") = false := by decide +kernel
theorem ev_cw : decide (V.str "clear" = V.str "write") = false := by decide +kernel
theorem ev_fl : decide (V.str "flush" = V.str "log") = false := by decide +kernel
theorem ev_fw : decide (V.str "flush" = V.str "write") = false := by decide +kernel
theorem ev_fc : decide (V.str "flush" = V.str "clear") = false := by decide +kernel
theorem ev_lf : decide (V.str "log" = V.str "flush") = false := by decide +kernel
theorem ev_wf : decide (V.str "write" = V.str "flush") = false := by decide +kernel
theorem ev_cf : decide (V.str "clear" = V.str "flush") = false := by decide +kernel
theorem ev_lc : decide (V.str "log" = V.str "clear") = false := by decide +kernel
theorem ev_wc : decide (V.str "write" = V.str "clear") = false := by decide +kernel
theorem ev_lw : decide (V.str "log" = V.str "write") = false := by decide +kernel
theorem no_b {b : Bool} {p : Prop} (h : b = false) : b = true → p := fun e => by rw [h] at e; cases e
theorem yes_b {b : Bool} {p : Prop} (h : b = true) : ¬ b = true → p := fun e => absurd h e
theorem in_ev (s : Str) (h : s = "clear" ∨ s = "flush") : ([PyData.tuple [.str "flush"], PyData.tuple [.str "clear"]].any fun z => PyData.eqv z (.tuple [.str s])) = true := by
  rcases h with rfl | rfl
  · simp [PyData.eqv, PyData.eqvAll]
  · simp [PyData.eqv, PyData.eqvAll]
section
variable {P : Program} {w : World} {K : PySem.W.Frag} {mg : Str → Option Value} {base : Heap} {a : Ads}
theorem sc_are_values : FnScope ["value", "name", "number"] ["value"] (defScope s_are_values) := ⟨rfl, rfl, rfl, by decide +kernel, rfl, by decide +kernel, by decide +kernel⟩
theorem ok_are_values (T : Txt K mg a) : FnOk P w K mg base CX0 3 a.f_are_values a.f_are_values_d ["value"] spVals := by
  refine T.F_are_values.ok sc_are_values (fun vs H Q E h => ?_) (fun cdv A outer s H vs Q E hr h => ?_)
  · obtain ⟨d, t, rfl, _⟩ := h
    rfl
  obtain ⟨d, t, rfl, hd, hl, hg, q⟩ := h
  refine ⟨_, (pss_cons (ps_if (pt_not (pt_val (pe_callB call_isi (by rfl) T.isinstance (by decide +kernel) (pa_cons (pv 0) (pa_cons (pe_bltn (v := .ty "dict") (by rfl) T.dict (by decide +kernel) rfl) pa_nil)))))
      (pss_one (ps_ret pe_bl))
      pss_nil)
    (pss_one (ps_ret (pe_callB (cr_all rfl) (by rfl) T.all (by decide +kernel) (pa_cons (pe_lock (pe_lc (own := [("name", 1), ("number", 2)]) (g := gTup K 2 (gCons (gName 1) (gCons (gName 2) gNil))) (tt := tYes) (by rfl) sc_are_values.nd (pi_items (pv 0)) (blkOk_by (own := [("name", 1), ("number", 2)]) (N := ["value", "name", "number"]) (sc := defScope s_are_values) (by decide +kernel)) (fun _ _ _ _ _ => pg_tup (by rfl) (pgs_cons (pg_name (i := 1) sc_are_values.nd rfl (Or.inl rfl)) (pgs_cons (pg_name (i := 2) sc_are_values.nd rfl (Or.inl rfl)) pgs_nil))) (fun _ _ _ _ _ => pts_nil) (fun _ _ _ _ _ => (pe_and (pe_call (ok_is_name T) (hr.mono (by decide)) (by rfl) T.g_is_name T.F_is_name.kp T.b_is_name .nil pass0 (pa_cons (pv 1) pa_nil)) (pe_one (pe_call (ok_is_integer T) (hr.mono (by decide)) (by rfl) T.g_is_integer T.F_is_integer.kp T.b_is_integer .nil pass0 (pa_cons (pv 2) pa_nil))))))) pa_nil))))), ?_⟩
  refine ⟨_, rfl, .ref d, .ty "dict", .type "dict", .type "dict", true, rfl, .ty "dict", .base (.dK hd), kit_ty (by decide +kernel), _, rfl, iteF ?_⟩
  refine ⟨d, _, hd, trivial, fun od => ?_⟩
  refine ⟨_, rfl, d, od, _, rfl, upd_same, fun D nD => ?_⟩
  have dD : d ≠ D := ne_of_none upd_same nD
  refine lc_it walk_items (fun i H' => Same (upd H d (.frz od (.dK (dv t)))) H' ∧ H' D = some (.lst ((List.replicate i true).map V.bl))) ⟨same_upd nD, upd_same⟩ (fun i H' _ h => h.1 _ _ upd_same) ?_ ?_
  · rintro i x H1 H2 hi ⟨s1, hD1⟩ ⟨c, k, v, rfl, nc, rfl, hk, hv⟩
    obtain ⟨⟨k', v'⟩, hkv, ek⟩ := Option.map_eq_some_iff.mp hk
    obtain ⟨x, n, hx, rfl, rfl⟩ := dv_get hkv
    obtain rfl : V.str x = k := ek
    have ev : v = .int n := by
      have hv2 : Option.map Prod.snd (dv t)[i]? = some v := hv
      rw [hkv] at hv2
      exact (Option.some.inj hv2).symm
    subst ev
    have hm : (x, n) ∈ t := List.mem_of_getElem? hx
    obtain ⟨g1, g2⟩ := hg _ hm
    rw [dv_len] at hi
    refine ⟨c, _, rfl, SqT.of upd_same, rfl, _, _, rfl, _, _, rfl, rfl, rfl, ?_⟩
    refine ⟨_, rfl, x, rfl, g2, fun H3 s3 => ⟨_, rfl, ite2 (fun _ => ?_) (fun e => absurd g1 e)⟩⟩
    have s4 := (same_upd nc).trans s3
    refine ⟨_, rfl, n, rfl, _, s4 _ _ hD1, ?_, same_mut (s1.trans s4) nD, ?_⟩
    · rw [List.length_map, List.length_replicate]
      exact bigLine (by omega)
    · rw [upd_same, List.replicate_succ', List.map_append]
      rfl
  · rintro H1 ⟨s1, hD1⟩
    refine ⟨s1 _ _ upd_same, D, _, rfl, SqL.of (by rw [upd_ne dD.symm]; exact hD1), ?_⟩
    have e : (List.replicate (dv t).length true).all id = true := by
      rw [List.all_eq_true]
      intro b hb
      rw [List.eq_of_mem_replicate hb]
      rfl
    rw [e]
    exact q _ (same_lock hd s1)
theorem sc_is_event : FnScope ["value", "values"] ["value", "values"] (defScope s_is_event) := ⟨rfl, rfl, rfl, by decide +kernel, rfl, by decide +kernel, by decide +kernel⟩
theorem ok_is_event (T : Txt K mg a) : FnOk P w K mg base CX0 2 a.f_is_event a.f_is_event_d ["value", "values"] spEvent := by
  refine T.F_is_event.ok sc_is_event (fun vs H Q E h => ?_) (fun cdv A outer s H vs Q E hr h => ?_)
  · obtain ⟨e, d, ev, t, rfl, _⟩ := h
    rfl
  obtain ⟨e, d, ev, t, rfl, he, hd, hk, q⟩ := h
  refine ⟨_, (pss_cons (ps_if (PW.pt (pw_or (pt_not (pt_val (pe_callB call_isi (by rfl) T.isinstance (by decide +kernel) (pa_cons (pv 0) (pa_cons (pe_bltn (v := .ty "tuple") (by rfl) T.tuple (by decide +kernel) rfl) pa_nil))))) (pw_or (pt_cmpR op_eq (pe_callB call_len_seq (by rfl) T.len PySem.boot_len (pa_cons (pv 0) pa_nil)) pe_int (nomark _)) (pw_or1 (pt_not (pt_val (pe_callB call_isi (by rfl) T.isinstance (by decide +kernel) (pa_cons (pe_ix ix_tup (pv 0) pe_int (fun _ _ => rfl)) (pa_cons (pe_bltn (v := .ty "str") (by rfl) T.str (by decide +kernel) rfl) pa_nil)))))))))
      (pss_one (ps_ret pe_bl))
      pss_nil)
    (pss_cons (ps_if (pt_cmpR op_notIn_seq (pe_ix ix_tup (pv 0) pe_int (fun _ _ => rfl)) (pe_tup (pa_cons pe_str (pa_cons pe_str pa_nil))) (by rfl))
      (pss_one (ps_ret (pe_cmpR (op_inT (hu65 hr)) (pv 0) (pe_tup (pa_cons (pe_gr rfl T.g_FLUSH) (pa_cons (pe_gr rfl T.g_CLEAR) pa_nil))) (by rfl))))
      pss_nil)
    (pss_one (ps_ret (pe_and (pe_cmpR op_eq (pe_callB call_len_seq (by rfl) T.len PySem.boot_len (pa_cons (pv 0) pa_nil)) pe_int (nomark _)) (pe_and (pe_callB call_isi (by rfl) T.isinstance (by decide +kernel) (pa_cons (pe_ix ix_tup (pv 0) pe_int (fun _ _ => rfl)) (pa_cons (pe_bltn (v := .ty "str") (by rfl) T.str (by decide +kernel) rfl) pa_nil))) (pe_and (pe_cmp (pc_din (hu_of hr) (pe_ix ix_tup (pv 0) pe_int (fun _ _ => rfl)) (pv 1))) (pe_one (pe_call (ok_is_integer T) (hr.mono (by decide)) (by rfl) T.g_is_integer T.F_is_integer.kp T.b_is_integer .nil pass0 (pa_cons (pe_ix ix_tup (pv 0) pe_int (fun _ _ => rfl)) pa_nil)))))))))), ?_⟩
  refine ⟨_, rfl, .ref e, .ty "tuple", .type "tuple", .type "tuple", true, rfl, .ty "tuple", .base (.tup he), kit_ty (by decide +kernel), _, rfl, iteF ?_⟩
  refine ⟨_, rfl, e, _, rfl, .inr (SqT.of he), rfl, _, rfl, ite2 (no_b (by cases ev <;> rfl)) (fun _ => ?_)⟩
  cases ev with
  | log x v =>
    refine ⟨_, rfl, e, _, _, _, rfl, rfl, SqT.of he, atI_nat (j := 0) rfl, .str "log", .ty "str", .type "str", .type "str", true, rfl, .ty "str", .base (.str _), kit_ty (by decide +kernel), _, rfl, iteF ?_⟩
    refine ⟨_, rfl, e, _, _, _, rfl, rfl, SqT.of he, atI_nat (j := 0) rfl, (by show 2 ≤ sizeLine; decide), fun c nc => ⟨c, _, rfl, .inr (SqT.of upd_same), rfl, rfl, _, rfl, ite2 (no_b (by decide +kernel)) (fun _ => ?_)⟩⟩
    have s1 : Same H (upd H c (.tup [.str "log", .str "write"])) := same_upd nc
    refine ⟨_, rfl, e, _, rfl, .inr (SqT.of (s1 _ _ he)), rfl, _, rfl, iteT ?_⟩
    refine ⟨_, rfl, e, _, _, _, rfl, rfl, SqT.of (s1 _ _ he), atI_nat (j := 1) rfl, .str x, .ty "str", .type "str", .type "str", true, rfl, .ty "str", .base (.str _), kit_ty (by decide +kernel), _, rfl, iteT ?_⟩
    refine ⟨_, rfl, e, _, _, _, rfl, rfl, SqT.of (s1 _ _ he), atI_nat (j := 1) rfl, _, rfl, d, _, rfl, DGet.k (k := Sum.inr x) (s1 _ _ hd), _, rfl, ite2 (fun _ => ?_) (yes_b (dv_has hk))⟩
    exact ⟨_, rfl, e, _, _, _, rfl, rfl, SqT.of (s1 _ _ he), atI_nat (j := 2) rfl, v, rfl, q _ s1⟩
  | write x v =>
    refine ⟨_, rfl, e, _, _, _, rfl, rfl, SqT.of he, atI_nat (j := 0) rfl, .str "write", .ty "str", .type "str", .type "str", true, rfl, .ty "str", .base (.str _), kit_ty (by decide +kernel), _, rfl, iteF ?_⟩
    refine ⟨_, rfl, e, _, _, _, rfl, rfl, SqT.of he, atI_nat (j := 0) rfl, (by show 2 ≤ sizeLine; decide), fun c nc => ⟨c, _, rfl, .inr (SqT.of upd_same), rfl, rfl, _, rfl, ite2 (no_b (by decide +kernel)) (fun _ => ?_)⟩⟩
    have s1 : Same H (upd H c (.tup [.str "log", .str "write"])) := same_upd nc
    refine ⟨_, rfl, e, _, rfl, .inr (SqT.of (s1 _ _ he)), rfl, _, rfl, iteT ?_⟩
    refine ⟨_, rfl, e, _, _, _, rfl, rfl, SqT.of (s1 _ _ he), atI_nat (j := 1) rfl, .str x, .ty "str", .type "str", .type "str", true, rfl, .ty "str", .base (.str _), kit_ty (by decide +kernel), _, rfl, iteT ?_⟩
    refine ⟨_, rfl, e, _, _, _, rfl, rfl, SqT.of (s1 _ _ he), atI_nat (j := 1) rfl, _, rfl, d, _, rfl, DGet.k (k := Sum.inr x) (s1 _ _ hd), _, rfl, ite2 (fun _ => ?_) (yes_b (dv_has hk))⟩
    exact ⟨_, rfl, e, _, _, _, rfl, rfl, SqT.of (s1 _ _ he), atI_nat (j := 2) rfl, v, rfl, q _ s1⟩
  | clear =>
    refine ⟨_, rfl, e, _, _, _, rfl, rfl, SqT.of he, atI_nat (j := 0) rfl, .str "clear", .ty "str", .type "str", .type "str", true, rfl, .ty "str", .base (.str _), kit_ty (by decide +kernel), _, rfl, iteF ?_⟩
    refine ⟨_, rfl, e, _, _, _, rfl, rfl, SqT.of he, atI_nat (j := 0) rfl, (by show 2 ≤ sizeLine; decide), fun c nc => ⟨c, _, rfl, .inr (SqT.of upd_same), rfl, rfl, _, rfl, ite2 (fun _ => ?_) (yes_b (by decide +kernel))⟩⟩
    have s1 : Same H (upd H c (.tup [.str "log", .str "write"])) := same_upd nc
    refine ⟨_, rfl, (by show 2 ≤ sizeLine; decide), fun c2 nc2 => ?_⟩
    have s2 := s1.trans (same_upd (o := .tup [.ref a.t_FLUSH, .ref a.t_CLEAR]) nc2)
    refine ⟨.tuple [.str "clear"], [.tuple [.str "flush"], .tuple [.str "clear"]], .tup (SqT.of (s2 _ _ he)) (.cons (.str _) .nil), .tup (SqT.of upd_same) (.cons (.tup (T.q_FLUSH _) (.cons (.str _) .nil)) (.cons (.tup (T.q_CLEAR _) (.cons (.str _) .nil)) .nil)), by decide +kernel, by decide +kernel, ?_⟩
    rw [in_ev _ (.inl rfl)]
    exact q _ s2
  | flush =>
    refine ⟨_, rfl, e, _, _, _, rfl, rfl, SqT.of he, atI_nat (j := 0) rfl, .str "flush", .ty "str", .type "str", .type "str", true, rfl, .ty "str", .base (.str _), kit_ty (by decide +kernel), _, rfl, iteF ?_⟩
    refine ⟨_, rfl, e, _, _, _, rfl, rfl, SqT.of he, atI_nat (j := 0) rfl, (by show 2 ≤ sizeLine; decide), fun c nc => ⟨c, _, rfl, .inr (SqT.of upd_same), rfl, rfl, _, rfl, ite2 (fun _ => ?_) (yes_b (by decide +kernel))⟩⟩
    have s1 : Same H (upd H c (.tup [.str "log", .str "write"])) := same_upd nc
    refine ⟨_, rfl, (by show 2 ≤ sizeLine; decide), fun c2 nc2 => ?_⟩
    have s2 := s1.trans (same_upd (o := .tup [.ref a.t_FLUSH, .ref a.t_CLEAR]) nc2)
    refine ⟨.tuple [.str "flush"], [.tuple [.str "flush"], .tuple [.str "clear"]], .tup (SqT.of (s2 _ _ he)) (.cons (.str _) .nil), .tup (SqT.of upd_same) (.cons (.tup (T.q_FLUSH _) (.cons (.str _) .nil)) (.cons (.tup (T.q_CLEAR _) (.cons (.str _) .nil)) .nil)), by decide +kernel, by decide +kernel, ?_⟩
    rw [in_ev _ (.inr rfl)]
    exact q _ s2
theorem sc_behind : FnScope ["values", "records", "events", "held", "kept", "event"] ["values", "records", "events"] (defScope s_behind) := ⟨rfl, rfl, rfl, by decide +kernel, rfl, by decide +kernel, by decide +kernel⟩
theorem ok_behind (T : Txt K mg a) : FnOk P w K mg base CX0 1 a.f_behind a.f_behind_d ["values", "records", "events"] spBehind := by
  refine T.F_behind.ok sc_behind (fun vs H Q E h => ?_) (fun cdv A outer s H vs Q E hr h => ?_)
  · obtain ⟨d, r, q, t, l, es, rfl, _⟩ := h
    rfl
  obtain ⟨d, r, qa, t, l, es, rfl, hd, ⟨as, hra, hrt⟩, ⟨bs, hqa, hqt⟩, hb1, hb2, q⟩ := h
  refine ⟨_, (pss_cons (ps_set (i := 3) sc_behind.nd rfl (Or.inl rfl) (pe_callTy call_dictD (by rfl) T.dict (by decide +kernel) (pa_cons (pv 0) pa_nil)))
    (pss_cons (ps_set (i := 4) sc_behind.nd rfl (Or.inl rfl) (pe_callTy call_list_of (by rfl) T.list (by decide +kernel) (pa_cons (pv 1) pa_nil)))
    (pss_cons (ps_for PassesOwn.never rfl (pi_list (pv 2)) (pg_name (i := 5) sc_behind.nd rfl (Or.inl rfl))
      (pss_one (ps_if (pt_cmpR op_eq (pe_ix ix_tup (pv 5) pe_int (fun _ _ => rfl)) pe_str (nomark _))
        (pss_one (ps_expr (pe_bm PySem.F.plainAttrs_list PySem.F.slot_list_append PySem.F.type_list_append mt_append (pv 4) (pa_cons (pe_slice sl_tup (pv 5) (po_some pe_int) po_none) pa_nil))))
        (pss_one (ps_if (pt_cmpR op_eq (pe_ix ix_tup (pv 5) pe_int (fun _ _ => rfl)) pe_str (nomark _))
          (pss_one (ps_dput (hu_of hr) (pv 3) (pe_ix ix_tup (pv 5) pe_int (fun _ _ => rfl)) (pe_ix ix_tup (pv 5) pe_int (fun _ _ => rfl)) rfl))
          (pss_one (ps_if (pt_cmpR op_eq (pe_ix ix_tup (pv 5) pe_int (fun _ _ => rfl)) pe_str (nomark _))
            (pss_one (ps_set (i := 4) sc_behind.nd rfl (Or.inl rfl) (pe_lst pa_nil)))
            pss_nil)))))))
    (pss_one (ps_ret (pe_tup (pa_cons (pv 3) (pa_cons (pv 4) pa_nil)))))))), ?_⟩
  refine ⟨_, rfl, d, _, rfl, .inl hd, fun D nD => ?_⟩
  have s1 : Same H (upd H D (.dK (dv t))) := same_upd nD
  refine ⟨_, rfl, r, _, rfl, .inl (SqL.of (s1 _ _ hra)), fun R nR => ?_⟩
  have s2 := s1.trans (same_upd (o := .lst (as.map V.ref)) nR)
  have hbl : bs.length = es.length := hqt.len
  refine ⟨_, rfl, qa, rfl, ⟨_, SqL.of (s2 _ _ hqa)⟩, for_it (walk_list (K := K) (a := qa) (xs := bs.map V.ref)) (fun i σ H' => ∃ (v5 : Option V) (R' : Addr), σ = [some (.ref d), some (.ref r), some (.ref qa), some (.ref D), some (.ref R'), v5] ∧ Same H H' ∧ H R' = none ∧
    H' D = some (.dK (dv (runE (t, l) (es.take i)).1)) ∧ LstAt rcV H' R' (runE (t, l) (es.take i)).2)
    ⟨none, R, rfl, s2, s1.free nR, ?_, as, upd_same, hrt.same s2⟩ (fun i σ H' _ ⟨_, _, _, s, _⟩ => SqL.of (s _ _ hqa)) ?_ ?_⟩
  · rw [upd_ne (ne_of_none upd_same nR)]
    exact upd_same
  · rintro i x σ H1 H2 hi ⟨v5, R', rfl, s3, nR', hD3, cs, hRc, hct⟩ ⟨rfl, hx⟩
    obtain ⟨b, hb, rfl⟩ := get_map hx
    obtain ⟨ev, hev, hbt⟩ := (hqt.same s3).get hb
    have e1 := runE_succ (s := (t, l)) hev
    have hlg := runE_log (es.take i) (t, l)
    have htb := runE_tab (es.take i) (t, l)
    rw [List.length_take] at hlg htb
    have hlg2 : (runE (t, l) (es.take i)).2.length ≤ 1000 := by
      have : (t, l).2.length = l.length := rfl
      omega
    have htb2 : (runE (t, l) (es.take i)).1.length ≤ 1000 := by
      have : (t, l).1.length = t.length := rfl
      omega
    rw [e1]
    generalize runE (t, l) (es.take i) = st at hD3 hct hlg2 htb2 ⊢
    have hcl : cs.length = st.2.length := hct.len
    cases ev with
    | log x v =>
      refine ⟨_, rfl, b, _, _, _, rfl, rfl, SqT.of hbt, atI_nat (j := 0) rfl, rfl, _, rfl, ite2 (fun _ => ?_) (yes_b (decide_eq_true rfl))⟩
      refine ⟨_, rfl, .inl ⟨rfl, _, SqL.of hRc⟩, _, rfl, 1, rfl, b, _, rfl, SqT.of hbt, (fun z => by have z1 : (1 : Nat) = 0 := z.1; cases z1), fun c nc => ?_⟩
      have s4 : Same H2 (upd H2 c (.tup (cutV (evV (.log x v)) (some 1) none))) := same_upd nc
      refine ⟨R', _, _, rfl, rfl, s4 _ _ hRc, ?_, ?_⟩
      · rw [List.length_map]
        exact bigLine (by omega)
      · refine ⟨_, R', rfl, same_mut (s3.trans s4) nR', nR', ?_, cs ++ [c], ?_, ?_⟩
        · rw [upd_ne (ne_of hD3 hRc (by intro z; cases z))]
          exact s4 _ _ hD3
        · rw [upd_same, List.map_append]
          rfl
        · exact ((hct.same s4).imp (tup_off (s4 _ _ hRc) (by intro xs z; cases z))).app (r := (x, v)) (tup_off (s4 _ _ hRc) (by intro xs z; cases z) _ _ upd_same)
    | write x v =>
      refine ⟨_, rfl, b, _, _, _, rfl, rfl, SqT.of hbt, atI_nat (j := 0) rfl, rfl, _, rfl, ite2 (no_b ev_wl) (fun _ => ?_)⟩
      refine ⟨_, rfl, b, _, _, _, rfl, rfl, SqT.of hbt, atI_nat (j := 0) rfl, rfl, _, rfl, ite2 (fun _ => ?_) (yes_b (decide_eq_true rfl))⟩
      refine ⟨_, rfl, b, _, _, _, rfl, rfl, SqT.of hbt, atI_nat (j := 2) rfl, _, rfl, _, rfl, b, _, _, _, rfl, rfl, SqT.of hbt, atI_nat (j := 1) rfl, D, _, rfl, DPut.k (k := Sum.inr x) hD3 ?_, ?_⟩
      · rw [dv_len]
        exact bigLine (by omega)
      · refine ⟨_, R', rfl, same_mut s3 nD, nR', ?_, cs, ?_, ?_⟩
        · rw [upd_same, dv_put]
          rfl
        · rw [upd_ne (ne_of hRc hD3 (by intro z; cases z))]
          exact hRc
        · exact hct.imp (tup_off hD3 (by intro xs z; cases z))
    | clear =>
      refine ⟨_, rfl, b, _, _, _, rfl, rfl, SqT.of hbt, atI_nat (j := 0) rfl, rfl, _, rfl, ite2 (no_b ev_cl) (fun _ => ?_)⟩
      refine ⟨_, rfl, b, _, _, _, rfl, rfl, SqT.of hbt, atI_nat (j := 0) rfl, rfl, _, rfl, ite2 (no_b ev_cw) (fun _ => ?_)⟩
      refine ⟨_, rfl, b, _, _, _, rfl, rfl, SqT.of hbt, atI_nat (j := 0) rfl, rfl, _, rfl, ite2 (fun _ => ?_) (yes_b (decide_eq_true rfl))⟩
      refine ⟨(by show 0 ≤ sizeLine; decide), fun R2 nR2 => ?_⟩
      refine ⟨_, R2, rfl, s3.trans (same_upd nR2), s3.free nR2, ?_, [], upd_same, trivial⟩
      exact same_upd nR2 _ _ hD3
    | flush =>
      refine ⟨_, rfl, b, _, _, _, rfl, rfl, SqT.of hbt, atI_nat (j := 0) rfl, rfl, _, rfl, ite2 (no_b ev_fl) (fun _ => ?_)⟩
      refine ⟨_, rfl, b, _, _, _, rfl, rfl, SqT.of hbt, atI_nat (j := 0) rfl, rfl, _, rfl, ite2 (no_b ev_fw) (fun _ => ?_)⟩
      refine ⟨_, rfl, b, _, _, _, rfl, rfl, SqT.of hbt, atI_nat (j := 0) rfl, rfl, _, rfl, ite2 (no_b ev_fc) (fun _ => ?_)⟩
      exact ⟨_, R', rfl, s3, nR', hD3, cs, hRc, hct⟩
  · rintro σ H1 ⟨v5, R', rfl, s3, nR', hD3, hR3⟩
    rw [List.length_map, hbl, List.take_length] at hD3 hR3
    refine ⟨_, rfl, _, rfl, (by show 2 ≤ sizeLine; decide), fun c nc => ?_⟩
    exact q _ c D R' (s3.trans (same_upd nc)) upd_same nD nR' (same_upd nc _ _ hD3) (hR3.same (same_upd nc))
theorem sc_undone_by_log : FnScope ["values", "records", "held", "name", "number"] ["values", "records"] (defScope s_undone_by_log) := ⟨rfl, rfl, rfl, by decide +kernel, rfl, by decide +kernel, by decide +kernel⟩
theorem ok_undone_by_log (T : Txt K mg a) : FnOk P w K mg base CX0 1 a.f_undone_by_log a.f_undone_by_log_d ["values", "records"] spUndone := by
  refine T.F_undone_by_log.ok sc_undone_by_log (fun vs H Q E h => ?_) (fun cdv A outer s H vs Q E hr h => ?_)
  · obtain ⟨d, r, t, l, rfl, _⟩ := h
    rfl
  obtain ⟨d, r, t, l, rfl, hd, ⟨as, hra, hrt⟩, hb, q⟩ := h
  refine ⟨_, (pss_cons (ps_set (i := 2) sc_undone_by_log.nd rfl (Or.inl rfl) (pe_callTy call_dictD (by rfl) T.dict (by decide +kernel) (pa_cons (pv 0) pa_nil)))
    (pss_cons (ps_for PassesOwn.never rfl (pi_list (pe_revL (pv 1))) (pg_tup (by rfl) (pgs_cons (pg_name (i := 3) sc_undone_by_log.nd rfl (Or.inl rfl)) (pgs_cons (pg_name (i := 4) sc_undone_by_log.nd rfl (Or.inl rfl)) pgs_nil)))
      (pss_one (ps_dput (hu_of hr) (pv 2) (pv 3) (pv 4) rfl)))
    (pss_one (ps_ret (pv 2))))), ?_⟩
  refine ⟨_, rfl, d, _, rfl, .inl hd, fun D nD => ?_⟩
  have s1 : Same H (upd H D (.dK (dv t))) := same_upd nD
  refine ⟨_, rfl, r, _, rfl, SqL.of (s1 _ _ hra), fun R nR => ?_⟩
  have s2 := s1.trans (same_upd (o := .lst (as.map V.ref).reverse) nR)
  have hrv := (hrt.same s2).rev
  have hlen : as.reverse.length = l.reverse.length := hrv.len
  refine ⟨R, rfl, ⟨_, SqL.of upd_same⟩, for_it (walk_list (K := K) (a := R) (xs := (as.map V.ref).reverse)) (fun i σ H' => ∃ (v3 v4 : Option V), σ = [some (.ref d), some (.ref r), some (.ref D), v3, v4] ∧ Same H H' ∧ H' R = some (.lst (as.map V.ref).reverse) ∧
    TupsAt rcV H' as.reverse l.reverse ∧ ∃ t', H' D = some (.dK (dv t')) ∧ t' = (l.reverse.take i).foldl (fun t r => putT t r.1 r.2) t ∧ t'.length ≤ t.length + i)
    ⟨none, none, rfl, s2, upd_same, hrv, t, ?_, rfl, Nat.le_refl _⟩ (fun i σ H' _ ⟨_, _, _, _, h, _⟩ => SqL.of h) ?_ ?_⟩
  · rw [upd_ne (ne_of_none upd_same nR)]
    exact upd_same
  · rintro i x σ H1 H2 hi ⟨v3, v4, rfl, s3, hR3, ht3, t', hD3, et, lt⟩ ⟨rfl, hx⟩
    rw [← List.map_reverse] at hx
    obtain ⟨b, hb, rfl⟩ := get_map hx
    obtain ⟨⟨x, v⟩, hrc, hbt⟩ := ht3.get hb
    rw [List.length_reverse, List.length_map] at hi
    have hal := hrt.len
    refine ⟨b, _, rfl, SqT.of hbt, rfl, _, _, rfl, _, _, rfl, rfl, ?_⟩
    refine ⟨_, rfl, _, rfl, _, rfl, D, _, rfl, DPut.k (k := Sum.inr x) hD3 ?_, ?_⟩
    · rw [dv_len]
      exact bigLine (by omega)
    · refine ⟨_, _, rfl, same_mut s3 nD, ?_, ht3.imp (tup_off hD3 (by intro xs z; cases z)), putT t' x v, ?_, ?_, ?_⟩
      · rw [upd_ne (ne_of hR3 hD3 (by intro z; cases z))]
        exact hR3
      · rw [upd_same, dv_put]
      · rw [List.take_add_one, hrc, List.foldl_append, ← et]
        rfl
      · have := putT_len t' x v
        omega
  · rintro σ H1 ⟨v3, v4, rfl, s3, hR3, ht3, t', hD3, et, lt⟩
    refine ⟨_, rfl, ?_⟩
    have e2 : t' = undo t l := by
      rw [et]
      unfold undo
      rw [List.length_reverse, List.length_map, hrt.len, List.take_of_length_le (by rw [List.length_reverse]; exact Nat.le_refl _)]
    rw [e2] at hD3
    exact q H1 D s3 nD hD3
end
end K26
namespace K26
open PySem PySem.Spec PyProof.Rows L2 TL
/-! ### stores -/
def StAt (a : Ads) (H : Hp) (x d r q : Addr) (t : Tb) (l : List Rc) (es : List Ev) : Prop := ∃ dx, H x = some (.ins a.c_Store dx [("_values", .ref d), ("_records", .ref r), ("_ahead", .ref q)]) ∧ r ≠ q ∧ H d = some (.dK (dv t)) ∧ LstAt rcV H r l ∧ LstAt evV H q es
theorem StAt.same {a : Ads} {H H' : Hp} (s : Same H H') {x d r q : Addr} {t : Tb} {l : List Rc} {es : List Ev} (h : StAt a H x d r q t l es) : StAt a H' x d r q t l es := by
  obtain ⟨dx, h1, h0, h2, h3, h4⟩ := h
  exact ⟨dx, s _ _ h1, h0, s _ _ h2, h3.same s, h4.same s⟩
def Old (H : Hp) (d d' : Addr) : Prop := d' = d ∨ H d' = none
def spInit (a : Ads) : Sp := fun vs H Q _ => ∃ (x dx d0 : Addr) (t : Tb), vs = [.ref x, .ref d0] ∧ H x = some (.ins a.c_Store dx []) ∧ H d0 = some (.dK (dv t)) ∧ t.length ≤ 1000 ∧ GoodT t ∧
  ∀ H' d r q, (∀ b o, H b = some o → b ≠ x → H' b = some o) → H d = none → H r = none → H q = none → StAt a H' x d r q t [] [] → Q .non H'
def spPerform (a : Ads) : Sp := fun vs H Q _ => ∃ (x d r q e : Addr) (t : Tb) (l : List Rc) (es : List Ev) (ev : Ev), vs = [.ref x, .ref e] ∧ StAt a H x d r q t l es ∧ H e = some (.tup (evV ev)) ∧ evOk (keysT t) ev ∧ t.length + es.length ≤ 900 ∧ l.length + es.length ≤ 900 ∧
  ∀ H' d' r' q' t' l' es', (∀ b o, H b = some o → b ≠ x → b ≠ q → H' b = some o) → Old H d d' → Old H r r' → Old H q q' → StAt a H' x d' r' q' t' l' es' → (t', l', es') = (match ev with | .flush => ((runE (t, l) es).1, (runE (t, l) es).2, []) | _ => (t, l, es ++ [ev])) → Q .non H'
def spCurrent (a : Ads) : Sp := fun vs H Q _ => ∃ (x d r q : Addr) (t : Tb) (l : List Rc) (es : List Ev), vs = [.ref x] ∧ StAt a H x d r q t l es ∧ t.length + es.length ≤ 1000 ∧ l.length + es.length ≤ 1000 ∧
  ∀ H' d', Same H H' → H d' = none → H' d' = some (.dK (dv (runE (t, l) es).1)) → Q (.ref d') H'
def spLogS (a : Ads) : Sp := fun vs H Q _ => ∃ (x d r q : Addr) (t : Tb) (l : List Rc) (es : List Ev), vs = [.ref x] ∧ StAt a H x d r q t l es ∧ t.length + es.length ≤ 1000 ∧ l.length + es.length ≤ 1000 ∧
  ∀ H' r', Same H H' → H r' = none → LstAt rcV H' r' (runE (t, l) es).2 → Q (.ref r') H'
def spPending (a : Ads) : Sp := fun vs H Q _ => ∃ (x d r q : Addr) (t : Tb) (l : List Rc) (es : List Ev), vs = [.ref x] ∧ StAt a H x d r q t l es ∧ Q (.int (es.length : Nat)) H
def spStoreAt (a : Ads) : Sp := fun vs H Q _ => ∃ (d0 r0 : Addr) (t : Tb) (l : List Rc), vs = [.ref d0, .ref r0] ∧ H d0 = some (.dK (dv t)) ∧ LstAt rcV H r0 l ∧ t.length ≤ 1000 ∧ GoodT t ∧
  ∀ H' x d q, Same H H' → H x = none → StAt a H' x d r0 q t l [] → Q (.ref x) H'
def spRecov (a : Ads) : Sp := fun vs H Q _ => ∃ (x d r q : Addr) (t : Tb) (l : List Rc) (es : List Ev), vs = [.ref x] ∧ StAt a H x d r q t l es ∧ t.length + es.length ≤ 400 ∧ l.length + es.length ≤ 400 ∧ GoodT (undo (runE (t, l) es).1 (runE (t, l) es).2) ∧
  ∀ H' x' d' r' q', Same H H' → H x' = none → StAt a H' x' d' r' q' (undo (runE (t, l) es).1 (runE (t, l) es).2) [] [] → Q (.ref x') H'
theorem undo_len : ∀ (l : List Rc) (t : Tb), (l.foldl (fun t r => putT t r.1 r.2) t).length ≤ t.length + l.length
  | [], _ => Nat.le_refl _
  | r :: l, t => by
    have h1 := putT_len t r.1 r.2
    have h2 := undo_len l (putT t r.1 r.2)
    show (l.foldl _ (putT t r.1 r.2)).length ≤ _
    rw [List.length_cons]
    omega
section
variable {P : Program} {w : World} {K : PySem.W.Frag} {mg : Str → Option Value} {base : Heap} {a : Ads}
theorem sc_Store___init__ : FnScope ["self", "values"] ["self", "values"] (defScope s_Store___init__) := ⟨rfl, rfl, rfl, by decide +kernel, rfl, by decide +kernel, by decide +kernel⟩
theorem ok_Store___init__ (T : Txt K mg a) : FnOk P w K mg base CX0 4 a.f_Store___init__ a.f_Store___init___d ["self", "values"] (spInit a) := by
  refine T.F_Store___init__.ok sc_Store___init__ (fun vs H Q E h => ?_) (fun cdv A outer s H vs Q E hr h => ?_)
  · obtain ⟨x, dx, d0, t, rfl, _⟩ := h
    rfl
  obtain ⟨x, dx, d0, t, rfl, hx, hd, hl, hg, q⟩ := h
  refine ⟨_, (pss_cons (ps_if (pt_not (pt_val (pe_call (ok_are_values T) (hr.mono (by decide)) (by rfl) T.g_are_values T.F_are_values.kp T.b_are_values .nil pass0 (pa_cons (pv 1) pa_nil))))
      (pss_one ps_never)
      pss_nil)
    (pss_cons (ps_fld (pv 0) (pe_callTy call_dictD (by rfl) T.dict (by decide +kernel) (pa_cons (pv 1) pa_nil)) rfl)
    (pss_cons (ps_fld (pv 0) (pe_lst pa_nil) rfl)
    (pss_one (ps_fld (pv 0) (pe_lst pa_nil) rfl))))), ?_⟩
  refine ⟨_, rfl, d0, t, rfl, hd, hl, hg, fun H1 s1 => ⟨_, rfl, iteF ?_⟩⟩
  refine ⟨_, rfl, d0, _, rfl, .inl (s1 _ _ hd), fun D nD => ?_⟩
  have s2 := s1.trans (same_upd (o := .dK (dv t)) nD)
  have hD2 : (upd H1 D (.dK (dv t))) D = some (.dK (dv t)) := upd_same
  generalize (upd H1 D (.dK (dv t))) = H2 at s2 hD2 ⊢
  refine ⟨_, rfl, x, _, dx, _, rfl, s2 _ _ hx, T.cl_Store, T.n_Store__values, (by decide), ?_⟩
  have k3 : ∀ b o, H b = some o → b ≠ x → (upd H2 x (.ins a.c_Store dx (putF "_values" (.ref D) []))) b = some o := fun b o e n => by rw [upd_ne n]; exact s2 _ _ e
  have hx3 : (upd H2 x (.ins a.c_Store dx (putF "_values" (.ref D) []))) x = some (.ins a.c_Store dx (putF "_values" (.ref D) [])) := upd_same
  have hxD : D ≠ x := ne_of hD2 (s2 _ _ hx) (by intro z; cases z)
  have hD3 : (upd H2 x (.ins a.c_Store dx (putF "_values" (.ref D) []))) D = some (.dK (dv t)) := by rw [upd_ne hxD]; exact hD2
  show tSeq _ _ _ _ (upd H2 x (.ins a.c_Store dx (putF "_values" (.ref D) [])))
  generalize (upd H2 x (.ins a.c_Store dx (putF "_values" (.ref D) []))) = H3 at k3 hx3 hD3 ⊢
  refine ⟨(by show 0 ≤ sizeLine; decide), fun R nR => ?_⟩
  refine ⟨_, rfl, x, _, dx, _, rfl, same_upd nR _ _ hx3, T.cl_Store, T.n_Store__records, (by show 1 < 1000; decide), ?_⟩
  have hRx : R ≠ x := fun z => by rw [z, hx3] at nR; cases nR
  have hRD : D ≠ R := fun z => by rw [← z, hD3] at nR; cases nR
  have nR0 : H R = none := by
    cases z : H R with
    | none => rfl
    | some o => rw [k3 _ _ z hRx] at nR; cases nR
  have k4 : ∀ b o, H b = some o → b ≠ x → (upd (upd H3 R (.lst [])) x (.ins a.c_Store dx (putF "_records" (.ref R) (putF "_values" (.ref D) [])))) b = some o := fun b o e n => by
    rw [upd_ne n, upd_ne (ne_of_none e nR0)]; exact k3 _ _ e n
  have hx4 : (upd (upd H3 R (.lst [])) x (.ins a.c_Store dx (putF "_records" (.ref R) (putF "_values" (.ref D) [])))) x = some (.ins a.c_Store dx (putF "_records" (.ref R) (putF "_values" (.ref D) []))) := upd_same
  have hD4 : (upd (upd H3 R (.lst [])) x (.ins a.c_Store dx (putF "_records" (.ref R) (putF "_values" (.ref D) [])))) D = some (.dK (dv t)) := by rw [upd_ne hxD, upd_ne hRD]; exact hD3
  have hR4 : (upd (upd H3 R (.lst [])) x (.ins a.c_Store dx (putF "_records" (.ref R) (putF "_values" (.ref D) [])))) R = some (.lst []) := by rw [upd_ne hRx]; exact upd_same
  show tSeq _ _ _ _ (upd (upd H3 R (.lst [])) x (.ins a.c_Store dx (putF "_records" (.ref R) (putF "_values" (.ref D) []))))
  generalize (upd (upd H3 R (.lst [])) x (.ins a.c_Store dx (putF "_records" (.ref R) (putF "_values" (.ref D) [])))) = H4 at k4 hx4 hD4 hR4 ⊢
  refine ⟨(by show 0 ≤ sizeLine; decide), fun q1 nq => ?_⟩
  refine ⟨_, rfl, x, _, dx, _, rfl, same_upd nq _ _ hx4, T.cl_Store, T.n_Store__ahead, (by show 2 < 1000; decide), ?_⟩
  have hqx : q1 ≠ x := fun z => by rw [z, hx4] at nq; cases nq
  have hqD : D ≠ q1 := fun z => by rw [← z, hD4] at nq; cases nq
  have hqR : R ≠ q1 := fun z => by rw [← z, hR4] at nq; cases nq
  have nq0 : H q1 = none := by
    cases z : H q1 with
    | none => rfl
    | some o => rw [k4 _ _ z hqx] at nq; cases nq
  refine q _ D R q1 (fun b o e n => by rw [upd_ne n, upd_ne (ne_of_none e nq0)]; exact k4 _ _ e n) (s1.free nD) nR0 nq0 ⟨dx, upd_same, hqR, ?_, ⟨[], ?_, trivial⟩, ⟨[], ?_, trivial⟩⟩
  · rw [upd_ne hxD, upd_ne hqD]; exact hD4
  · rw [upd_ne hRx, upd_ne hqR]; exact hR4
  · rw [upd_ne hqx]; exact upd_same
theorem sc_Store_current : FnScope ["self", "values", "_"] ["self"] (defScope s_Store_current) := ⟨rfl, rfl, rfl, by decide +kernel, rfl, by decide +kernel, by decide +kernel⟩
theorem ok_Store_current (T : Txt K mg a) : FnOk P w K mg base CX0 2 a.f_Store_current a.f_Store_current_d ["self"] (spCurrent a) := by
  refine T.F_Store_current.ok sc_Store_current (fun vs H Q E h => ?_) (fun cdv A outer s H vs Q E hr h => ?_)
  · obtain ⟨x, d, r, q, t, l, es, rfl, _⟩ := h
    rfl
  obtain ⟨x, d, r, qa, t, l, es, rfl, ⟨dx, hx, hrq, hd, hR, hE⟩, hb1, hb2, q⟩ := h
  refine ⟨_, (pss_cons (ps_asg (pe_call (ok_behind T) (hr.mono (by decide)) (by rfl) T.g_behind T.F_behind.kp T.b_behind .nil pass0 (pa_cons (pe_fld (pv 0) rfl) (pa_cons (pe_fld (pv 0) rfl) (pa_cons (pe_fld (pv 0) rfl) pa_nil)))) (pg_tup (by rfl) (pgs_cons (pg_name (i := 1) sc_Store_current.nd rfl (Or.inl rfl)) (pgs_cons (pg_name (i := 2) sc_Store_current.nd rfl (Or.inl rfl)) pgs_nil))))
    (pss_one (ps_ret (pv 1)))), ?_⟩
  refine ⟨_, rfl, x, _, dx, _, _, rfl, hx, T.cl_Store, T.n_Store__values, rfl, _, rfl, x, _, dx, _, _, rfl, hx, T.cl_Store, T.n_Store__records, rfl, _, rfl, x, _, dx, _, _, rfl, hx, T.cl_Store, T.n_Store__ahead, rfl, ?_⟩
  refine ⟨d, r, qa, t, l, es, rfl, hd, hR, hE, hb1, hb2, fun H1 c d' r' s1 hc nd nr hd' hr' => ?_⟩
  refine ⟨c, _, rfl, SqT.of hc, rfl, _, _, rfl, _, _, rfl, rfl, ?_⟩
  exact ⟨_, rfl, q H1 d' s1 nd hd'⟩
theorem sc_Store_log : FnScope ["self", "_", "records"] ["self"] (defScope s_Store_log) := ⟨rfl, rfl, rfl, by decide +kernel, rfl, by decide +kernel, by decide +kernel⟩
theorem ok_Store_log (T : Txt K mg a) : FnOk P w K mg base CX0 2 a.f_Store_log a.f_Store_log_d ["self"] (spLogS a) := by
  refine T.F_Store_log.ok sc_Store_log (fun vs H Q E h => ?_) (fun cdv A outer s H vs Q E hr h => ?_)
  · obtain ⟨x, d, r, q, t, l, es, rfl, _⟩ := h
    rfl
  obtain ⟨x, d, r, qa, t, l, es, rfl, ⟨dx, hx, hrq, hd, hR, hE⟩, hb1, hb2, q⟩ := h
  refine ⟨_, (pss_cons (ps_asg (pe_call (ok_behind T) (hr.mono (by decide)) (by rfl) T.g_behind T.F_behind.kp T.b_behind .nil pass0 (pa_cons (pe_fld (pv 0) rfl) (pa_cons (pe_fld (pv 0) rfl) (pa_cons (pe_fld (pv 0) rfl) pa_nil)))) (pg_tup (by rfl) (pgs_cons (pg_name (i := 1) sc_Store_log.nd rfl (Or.inl rfl)) (pgs_cons (pg_name (i := 2) sc_Store_log.nd rfl (Or.inl rfl)) pgs_nil))))
    (pss_one (ps_ret (pv 2)))), ?_⟩
  refine ⟨_, rfl, x, _, dx, _, _, rfl, hx, T.cl_Store, T.n_Store__values, rfl, _, rfl, x, _, dx, _, _, rfl, hx, T.cl_Store, T.n_Store__records, rfl, _, rfl, x, _, dx, _, _, rfl, hx, T.cl_Store, T.n_Store__ahead, rfl, ?_⟩
  refine ⟨d, r, qa, t, l, es, rfl, hd, hR, hE, hb1, hb2, fun H1 c d' r' s1 hc nd nr hd' hr' => ?_⟩
  refine ⟨c, _, rfl, SqT.of hc, rfl, _, _, rfl, _, _, rfl, rfl, ?_⟩
  exact ⟨_, rfl, q H1 r' s1 nr hr'⟩
theorem sc_Store_pending : FnScope ["self"] ["self"] (defScope s_Store_pending) := ⟨rfl, rfl, rfl, by decide +kernel, rfl, by decide +kernel, by decide +kernel⟩
theorem ok_Store_pending (T : Txt K mg a) : FnOk P w K mg base CX0 1 a.f_Store_pending a.f_Store_pending_d ["self"] (spPending a) := by
  refine T.F_Store_pending.ok sc_Store_pending (fun vs H Q E h => ?_) (fun cdv A outer s H vs Q E hr h => ?_)
  · obtain ⟨x, d, r, q, t, l, es, rfl, _⟩ := h
    rfl
  obtain ⟨x, d, r, qa, t, l, es, rfl, ⟨dx, hx, hrq, hd, hR, bs, hE, hEt⟩, q⟩ := h
  refine ⟨_, (pss_one (ps_ret (pe_callB call_len_seq (by rfl) T.len PySem.boot_len (pa_cons (pe_fld (pv 0) rfl) pa_nil)))), ?_⟩
  refine ⟨_, rfl, x, _, dx, _, _, rfl, hx, T.cl_Store, T.n_Store__ahead, rfl, qa, _, rfl, .inl (SqL.of hE), ?_⟩
  rw [List.length_map, hEt.len]
  exact q
theorem sc_Store_perform : FnScope ["self", "event"] ["self", "event"] (defScope s_Store_perform) := ⟨rfl, rfl, rfl, by decide +kernel, rfl, by decide +kernel, by decide +kernel⟩
theorem ok_Store_perform (T : Txt K mg a) : FnOk P w K mg base CX0 3 a.f_Store_perform a.f_Store_perform_d ["self", "event"] (spPerform a) := by
  refine T.F_Store_perform.ok sc_Store_perform (fun vs H Q E h => ?_) (fun cdv A outer s H vs Q E hr h => ?_)
  · obtain ⟨x, d, r, q, e, t, l, es, ev, rfl, _⟩ := h
    rfl
  obtain ⟨x, d, r, qa, e, t, l, es, ev, rfl, ⟨dx, hx, hrq, hd, hR, hE⟩, he, hk, hb1, hb2, q⟩ := h
  refine ⟨_, (pss_cons (ps_if (pt_not (pt_val (pe_call (ok_is_event T) (hr.mono (by decide)) (by rfl) T.g_is_event T.F_is_event.kp T.b_is_event .nil pass0 (pa_cons (pv 1) (pa_cons (pe_fld (pv 0) rfl) pa_nil)))))
      (pss_one ps_never)
      pss_nil)
    (pss_cons (ps_expr (pe_bm PySem.F.plainAttrs_list PySem.F.slot_list_append PySem.F.type_list_append mt_append (pe_fld (pv 0) rfl) (pa_cons (pv 1) pa_nil)))
    (pss_one (ps_if (pt_cmpR op_eq (pe_ix ix_tup (pv 1) pe_int (fun _ _ => rfl)) pe_str (nomark _))
      (pss_cons (ps_asg (pe_call (ok_behind T) (hr.mono (by decide)) (by rfl) T.g_behind T.F_behind.kp T.b_behind .nil pass0 (pa_cons (pe_fld (pv 0) rfl) (pa_cons (pe_fld (pv 0) rfl) (pa_cons (pe_fld (pv 0) rfl) pa_nil)))) (pg_tup (by rfl) (pgs_cons (pg_fld (pv 0)) (pgs_cons (pg_fld (pv 0)) pgs_nil))))
      (pss_one (ps_fld (pv 0) (pe_lst pa_nil) rfl)))
      pss_nil)))), ?_⟩
  refine ⟨_, rfl, _, rfl, x, _, dx, _, _, rfl, hx, T.cl_Store, T.n_Store__values, rfl, e, d, ev, t, rfl, he, hd, hk, fun H1 s1 => ⟨_, rfl, iteF ?_⟩⟩
  obtain ⟨bs, hq, hEt⟩ := hE
  have hx1 := s1 _ _ hx
  have hq1 := s1 _ _ hq
  have hlen := hEt.len
  refine ⟨_, rfl, x, _, dx, _, _, rfl, hx1, T.cl_Store, T.n_Store__ahead, rfl, .inl ⟨rfl, _, SqL.of hq1⟩, _, rfl, qa, _, _, rfl, rfl, hq1, ?_, ?_⟩
  · rw [List.length_map]
    exact bigLine (by omega)
  have k2 : ∀ b o, H b = some o → b ≠ x → b ≠ qa → (upd H1 qa (.lst (bs.map V.ref ++ [.ref e]))) b = some o := fun b o z n m => by rw [upd_ne m]; exact s1 _ _ z
  have hxq : x ≠ qa := ne_of hx hq (by intro z; cases z)
  have hx2 : (upd H1 qa (.lst (bs.map V.ref ++ [.ref e]))) x = some (.ins a.c_Store dx [("_values", .ref d), ("_records", .ref r), ("_ahead", .ref qa)]) := by rw [upd_ne hxq]; exact hx1
  have hd2 : (upd H1 qa (.lst (bs.map V.ref ++ [.ref e]))) d = some (.dK (dv t)) := by rw [upd_ne (ne_of hd hq (by intro z; cases z))]; exact s1 _ _ hd
  have off := tup_off (H := H1) (o := .lst (bs.map V.ref ++ [.ref e])) hq1 (by intro xs z; cases z)
  have hE2 : LstAt evV (upd H1 qa (.lst (bs.map V.ref ++ [.ref e]))) qa (es ++ [ev]) := ⟨bs ++ [e], by rw [upd_same, List.map_append]; rfl, ((hEt.same s1).imp off).app (off _ _ (s1 _ _ he))⟩
  have he2 := off _ _ (s1 _ _ he)
  have hR2 : LstAt rcV (upd H1 qa (.lst (bs.map V.ref ++ [.ref e]))) r l := (hR.same s1).imp off (upd_ne hrq)
  show tSeq _ _ _ _ (upd H1 qa (.lst (bs.map V.ref ++ [.ref e])))
  generalize (upd H1 qa (.lst (bs.map V.ref ++ [.ref e]))) = H2 at k2 hx2 hd2 hE2 he2 hR2 ⊢
  cases ev with
  | log n v =>
    refine ⟨_, rfl, e, _, _, _, rfl, rfl, SqT.of he2, atI_nat (j := 0) rfl, rfl, _, rfl, ite2 (no_b ev_lf) (fun _ => ?_)⟩
    exact q H2 d r qa t l _ k2 (.inl rfl) (.inl rfl) (.inl rfl) ⟨dx, hx2, hrq, hd2, hR2, hE2⟩ rfl
  | write n v =>
    refine ⟨_, rfl, e, _, _, _, rfl, rfl, SqT.of he2, atI_nat (j := 0) rfl, rfl, _, rfl, ite2 (no_b ev_wf) (fun _ => ?_)⟩
    exact q H2 d r qa t l _ k2 (.inl rfl) (.inl rfl) (.inl rfl) ⟨dx, hx2, hrq, hd2, hR2, hE2⟩ rfl
  | clear =>
    refine ⟨_, rfl, e, _, _, _, rfl, rfl, SqT.of he2, atI_nat (j := 0) rfl, rfl, _, rfl, ite2 (no_b ev_cf) (fun _ => ?_)⟩
    exact q H2 d r qa t l _ k2 (.inl rfl) (.inl rfl) (.inl rfl) ⟨dx, hx2, hrq, hd2, hR2, hE2⟩ rfl
  | flush =>
    refine ⟨_, rfl, e, _, _, _, rfl, rfl, SqT.of he2, atI_nat (j := 0) rfl, rfl, _, rfl, ite2 (fun _ => ?_) (yes_b (decide_eq_true rfl))⟩
    refine ⟨_, rfl, x, _, dx, _, _, rfl, hx2, T.cl_Store, T.n_Store__values, rfl, _, rfl, x, _, dx, _, _, rfl, hx2, T.cl_Store, T.n_Store__records, rfl, _, rfl, x, _, dx, _, _, rfl, hx2, T.cl_Store, T.n_Store__ahead, rfl, ?_⟩
    have hl9 : (es ++ [Ev.flush]).length = es.length + 1 := by rw [List.length_append]; rfl
    refine ⟨d, r, qa, t, l, es ++ [.flush], rfl, hd2, hR2, hE2, by omega, by omega, fun H3 c d' r' s3 hc nd nr hd' hr' => ?_⟩
    have fr : ∀ {b : Addr}, H2 b = none → b ≠ x → b ≠ qa → H b = none := fun {b} z n m => by
      cases y : H b with
      | none => rfl
      | some o => rw [k2 _ _ y n m] at z; cases z
    have ndx : d' ≠ x := fun z => by rw [z, hx2] at nd; cases nd
    have nrx : r' ≠ x := fun z => by rw [z, hx2] at nr; cases nr
    obtain ⟨es', hqe, _⟩ := hE2
    have ndq : d' ≠ qa := fun z => by rw [z, hqe] at nd; cases nd
    have nrq : r' ≠ qa := fun z => by rw [z, hqe] at nr; cases nr
    have erun : runE (t, l) (es ++ [.flush]) = runE (t, l) es := runE_snoc _ _ _
    rw [erun] at hd' hr'
    have k3 : ∀ b o, H b = some o → b ≠ x → b ≠ qa → H3 b = some o := fun b o z n m => s3 _ _ (k2 b o z n m)
    have hx3 := s3 _ _ hx2
    refine ⟨c, _, rfl, SqT.of hc, rfl, _, _, rfl, _, rfl, x, _, dx, _, rfl, hx3, T.cl_Store, T.n_Store__values, (by show 3 < 1000; decide), ?_⟩
    refine ⟨_, _, rfl, _, rfl, x, _, dx, _, rfl, upd_same, T.cl_Store, T.n_Store__records, (by show 3 < 1000; decide), rfl, ?_⟩
    have k4 : ∀ b o, H b = some o → b ≠ x → b ≠ qa → (upd (upd H3 x (.ins a.c_Store dx (putF "_values" (.ref d') [("_values", .ref d), ("_records", .ref r), ("_ahead", .ref qa)]))) x (.ins a.c_Store dx (putF "_records" (.ref r') (putF "_values" (.ref d') [("_values", .ref d), ("_records", .ref r), ("_ahead", .ref qa)])))) b = some o := fun b o z n m => by
      rw [upd_ne n, upd_ne n]; exact k3 b o z n m
    have offx := tup_off (H := H3) (o := .ins a.c_Store dx (putF "_values" (.ref d') [("_values", .ref d), ("_records", .ref r), ("_ahead", .ref qa)])) hx3 (by intro xs z; cases z)
    have offy := tup_off (H := upd H3 x (.ins a.c_Store dx (putF "_values" (.ref d') [("_values", .ref d), ("_records", .ref r), ("_ahead", .ref qa)]))) (o := .ins a.c_Store dx (putF "_records" (.ref r') (putF "_values" (.ref d') [("_values", .ref d), ("_records", .ref r), ("_ahead", .ref qa)]))) upd_same (by intro xs z; cases z)
    have hd4 : (upd (upd H3 x (.ins a.c_Store dx (putF "_values" (.ref d') [("_values", .ref d), ("_records", .ref r), ("_ahead", .ref qa)]))) x (.ins a.c_Store dx (putF "_records" (.ref r') (putF "_values" (.ref d') [("_values", .ref d), ("_records", .ref r), ("_ahead", .ref qa)])))) d' = some (.dK (dv (runE (t, l) es).1)) := by rw [upd_ne ndx, upd_ne ndx]; exact hd'
    have hr4 : LstAt rcV (upd (upd H3 x (.ins a.c_Store dx (putF "_values" (.ref d') [("_values", .ref d), ("_records", .ref r), ("_ahead", .ref qa)]))) x (.ins a.c_Store dx (putF "_records" (.ref r') (putF "_values" (.ref d') [("_values", .ref d), ("_records", .ref r), ("_ahead", .ref qa)])))) r' (runE (t, l) es).2 := (hr'.imp offx (upd_ne nrx)).imp offy (upd_ne nrx)
    have hx4 : (upd (upd H3 x (.ins a.c_Store dx (putF "_values" (.ref d') [("_values", .ref d), ("_records", .ref r), ("_ahead", .ref qa)]))) x (.ins a.c_Store dx (putF "_records" (.ref r') (putF "_values" (.ref d') [("_values", .ref d), ("_records", .ref r), ("_ahead", .ref qa)])))) x = some (.ins a.c_Store dx [("_values", .ref d'), ("_records", .ref r'), ("_ahead", .ref qa)]) := upd_same
    show tSeq _ _ _ _ (upd (upd H3 x (.ins a.c_Store dx (putF "_values" (.ref d') [("_values", .ref d), ("_records", .ref r), ("_ahead", .ref qa)]))) x (.ins a.c_Store dx (putF "_records" (.ref r') (putF "_values" (.ref d') [("_values", .ref d), ("_records", .ref r), ("_ahead", .ref qa)]))))
    generalize (upd (upd H3 x (.ins a.c_Store dx (putF "_values" (.ref d') [("_values", .ref d), ("_records", .ref r), ("_ahead", .ref qa)]))) x (.ins a.c_Store dx (putF "_records" (.ref r') (putF "_values" (.ref d') [("_values", .ref d), ("_records", .ref r), ("_ahead", .ref qa)])))) = H4 at k4 hd4 hr4 hx4 ⊢
    refine ⟨(by show 0 ≤ sizeLine; decide), fun q1 nq1 => ?_⟩
    have nqx : q1 ≠ x := fun z => by rw [z, hx4] at nq1; cases nq1
    refine ⟨_, rfl, x, _, dx, _, rfl, same_upd nq1 _ _ hx4, T.cl_Store, T.n_Store__ahead, (by show 3 < 1000; decide), ?_⟩
    have nqr : r' ≠ q1 := fun z => by
      obtain ⟨as', hra, _⟩ := hr4
      rw [← z, hra] at nq1
      cases nq1
    have nq0 : Old H qa q1 := by
      by_cases z : q1 = qa
      · exact .inl z
      · refine .inr ?_
        cases y : H q1 with
        | none => rfl
        | some o => rw [k4 _ _ y nqx z] at nq1; cases nq1
    have hxn : (upd H4 q1 (.lst [])) x = some (.ins a.c_Store dx [("_values", .ref d'), ("_records", .ref r'), ("_ahead", .ref qa)]) := same_upd nq1 _ _ hx4
    refine q _ d' r' q1 (runE (t, l) es).1 (runE (t, l) es).2 [] (fun b o z n m => ?_) (.inr (fr nd ndx ndq)) (.inr (fr nr nrx nrq)) nq0 ⟨dx, upd_same, nqr, ?_, ?_, [], ?_, trivial⟩ rfl
    · rw [upd_ne n]
      exact same_upd nq1 _ _ (k4 b o z n m)
    · rw [upd_ne ndx]
      exact same_upd nq1 _ _ hd4
    · exact (hr4.same (same_upd nq1)).imp (tup_off hxn (by intro xs z; cases z)) (upd_ne nrx)
    · rw [upd_ne nqx]
      exact upd_same
theorem sc_store_at : FnScope ["values", "records", "store"] ["values", "records"] (defScope s_store_at) := ⟨rfl, rfl, rfl, by decide +kernel, rfl, by decide +kernel, by decide +kernel⟩
theorem ok_store_at (T : Txt K mg a) : FnOk P w K mg base CX0 6 a.f_store_at a.f_store_at_d ["values", "records"] (spStoreAt a) := by
  refine T.F_store_at.ok sc_store_at (fun vs H Q E h => ?_) (fun cdv A outer s H vs Q E hr h => ?_)
  · obtain ⟨d0, r0, t, l, rfl, _⟩ := h
    rfl
  obtain ⟨d0, r0, t, l, rfl, hd, hR, hl, hg, q⟩ := h
  refine ⟨_, (pss_cons (ps_set (i := 2) sc_store_at.nd rfl (Or.inl rfl) (pe_make T.mk_Store (ok_Store___init__ T) (hr.mono (by decide)) (by rfl) T.mg_Store T.b_Store___init__ .nil pass0 (pa_cons (pv 0) pa_nil)))
    (pss_cons (ps_fld (pv 2) (pv 1) rfl)
    (pss_one (ps_ret (pv 2))))), ?_⟩
  refine ⟨_, rfl, ?_⟩
  intro x dx nx nd hne
  have s1 : Same H (upd (upd H dx (.own x)) x (.ins a.c_Store dx [])) := (same_upd nd).trans (same_upd (by rw [upd_ne (Ne.symm hne)]; exact nx))
  refine ⟨x, dx, d0, t, rfl, upd_same, s1 _ _ hd, hl, hg, fun H2 d r q1 k2 nd2 nr2 nq2 hS => ⟨rfl, ?_⟩⟩
  obtain ⟨dx2, hx, hrq, hd2, hR2, hE2⟩ := hS
  have k0 : ∀ b o, H b = some o → H2 b = some o := fun b o e => k2 b o (s1 _ _ e) (ne_of_none e nx)
  refine ⟨_, rfl, _, rfl, x, _, dx2, _, rfl, hx, T.cl_Store, T.n_Store__records, (by show 3 < 1000; decide), ?_⟩
  have hr0 : r0 ≠ x := by
    obtain ⟨as, h, _⟩ := hR
    exact ne_of_none h nx
  have hrq1 : r0 ≠ q1 := by
    obtain ⟨as, h, _⟩ := hR
    exact ne_of_none (s1 _ _ h) nq2
  have off := tup_off (H := H2) (o := .ins a.c_Store dx2 (putF "_records" (.ref r0) [("_values", .ref d), ("_records", .ref r), ("_ahead", .ref q1)])) hx (by intro xs z; cases z)
  have hqx : q1 ≠ x := by
    obtain ⟨as, h, _⟩ := hE2
    exact ne_of h hx (by intro z; cases z)
  refine ⟨_, rfl, q _ x d q1 (fun b o e => by rw [upd_ne (ne_of_none e nx)]; exact k0 b o e) nx ⟨dx2, upd_same, hrq1, ?_, ?_, hE2.imp off (upd_ne hqx)⟩⟩
  · rw [upd_ne (ne_of hd2 hx (by intro z; cases z))]
    exact hd2
  · obtain ⟨as, h, ht⟩ := hR
    exact ⟨as, by rw [upd_ne hr0]; exact k0 _ _ h, (ht.same k0).imp off⟩
theorem sc_Store_recovered : FnScope ["self"] ["self"] (defScope s_Store_recovered) := ⟨rfl, rfl, rfl, by decide +kernel, rfl, by decide +kernel, by decide +kernel⟩
theorem ok_Store_recovered (T : Txt K mg a) : FnOk P w K mg base CX0 7 a.f_Store_recovered a.f_Store_recovered_d ["self"] (spRecov a) := by
  refine T.F_Store_recovered.ok sc_Store_recovered (fun vs H Q E h => ?_) (fun cdv A outer s H vs Q E hr h => ?_)
  · obtain ⟨x, d, r, q, t, l, es, rfl, _⟩ := h
    rfl
  obtain ⟨x, d, r, qa, t, l, es, rfl, hS, hb1, hb2, hg, q⟩ := h
  refine ⟨_, (pss_one (ps_ret (pe_call (ok_store_at T) (hr.mono (by decide)) (by rfl) T.g_store_at T.F_store_at.kp T.b_store_at .nil pass0 (pa_cons (pe_call (ok_undone_by_log T) (hr.mono (by decide)) (by rfl) T.g_undone_by_log T.F_undone_by_log.kp T.b_undone_by_log .nil pass0 (pa_cons (pe_meth0 (pv 0) T.cl_Store T.m_Store_current (ok_Store_current T) (hr.mono (by decide)) T.b_Store_current .nil pass0) (pa_cons (pe_meth0 (pv 0) T.cl_Store T.m_Store_log (ok_Store_log T) (hr.mono (by decide)) T.b_Store_log .nil pass0) pa_nil))) (pa_cons (pe_lst pa_nil) pa_nil))))), ?_⟩
  have hlg := runE_log es (t, l)
  have htb := runE_tab es (t, l)
  have e1 : (t, l).2.length = l.length := rfl
  have e2 : (t, l).1.length = t.length := rfl
  have hul := undo_len (runE (t, l) es).2.reverse (runE (t, l) es).1
  rw [List.length_reverse] at hul
  obtain ⟨dx, hx, _⟩ := id hS
  refine ⟨_, rfl, x, dx, _, rfl, hx, rfl, x, d, r, qa, t, l, es, rfl, hS, by omega, by omega, fun H1 d1 s1 nd1 hd1 => ?_⟩
  refine ⟨_, rfl, x, dx, _, rfl, s1 _ _ hx, rfl, x, d, r, qa, t, l, es, rfl, hS.same s1, by omega, by omega, fun H2 r1 s2 nr1 hr1 => ?_⟩
  refine ⟨d1, r1, _, _, rfl, s2 _ _ hd1, hr1, by omega, fun H3 d2 s3 nd2 hd2 => ?_⟩
  refine ⟨(by show 0 ≤ sizeLine; decide), fun r2 nr2 => ?_⟩
  have s123 := (s1.trans s2).trans s3
  refine ⟨d2, r2, _, [], rfl, same_upd nr2 _ _ hd2, ⟨[], upd_same, trivial⟩, ?_, hg, fun H4 x' d' q' s4 nx' hS' => ?_⟩
  · show (undo _ _).length ≤ 1000
    unfold undo
    omega
  · exact q H4 x' d' r2 q' (s123.trans ((same_upd nr2).trans s4)) ((s123.trans (same_upd nr2)).free nx') hS'
end
end K26
namespace K26
open PySem PySem.Spec PyProof.Rows L2 TL
/-- a pool at p, its cells at l, at most n draws so far -/
structure PoolAt (H : Hp) (p l : Addr) (n : Int) : Prop where
  ne : p ≠ l
  ex : ∃ (cs : List Int) (ix cnt seed ph : Int), H p = some (.lst [.ref l, .int ix, .int cnt, .int seed, .int ph, .int 30]) ∧ H l = some (.lst (cs.map V.int)) ∧
    0 ≤ ix ∧ 0 ≤ cnt ∧ cnt ≤ n ∧ 0 ≤ seed ∧ seed < 2147483647 ∧ cs.length ≤ 63
theorem PoolAt.keep {H H' : Hp} {p l : Addr} {n : Int} (P : PoolAt H p l n) (hp : H' p = H p) (hl : H' l = H l) : PoolAt H' p l n := by
  obtain ⟨ne, cs, ix, cnt, seed, ph, h1, h2, r⟩ := P
  exact ⟨ne, cs, ix, cnt, seed, ph, by rw [hp]; exact h1, by rw [hl]; exact h2, r⟩
theorem PoolAt.same {H H' : Hp} {p l : Addr} {n : Int} (P : PoolAt H p l n) (s : Same H H') : PoolAt H' p l n := by
  obtain ⟨ne, cs, ix, cnt, seed, ph, h1, h2, r⟩ := P
  exact ⟨ne, cs, ix, cnt, seed, ph, s _ _ h1, s _ _ h2, r⟩
def spPool (K : PySem.W.Frag) : Sp := fun vs H Q _ => ∃ (a : Addr) (ns : List Int), vs = [.ref a] ∧ SqL K H a (ns.map V.int) ∧ ns.length ≤ 63 ∧
  ∀ H' p l, Same H H' → H p = none → H l = none → PoolAt H' p l 0 → Q (.ref p) H'
def spMixed : Sp := fun vs H Q _ => ∃ (a c m : Int), vs = [.int a, .int c, .int m] ∧ 0 ≤ a ∧ a < 2147483647 ∧ 0 ≤ c ∧ c ≤ 1099511627776 ∧ 0 < m ∧
  ∀ r : Int, 0 ≤ r → r < m → Q (.int r) H
def spDraw : Sp := fun vs H Q _ => ∃ (p l : Addr) (n m : Int), vs = [.ref p, .int m] ∧ PoolAt H p l n ∧ n < 1099511627776 ∧ 0 < m ∧ m.natAbs.log2 < 9000 ∧
  ∀ (r : Int) (H' : Hp), 0 ≤ r → r < m → PoolAt H' p l (n + 1) → (∀ b, b ≠ p → b ≠ l → H' b = H b) → Q (.int r) H'
theorem ixN_at {n j : Nat} (hj : j < n) : ixN n (j : Int) = some j := by
  unfold ixN
  rw [if_pos (by omega), if_pos (by omega)]
  exact congrArg some (by omega)
def numT (i : Int) : Str := Str.ofString (toString i)
theorem numT_len {i : Int} (h0 : 0 ≤ i) (h : i < 1000000000000000000) : (numT i).length ≤ 18 := by
  obtain ⟨n, rfl⟩ : ∃ n : Nat, i = (n : Int) := ⟨i.toNat, by omega⟩
  unfold numT
  rw [len_tl, tl_num]
  exact numL_len (by decide) (by have e : (10 : Nat) ^ 18 = 1000000000000000000 := by decide
                                 rw [e]; omega)
theorem log_ok {i : Int} (h0 : 0 ≤ i) (h : i < 1000000000000000000) : i.natAbs.log2 < 1920 := by
  by_cases hz : i.natAbs = 0
  · rw [hz]
    decide
  · have e : (2 : Nat) ^ 60 = 1152921504606846976 := by decide
    have := (Nat.log2_lt (n := i.natAbs) (k := 60) hz).mpr (by rw [e]; omega)
    omega
theorem PoolAt.mono {H : Hp} {p l : Addr} {n m : Int} (P : PoolAt H p l n) (h : n ≤ m) : PoolAt H p l m := by
  obtain ⟨ne, cs, ix, cnt, seed, ph, h1, h2, a, b, c, d⟩ := P
  exact ⟨ne, cs, ix, cnt, seed, ph, h1, h2, a, b, by omega, d⟩
theorem PoolAt.off {H : Hp} {p l k : Addr} {n : Int} (P : PoolAt H p l n) (h : H k = none) : k ≠ p ∧ k ≠ l := by
  obtain ⟨_, cs, ix, cnt, seed, ph, e1, e2, _⟩ := P
  refine ⟨fun e => ?_, fun e => ?_⟩
  · rw [e, e1] at h
    cases h
  · rw [e, e2] at h
    cases h
/-- all but the pool stands -/
def Keep (p l : Addr) (H H' : Hp) : Prop := ∀ b x, H b = some x → b ≠ p → b ≠ l → H' b = some x
theorem Keep.refl (p l : Addr) (H : Hp) : Keep p l H H := fun _ _ h _ _ => h
theorem Keep.trans {p l : Addr} {H H1 H2 : Hp} (a : Keep p l H H1) (b : Keep p l H1 H2) : Keep p l H H2 := fun c x h n m => b c x (a c x h n m) n m
theorem Keep.of {p l : Addr} {H H1 : Hp} (s : Same H H1) : Keep p l H H1 := fun c x h _ _ => s c x h
theorem Keep.draw {p l : Addr} {H H1 : Hp} (f : ∀ b, b ≠ p → b ≠ l → H1 b = H b) : Keep p l H H1 := fun b x e n m => by
  rw [f b n m]
  exact e
theorem Keep.mut {p l : Addr} {H H1 : Hp} {q : Addr} {u : HO} (s : Keep p l H H1) (h : H q = none) : Keep p l H (upd H1 q u) := fun b x e n m => by
  rw [upd_ne (ne_of_none e h)]
  exact s _ _ e n m
theorem Keep.free {p l : Addr} {H H' : Hp} (e : Keep p l H H') {q : Addr} (h : H' q = none) (n : q ≠ p) (m : q ≠ l) : H q = none := by
  cases r : H q with
  | none => rfl
  | some x =>
    rw [e q x r n m] at h
    cases h
theorem atI_ex {α : Type} {xs : List α} {r : Int} (h0 : 0 ≤ r) (h1 : r < xs.length) : ∃ c, atI xs r = some c ∧ c ∈ xs := by
  obtain ⟨j, rfl⟩ : ∃ j : Nat, r = (j : Int) := ⟨r.toNat, by omega⟩
  have hj : j < xs.length := by omega
  exact ⟨xs[j], atI_nat (List.getElem?_eq_getElem hj), List.getElem_mem hj⟩
theorem log_small {m : Int} (h0 : 0 < m) (h : m < 1152921504606846976) : m.natAbs.log2 < 9000 := by
  have e : (2:Nat) ^ 60 = 1152921504606846976 := by decide
  have : m.natAbs.log2 < 60 := (Nat.log2_lt (by omega)).mpr (by rw [e]; omega)
  omega
def nameL (c : Nat) (s : Int) (k : Nat) : Str := (⟨#[c]⟩ : Str) ++ numT ((7 * ((0 : Int) + (k : Int)) + s) % 16)
def namesL (c : Nat) (s : Int) : List Str := (List.range 16).map (nameL c s)
def spNames : Sp := fun vs H Q _ => ∃ (p l : Addr) (n : Int), vs = [.ref p] ∧ PoolAt H p l n ∧ n < 1099511627000 ∧
  ∀ (H' : Hp) (q : Addr) (c : Nat) (s : Int), PoolAt H' p l (n + 2) → Keep p l H H' → q ≠ p → q ≠ l → H q = none → c ∈ tl LET → 0 ≤ s → s < 16 → H' q = some (.lst ((namesL c s).map V.str)) → Q (.ref q) H'
section
variable {P : Program} {w : World} {K : PySem.W.Frag} {mg : Str → Option Value} {base : Heap} {a : Ads}
theorem sc__law_mixed : FnScope ["_law_number", "_law_count", "_law_many"] ["_law_number", "_law_count", "_law_many"] (defScope s__law_mixed) := ⟨rfl, rfl, rfl, by decide +kernel, rfl, by decide +kernel, by decide +kernel⟩
theorem ok__law_mixed (T : Txt K mg a) : FnOk P w K mg base CX0 1 a.f__law_mixed a.f__law_mixed_d ["_law_number", "_law_count", "_law_many"] spMixed := by
  refine T.F__law_mixed.ok sc__law_mixed (fun vs H Q E h => ?_) (fun cdv A outer s H vs Q E hr h => ?_)
  · obtain ⟨x, c, m, rfl, _⟩ := h
    rfl
  obtain ⟨x, c, m, rfl, ha0, ha1, hc0, hc1, hm, q⟩ := h
  refine ⟨_, (pss_one (ps_ret (pe_op op_mod (pe_op op_fdiv (pe_callTy call_int1 (by rfl) T.int (by decide +kernel) (pa_cons (pe_op op_mod (pe_op op_pow (pe_callTy call_int1 (by rfl) T.int (by decide +kernel) (pa_cons (pe_op op_add (pv 0) (pe_op op_mul pe_int (pv 1))) pa_nil)) pe_int) pe_int) pa_nil)) pe_int) (pv 2)))), ?_⟩
  refine ⟨_, rfl, _, rfl, _, _, rfl, rfl, .inl ⟨by decide, by decide⟩, _, _, rfl, rfl, .inl ⟨_, rfl, ?_⟩⟩
  refine ⟨_, _, rfl, rfl, ⟨by decide, by decide, by omega⟩, _, _, rfl, rfl, (by show (0 : Int) < 2147483647; decide), .inl ⟨_, rfl, ?_⟩⟩
  refine ⟨_, _, rfl, rfl, ⟨by decide, by decide⟩, _, rfl, _, _, rfl, rfl, hm, ?_⟩
  exact q _ (Int.emod_nonneg _ (by omega)) (Int.emod_lt_of_pos _ hm)
theorem sc__law_pool : FnScope ["_law_script", "_law_cells", "_law_seed", "_law_cell"] ["_law_script"] (defScope s__law_pool) := ⟨rfl, rfl, rfl, by decide +kernel, rfl, by decide +kernel, by decide +kernel⟩
theorem ok__law_pool (T : Txt K mg a) : FnOk P w K mg base CX0 1 a.f__law_pool a.f__law_pool_d ["_law_script"] (spPool K) := by
  refine T.F__law_pool.ok sc__law_pool (fun vs H Q E h => ?_) (fun cdv A outer s H vs Q E hr h => ?_)
  · obtain ⟨a, ns, rfl, _⟩ := h
    rfl
  obtain ⟨a, ns, rfl, hS, hlen, q⟩ := h
  refine ⟨_, (pss_cons (ps_setLc (i := 1) (own := [("_law_cell", 3)]) (g := gName 3) (tt := tYes) (by rfl) sc__law_pool.nd rfl rfl (sw_true rfl rfl rfl (by decide +kernel)) (pi_list (pe_slice sl_list (pv 0) po_none (po_some pe_int))) (blkOk_by (own := [("_law_cell", 3)]) (N := ["_law_script", "_law_cells", "_law_seed", "_law_cell"]) (sc := defScope s__law_pool) (by decide +kernel)) (fun _ _ _ _ _ => pg_name (i := 3) sc__law_pool.nd rfl (Or.inl rfl)) (fun _ _ _ _ _ => pts_nil) (fun _ _ _ _ _ => (pe_callTy call_int1 (by rfl) T.int (by decide +kernel) (pa_cons (pv 3) pa_nil))))
    (pss_cons (ps_set (i := 2) sc__law_pool.nd rfl (Or.inl rfl) pe_int)
    (pss_cons (ps_for PassesOwn.never rfl (pi_list (pv 1)) (pg_name (i := 3) sc__law_pool.nd rfl (Or.inl rfl))
      (pss_one (ps_set (i := 2) sc__law_pool.nd rfl (Or.inl rfl) (pe_op op_mod (pe_callTy call_int1 (by rfl) T.int (by decide +kernel) (pa_cons (pe_op op_add (pe_op op_mul (pv 2) pe_int) (pv 3)) pa_nil)) pe_int))))
    (pss_one (ps_ret (pe_lst (pa_cons (pv 1) (pa_cons pe_int (pa_cons pe_int (pa_cons (pv 2) (pa_cons pe_int (pa_cons pe_int pa_nil)))))))))))), ?_⟩
  have ecut : cutV (ns.map V.int) none (some 63) = ns.map V.int := by
    unfold cutV
    rw [show HT.sIx (ns.map V.int).length (ns.map V.int).length (some 63) = min 63 (ns.map V.int).length from HT.sIx_nat _ _ 63, HT.sIx_none, List.length_map]
    show (ns.map V.int).take (min 63 ns.length - 0) = ns.map V.int
    exact List.take_of_length_le (by rw [List.length_map]; omega)
  refine ⟨_, rfl, 63, rfl, a, _, rfl, hS, fun c hc => ?_⟩
  have s1 : Same H (upd H c (.lst (cutV (ns.map V.int) none (some 63)))) := same_upd hc
  refine ⟨c, rfl, ⟨_, SqL.of upd_same⟩, fun D hD => ?_⟩
  have hcD : c ≠ D := ne_of_none upd_same hD
  refine lc_list (K := K) (a := c) (xs := ns.map V.int) (fun i H' => Same H H' ∧ H' c = some (.lst (ns.map V.int)) ∧ H' D = some (.lst ((ns.take i).map V.int))) ⟨s1.trans (same_upd hD), ?_, upd_same⟩ (fun i H' _ hh => SqL.of hh.2.1) ?_ ?_
  · rw [upd_ne hcD, upd_same, ecut]
  · rintro i x H' hi ⟨s2, hc2, hD2⟩
    obtain ⟨z, hz, rfl⟩ : ∃ z, ns[i]? = some z ∧ x = V.int z := by
      rw [List.getElem?_map] at hi
      cases e : ns[i]? with
      | none => rw [e] at hi; cases hi
      | some z => rw [e] at hi; exact ⟨z, rfl, (Option.some.inj hi).symm⟩
    have hil : i < ns.length := (List.getElem?_eq_some_iff.mp hz).1
    refine ⟨rfl, _, rfl, .inl ⟨_, rfl, _, hD2, ?_, ?_, ?_, ?_⟩⟩
    · rw [List.length_map, List.length_take]
      exact Nat.lt_of_le_of_lt (Nat.min_le_left _ _) (small1000 (by omega))
    · intro b o e
      rw [upd_ne (ne_of_none e (s1.free hD))]
      exact s2 _ _ e
    · rw [upd_ne hcD]; exact hc2
    · rw [upd_same, List.take_add_one, hz, List.map_append]; rfl
  · rintro H1 ⟨s2, hc2, hD2⟩
    rw [List.length_map, List.take_length] at hD2
    refine ⟨_, rfl, D, rfl, ⟨_, SqL.of hD2⟩, for_list (K := K) (a := D) (xs := ns.map V.int) (fun i σ H' => ∃ (v : Option V) (sd : Int), σ = [some (.ref a), some (.ref D), some (.int sd), v] ∧ H' = H1 ∧ 0 ≤ sd ∧ sd < 2147483647)
      ⟨none, 11, rfl, rfl, by decide, by decide⟩ (fun i σ H' _ ⟨_, _, _, e, _⟩ => by rw [e]; exact SqL.of hD2) ?_ ?_⟩
    · rintro i x σ H' hi ⟨v, sd, rfl, rfl, h0, h1⟩
      obtain ⟨z, hz, rfl⟩ : ∃ z, ns[i]? = some z ∧ x = V.int z := by
        rw [List.getElem?_map] at hi
        cases e : ns[i]? with
        | none => rw [e] at hi; cases hi
        | some z => rw [e] at hi; exact ⟨z, rfl, (Option.some.inj hi).symm⟩
      refine ⟨_, rfl, _, _, rfl, rfl, .inl ⟨by omega, by omega⟩, _, rfl, _, _, rfl, rfl, .inl ⟨_, rfl, _, _, rfl, rfl, (by show (0 : Int) < 2147483647; decide), ?_⟩⟩
      exact ⟨_, _, rfl, rfl, Int.emod_nonneg _ (by decide), Int.emod_lt_of_pos _ (by decide)⟩
    · rintro σ H' ⟨v, sd, rfl, rfl, h0, h1⟩
      refine ⟨_, rfl, _, rfl, (by show 6 ≤ sizeLine; decide), fun p hp => ?_⟩
      have hpD : D ≠ p := ne_of_none hD2 hp
      refine q _ p D (s2.trans (same_upd hp)) (s2.free hp) (s1.free hD) ⟨fun e => hpD e.symm, ns, 0, 0, sd, 0, upd_same, by rw [upd_ne hpD]; exact hD2, by decide, by decide, by decide, h0, h1, hlen⟩
theorem sc__law_draw : FnScope ["_law_pool_here", "_law_many", "_law_at", "_law_cells", "_law_cell"] ["_law_pool_here", "_law_many"] (defScope s__law_draw) := ⟨rfl, rfl, rfl, by decide +kernel, rfl, by decide +kernel, by decide +kernel⟩
theorem ok__law_draw (T : Txt K mg a) : FnOk P w K mg base CX0 2 a.f__law_draw a.f__law_draw_d ["_law_pool_here", "_law_many"] spDraw := by
  refine T.F__law_draw.ok sc__law_draw (fun vs H Q E h => ?_) (fun cdv A outer s H vs Q E hr h => ?_)
  · obtain ⟨p, l, n, m, rfl, _⟩ := h
    rfl
  obtain ⟨p, l, n, m, rfl, ⟨ne, cs, ix, cnt, seed, ph, h1, h2, hix, hc0, hcn, hs0, hs1, hlen⟩, hn, hm, hml, q⟩ := h
  refine ⟨_, (pss_cons (ps_asg (pe_op op_add (pe_ix ix_list (pv 0) pe_int (fun _ _ => rfl)) pe_int) (pg_sub (pv 0) pe_int set_list))
    (pss_cons (ps_if (pt_cmpR op_ge (pe_ix ix_list (pv 0) pe_int (fun _ _ => rfl)) (pe_callB call_len_seq (by rfl) T.len PySem.boot_len (pa_cons (pe_ix ix_list (pv 0) pe_int (fun _ _ => rfl)) pa_nil)) (nomark _))
      (pss_one (ps_ret (pe_call (ok__law_mixed T) (hr.mono (by decide)) (by rfl) T.g__law_mixed T.F__law_mixed.kp T.b__law_mixed .nil pass0 (pa_cons (pe_ix ix_list (pv 0) pe_int (fun _ _ => rfl)) (pa_cons (pe_ix ix_list (pv 0) pe_int (fun _ _ => rfl)) (pa_cons (pv 1) pa_nil))))))
      pss_nil)
    (pss_cons (ps_set (i := 2) sc__law_draw.nd rfl (Or.inl rfl) (pe_ix ix_list (pv 0) pe_int (fun _ _ => rfl)))
    (pss_cons (ps_set (i := 3) sc__law_draw.nd rfl (Or.inl rfl) (pe_ix ix_list (pv 0) pe_int (fun _ _ => rfl)))
    (pss_cons (ps_set (i := 4) sc__law_draw.nd rfl (Or.inl rfl) (pe_ix ix_list (pv 3) (pv 2) (fun _ _ => rfl)))
    (pss_cons (ps_if (PW.pt (pw_and (pt_cmpR op_ne (pe_ix ix_list (pv 0) pe_int (fun _ _ => rfl)) pe_int (nomark _)) (pw_and1 (pt_cmpR op_lt (pv 4) (pe_op op_pow pe_int pe_int) (nomark _)))))
      (pss_cons (ps_asg (pe_op op_add (pe_ix ix_list (pv 0) pe_int (fun _ _ => rfl)) pe_int) (pg_sub (pv 0) pe_int set_list))
      (pss_cons (ps_if (pt_cmpR op_eq (pe_ix ix_list (pv 0) pe_int (fun _ _ => rfl)) pe_int (nomark _))
        (pss_cons (ps_asg (pe_op op_add (pv 2) pe_int) (pg_sub (pv 0) pe_int set_list))
        (pss_one (ps_asg pe_int (pg_sub (pv 0) pe_int set_list))))
        pss_nil)
      (pss_one (ps_ret (pe_call (ok__law_mixed T) (hr.mono (by decide)) (by rfl) T.g__law_mixed T.F__law_mixed.kp T.b__law_mixed .nil pass0 (pa_cons (pe_op op_mod (pe_callTy call_int1 (by rfl) T.int (by decide +kernel) (pa_cons (pv 4) pa_nil)) pe_int) (pa_cons (pe_ix ix_list (pv 0) pe_int (fun _ _ => rfl)) (pa_cons (pv 1) pa_nil))))))))
      pss_nil)
    (pss_cons (ps_asg pe_int (pg_sub (pv 0) pe_int set_list))
    (pss_cons (ps_asg (pe_op op_fdivW (pe_callTy call_int1 (by rfl) T.int (by decide +kernel) (pa_cons (pv 4) pa_nil)) (pv 1)) (pg_sub (pv 3) (pv 2) set_list))
    (pss_cons (ps_if (pt_cmpR op_eq (pe_ix ix_list (pv 3) (pv 2) (fun _ _ => rfl)) pe_int (nomark _))
      (pss_cons (ps_asg (pe_op op_add (pv 2) pe_int) (pg_sub (pv 0) pe_int set_list))
      (pss_one (ps_asg pe_int (pg_sub (pv 0) pe_int set_list))))
      pss_nil)
    (pss_one (ps_ret (pe_op op_mod (pe_callTy call_int1 (by rfl) T.int (by decide +kernel) (pa_cons (pv 4) pa_nil)) (pv 1))))))))))))), ?_⟩
  refine ⟨_, rfl, p, _, _, _, rfl, rfl, SqL.of h1, atI_nat (j := 2) rfl, _, _, rfl, rfl, _, rfl, p, _, _, 2, rfl, rfl, h1, rfl, ?_⟩
  have h1a : (upd H p (.lst [.ref l, .int ix, .int (cnt + 1), .int seed, .int ph, .int 30])) p = some (.lst [.ref l, .int ix, .int (cnt + 1), .int seed, .int ph, .int 30]) := upd_same
  have h2a : (upd H p (.lst [.ref l, .int ix, .int (cnt + 1), .int seed, .int ph, .int 30])) l = some (.lst (cs.map V.int)) := by rw [upd_ne ne.symm]; exact h2
  have hfa : ∀ b, b ≠ p → b ≠ l → (upd H p (.lst [.ref l, .int ix, .int (cnt + 1), .int seed, .int ph, .int 30])) b = H b := fun b hb _ => upd_ne hb
  show tSeq _ _ _ _ (upd H p (.lst [.ref l, .int ix, .int (cnt + 1), .int seed, .int ph, .int 30]))
  generalize (upd H p (.lst [.ref l, .int ix, .int (cnt + 1), .int seed, .int ph, .int 30])) = H1 at h1a h2a hfa ⊢
  refine ⟨_, rfl, p, _, _, _, rfl, rfl, SqL.of h1a, atI_nat (j := 1) rfl, _, rfl, p, _, _, _, rfl, rfl, SqL.of h1a, atI_nat (j := 0) rfl, l, _, rfl, .inl (SqL.of h2a), _, _, rfl, rfl, _, rfl, ite2 (fun e => ?_) (fun e => ?_)⟩
  · refine ⟨_, rfl, p, _, _, _, rfl, rfl, SqL.of h1a, atI_nat (j := 3) rfl, _, rfl, p, _, _, _, rfl, rfl, SqL.of h1a, atI_nat (j := 2) rfl, _, rfl, seed, cnt + 1, m, rfl, hs0, hs1, by omega, by omega, hm, fun r hr0 hr1 => ?_⟩
    exact q r _ hr0 hr1 ⟨ne, cs, ix, cnt + 1, seed, ph, h1a, h2a, hix, by omega, by omega, hs0, hs1, hlen⟩ hfa
  · have hlt : ix < (cs.length : Int) := by
      have e' := of_decide_eq_false (Bool.eq_false_iff.mpr e)
      rw [List.length_map] at e'
      omega
    obtain ⟨j, rfl⟩ : ∃ j : Nat, ix = (j : Int) := ⟨ix.toNat, by omega⟩
    have hj : j < cs.length := by omega
    have hz : (cs.map V.int)[j]? = some (.int cs[j]) := by rw [List.getElem?_map, List.getElem?_eq_getElem hj]; rfl
    generalize cs[j] = z at hz
    refine ⟨_, rfl, p, _, _, _, rfl, rfl, SqL.of h1a, atI_nat (j := 1) rfl, ?_⟩
    refine ⟨_, rfl, p, _, _, _, rfl, rfl, SqL.of h1a, atI_nat (j := 0) rfl, ?_⟩
    refine ⟨_, rfl, _, rfl, l, _, _, _, rfl, rfl, SqL.of h2a, atI_nat (j := j) hz, ?_⟩
    dsimp only [gName]
    refine st_seq (st_ite (b := (!decide (V.int ph = V.int 2)) && decide (z < 10 ^ (18 : Int).toNat)) (ans_and2 (fun Q q => ⟨_, rfl, p, _, _, _, rfl, rfl, SqL.of h1a, atI_nat (j := 4) rfl, rfl, _, rfl, q⟩) (fun Q q => ⟨_, rfl, _, _, rfl, rfl, ⟨by decide, by decide, by decide⟩, _, _, rfl, rfl, _, rfl, q⟩)) (fun e1 => ?_) (fun e1 => ?_))
    · -- a small cell: the phase grows
      refine ⟨_, rfl, p, _, _, _, rfl, rfl, SqL.of h1a, atI_nat (j := 4) rfl, _, _, rfl, rfl, _, rfl, p, _, _, 4, rfl, rfl, h1a, rfl, ?_⟩
      dsimp only [gName]
      refine st_seq (st_ite (b := decide (V.int (ph + 1) = V.int 2)) (fun Q q => ⟨_, rfl, p, _, _, _, rfl, rfl, SqL.of upd_same, atI_nat (j := 4) rfl, rfl, _, rfl, q⟩) (fun e2 => ?_) (fun e2 => ?_))
      · refine ⟨_, rfl, _, _, rfl, rfl, _, rfl, p, _, _, 1, rfl, rfl, upd_same, rfl, _, rfl, p, _, _, 4, rfl, rfl, upd_same, rfl, ?_⟩
        refine ⟨_, rfl, .inl ⟨_, rfl, _, _, rfl, rfl, (by show (0 : Int) < 2147483647; decide), _, rfl, p, _, _, _, rfl, rfl, SqL.of upd_same, atI_nat (j := 2) rfl, _, rfl, _, cnt + 1, m, rfl, Int.emod_nonneg _ (by decide), Int.emod_lt_of_pos _ (by decide), by omega, by omega, hm, fun r hr0 hr1 => ?_⟩⟩
        exact q r _ hr0 hr1 ⟨ne, cs, (j : Int) + 1, cnt + 1, seed, 0, upd_same, by rw [upd_ne ne.symm, upd_ne ne.symm, upd_ne ne.symm]; exact h2a, by omega, by omega, by omega, hs0, hs1, hlen⟩ fun b hb hb2 => by rw [upd_ne hb, upd_ne hb, upd_ne hb]; exact hfa b hb hb2
      · refine ⟨_, rfl, .inl ⟨_, rfl, _, _, rfl, rfl, (by show (0 : Int) < 2147483647; decide), _, rfl, p, _, _, _, rfl, rfl, SqL.of upd_same, atI_nat (j := 2) rfl, _, rfl, _, cnt + 1, m, rfl, Int.emod_nonneg _ (by decide), Int.emod_lt_of_pos _ (by decide), by omega, by omega, hm, fun r hr0 hr1 => ?_⟩⟩
        exact q r _ hr0 hr1 ⟨ne, cs, (j : Int), cnt + 1, seed, ph + 1, upd_same, by rw [upd_ne ne.symm]; exact h2a, by omega, by omega, by omega, hs0, hs1, hlen⟩ fun b hb hb2 => by rw [upd_ne hb]; exact hfa b hb hb2
    · -- a great one: divided
      refine ⟨_, rfl, p, _, _, 4, rfl, rfl, h1a, rfl, ?_⟩
      refine ⟨_, rfl, .inl ⟨_, rfl, _, rfl, _, _, rfl, rfl, ⟨hm, hml⟩, _, rfl, _, rfl, l, _, _, j, rfl, rfl, by rw [upd_ne ne.symm]; exact h2a, ixN_at (by rw [List.length_map]; exact hj), ?_⟩⟩
      have h1b : ∀ x, (upd (upd H1 p (.lst [.ref l, .int j, .int (cnt + 1), .int seed, .int 2, .int 30])) l x) p = some (.lst [.ref l, .int j, .int (cnt + 1), .int seed, .int 2, .int 30]) := fun x => by rw [upd_ne ne]; exact upd_same
      have e3 : (cs.map V.int).set j (.int (z / m)) = (cs.set j (z / m)).map V.int := by rw [List.map_set]
      have hl2 : (cs.set j (z / m)).length ≤ 63 := by rw [List.length_set]; exact hlen
      have hz2 : ((cs.map V.int).set j (.int (z / m)))[j]? = some (.int (z / m)) := by rw [List.getElem?_set_self]; rw [List.length_map]; exact hj
      dsimp only [gName]
      refine st_seq (st_ite (b := decide (V.int (z / m) = V.int 0)) (fun Q q => ⟨_, rfl, _, rfl, l, _, _, _, rfl, rfl, SqL.of upd_same, atI_nat (j := j) hz2, rfl, _, rfl, q⟩) (fun e2 => ?_) (fun e2 => ?_))
      · refine ⟨_, rfl, _, _, rfl, rfl, _, rfl, p, _, _, 1, rfl, rfl, h1b _, rfl, _, rfl, p, _, _, 4, rfl, rfl, upd_same, rfl, ?_⟩
        refine ⟨_, rfl, .inl ⟨_, rfl, _, rfl, _, _, rfl, rfl, hm, ?_⟩⟩
        exact q _ _ (Int.emod_nonneg _ (by omega)) (Int.emod_lt_of_pos _ hm) ⟨ne, _, (j : Int) + 1, cnt + 1, seed, 0, upd_same, by rw [upd_ne ne.symm, upd_ne ne.symm, upd_same, e3], by omega, by omega, by omega, hs0, hs1, hl2⟩ fun b hb hb2 => by rw [upd_ne hb, upd_ne hb, upd_ne hb2, upd_ne hb]; exact hfa b hb hb2
      · refine ⟨_, rfl, .inl ⟨_, rfl, _, rfl, _, _, rfl, rfl, hm, ?_⟩⟩
        exact q _ _ (Int.emod_nonneg _ (by omega)) (Int.emod_lt_of_pos _ hm) ⟨ne, _, (j : Int), cnt + 1, seed, 2, h1b _, by rw [upd_same, e3], by omega, by omega, by omega, hs0, hs1, hl2⟩ fun b hb hb2 => by rw [upd_ne hb2, upd_ne hb]; exact hfa b hb hb2
theorem sc__law_names : FnScope ["_law_pool_here", "_law_letter", "_law_shift", "_law_k"] ["_law_pool_here"] (defScope s__law_names) := ⟨rfl, rfl, rfl, by decide +kernel, rfl, by decide +kernel, by decide +kernel⟩
theorem ok__law_names (T : Txt K mg a) : FnOk P w K mg base CX0 3 a.f__law_names a.f__law_names_d ["_law_pool_here"] spNames := by
  refine T.F__law_names.ok sc__law_names (fun vs H Q E h => ?_) (fun cdv A outer s H vs Q E hr h => ?_)
  · obtain ⟨p, l, n, rfl, _⟩ := h
    rfl
  obtain ⟨p, l, n, rfl, hP, hn, q⟩ := h
  refine ⟨_, (pss_cons (ps_set (i := 1) sc__law_names.nd rfl (Or.inr rfl) (pe_ix ix_str pe_str (pe_call (ok__law_draw T) (hr.mono (by decide)) (by rfl) T.g__law_draw T.F__law_draw.kp T.b__law_draw .nil pass0 (pa_cons (pv 0) (pa_cons pe_int pa_nil))) (fun _ _ => rfl)))
    (pss_cons (ps_set (i := 2) sc__law_names.nd rfl (Or.inr rfl) (pe_call (ok__law_draw T) (hr.mono (by decide)) (by rfl) T.g__law_draw T.F__law_draw.kp T.b__law_draw .nil pass0 (pa_cons (pv 0) (pa_cons pe_int pa_nil))))
    (pss_one (ps_ret (pe_lc (own := [("_law_k", 3)]) (g := gName 3) (tt := tYes) (by rfl) sc__law_names.nd (pi_range1 (by rfl) T.range (pa_cons pe_int pa_nil)) (blkOk_by (own := [("_law_k", 3)]) (N := ["_law_pool_here", "_law_letter", "_law_shift", "_law_k"]) (sc := defScope s__law_names) (by decide +kernel)) (fun _ _ _ _ _ => pg_name (i := 3) sc__law_names.nd rfl (Or.inl rfl)) (fun _ _ _ _ _ => pts_nil) (fun _ _ _ _ _ => (pe_op op_add_str (pv 1) (pe_callTy call_str_int (by rfl) T.str (by decide +kernel) (pa_cons (pe_op op_mod (pe_op op_add (pe_op op_mul pe_int (pv 3)) (pv 2)) pe_int) pa_nil))))))))), ?_⟩
  refine ⟨_, rfl, p, l, n, 26, rfl, hP, by omega, by decide, log_small (by decide) (by decide), fun r1 H1 r10 r11 P1 f1 => ?_⟩
  obtain ⟨c, hc, hm⟩ := atI_ex (xs := tl LET) (r := r1) r10 (by rw [show (tl LET).length = 26 from by decide +kernel]; exact r11)
  refine ⟨_, r1, c, rfl, rfl, (by decide +kernel), hc, ?_⟩
  refine ⟨_, rfl, p, l, n + 1, 16, rfl, P1, by omega, by decide, log_small (by decide) (by decide), fun r2 H2 r20 r21 P2 f2 => ?_⟩
  refine ⟨16, rfl, by decide, by decide, fun D hD => ?_⟩
  have hDo := P2.off hD
  have k2 : Keep p l H H2 := (Keep.draw f1).trans (Keep.draw f2)
  have nD : H D = none := k2.free hD hDo.1 hDo.2
  refine lc_range (lo := 0) (n := 16) (fun i H' => PoolAt H' p l (n + 2) ∧ Keep p l H H' ∧ H' D = some (.lst ((((List.range i).map (nameL c r2))).map V.str)))
    ⟨(P2.mono (by omega)).same (same_upd hD), k2.trans (Keep.of (same_upd hD)), upd_same⟩ ?_ ?_
  · rintro i H' hi ⟨P3, k3, hD3⟩
    have h16 : 0 ≤ (7 * ((0 : Int) + (i : Int)) + r2) % 16 ∧ (7 * ((0 : Int) + (i : Int)) + r2) % 16 < 16 := ⟨Int.emod_nonneg _ (by decide), Int.emod_lt_of_pos _ (by decide)⟩
    refine ⟨rfl, _, rfl, _, rfl, _, _, rfl, rfl, .inl ⟨by decide, by decide⟩, _, rfl, _, _, rfl, rfl, _, _, rfl, rfl, (by show (0 : Int) < 16; decide), _, rfl, log_ok h16.1 (by omega), _, _, rfl, rfl, ?_, _, hD3, ?_, ?_, ?_, ?_⟩
    · have := numT_len h16.1 (show _ < 1000000000000000000 by omega)
      unfold numT at this
      exact bigLe (by show 1 + _ ≤ 1000000; omega)
    · rw [List.length_map, List.length_map, List.length_range]
      exact bigLine (by omega)
    · exact P3.keep (upd_ne hDo.1.symm) (upd_ne hDo.2.symm)
    · exact k3.mut nD
    · rw [upd_same, List.range_succ, List.map_append, List.map_append]
      rfl
  · rintro H' ⟨P3, k3, hD3⟩
    exact q H' D c r2 P3 k3 hDo.1 hDo.2 nD hm r20 r21 hD3
end
/-! ### events of the law, equal logs -/
def spEv : Sp := fun vs H Q _ => ∃ (p l nl : Addr) (n : Int) (N : List Str), vs = [.ref p, .ref nl] ∧ PoolAt H p l n ∧ n < 1099511627000 ∧ H nl = some (.lst (N.map V.str)) ∧ nl ≠ p ∧ nl ≠ l ∧ 0 < N.length ∧ N.length ≤ 16 ∧
  ∀ H' e ev, PoolAt H' p l (n + 3) → Keep p l H H' → H e = none → H' e = some (.tup (evV ev)) → evOk N ev → Q (.ref e) H'
def spRec : Sp := fun vs H Q _ => ∃ (vd lg : Addr) (t : Tb) (l : List Rc), vs = [.ref vd, .ref lg] ∧ H vd = some (.dK (dv t)) ∧ LstAt rcV H lg l ∧ (keysT t).Nodup ∧ t.length ≤ 400 ∧ l.length ≤ 400 ∧
  ∀ H' D, Same H H' → H D = none → H' D = some (.dK (dv (undo t l))) → Q (.ref D) H'
def dLog (l : List Rc) : PyData := .list (l.map fun r => .tuple [.str r.1, .int r.2])
theorem dp_logs {K : PySem.W.Frag} {H : Hp} : ∀ {as : List Addr} {l : List Rc}, TupsAt rcV H as l → DpAll K H (as.map V.ref) (l.map fun r => PyData.tuple [.str r.1, .int r.2])
  | [], [], _ => .nil
  | _ :: _, _ :: _, h => .cons (.tup (SqT.of h.1) (.cons (.str _) (.cons (.int _) .nil))) (dp_logs h.2)
  | [], _ :: _, h => h.elim
  | _ :: _, [], h => h.elim
theorem dp_log {K : PySem.W.Frag} {H : Hp} {q : Addr} {l : List Rc} (h : LstAt rcV H q l) : Dp K H (.ref q) (dLog l) := by
  obtain ⟨as, e, t⟩ := h
  exact .lst (SqL.of e) (dp_logs t)
def OkL (l : List Rc) : Prop := ∀ r ∈ l, PyData.strOk r.1 = true
theorem lay_logs : ∀ l : List Rc, OkL l → PyData.canLayAll0 (l.map fun r => PyData.tuple [.str r.1, .int r.2]) = true
  | [], _ => by simp only [List.map_nil, PyData.canLayAll0]
  | x :: xs, h => by simp only [List.map_cons, PyData.canLayAll0, PyData.canLay0, lay_logs xs (fun r m => h r (List.mem_cons_of_mem _ m)), h x (List.mem_cons_self ..), Bool.and_self]
theorem depth_logs : ∀ l : List Rc, PyData.depthAll (l.map fun r => PyData.tuple [.str r.1, .int r.2]) ≤ 1
  | [] => by simp only [List.map_nil, PyData.depthAll]; omega
  | x :: xs => by
    have := depth_logs xs
    simp only [List.map_cons, PyData.depthAll, PyData.depth]
    omega
theorem shaped_log (l : List Rc) (ok : OkL l) : SeqAt.shaped (dLog l) = true := by
  unfold SeqAt.shaped dLog
  have h := depth_logs l
  have h2 : PyData.depth (.list (l.map fun r => PyData.tuple [.str r.1, .int r.2])) ≤ 64 := by simp only [PyData.depth]; omega
  rw [decide_eq_true h2, Bool.and_true]
  simp only [PyData.canLay0]
  exact lay_logs l ok
theorem eqv_log (l : List Rc) (ok : OkL l) : PyData.eqv (dLog l) (dLog l) = true := SeqAt.eqv_refl _ (SeqAt.canLay_of_shaped (shaped_log l ok))
theorem take_put {t : Tb} {i : Nat} {x : Str} {v : Int} (hn : (keysT t).Nodup) (h : t[i]? = some (x, v)) : putT (t.take i) x v = t.take (i + 1) := by
  rw [keysT_new, List.take_add_one, h]
  · rfl
  · intro m
    obtain ⟨hi, e⟩ := List.getElem?_eq_some_iff.mp h
    unfold keysT at m hn
    rw [List.map_take] at m
    obtain ⟨j, hj, ej⟩ := List.mem_iff_getElem.mp m
    rw [List.length_take, List.length_map] at hj
    rw [List.getElem_take] at ej
    have e2 : (t.map (·.1))[i]'(by rw [List.length_map]; exact hi) = x := by rw [List.getElem_map, e]
    have := (List.getElem_inj hn).mp (ej.trans e2.symm)
    omega
theorem get_rev {α : Type} {l : List α} {i : Nat} (h : i < l.length) : l.reverse[i]? = l[l.length - 1 - i]? := List.getElem?_reverse h
section
variable {P : Program} {w : World} {K : PySem.W.Frag} {mg : Str → Option Value} {base : Heap} {a : Ads}
theorem sc__law_event : FnScope ["_law_pool_here", "_law_names_here", "_law_choice", "_law_name"] ["_law_pool_here", "_law_names_here"] (defScope s__law_event) := ⟨rfl, rfl, rfl, by decide +kernel, rfl, by decide +kernel, by decide +kernel⟩
theorem ok__law_event (T : Txt K mg a) : FnOk P w K mg base CX0 3 a.f__law_event a.f__law_event_d ["_law_pool_here", "_law_names_here"] spEv := by
  refine T.F__law_event.ok sc__law_event (fun vs H Q E h => ?_) (fun cdv A outer s H vs Q E hr h => ?_)
  · obtain ⟨p, l, nl, n, N, rfl, _⟩ := h
    rfl
  obtain ⟨p, l, nl, n, N, rfl, hP, hn, hN, np, nq, hN0, hN1, q⟩ := h
  refine ⟨_, (pss_cons (ps_set (i := 2) sc__law_event.nd rfl (Or.inl rfl) (pe_call (ok__law_draw T) (hr.mono (by decide)) (by rfl) T.g__law_draw T.F__law_draw.kp T.b__law_draw .nil pass0 (pa_cons (pv 0) (pa_cons pe_int pa_nil))))
    (pss_cons (ps_set (i := 3) sc__law_event.nd rfl (Or.inl rfl) (pe_ix ix_list (pv 1) (pe_call (ok__law_draw T) (hr.mono (by decide)) (by rfl) T.g__law_draw T.F__law_draw.kp T.b__law_draw .nil pass0 (pa_cons (pv 0) (pa_cons (pe_callB call_len_seq (by rfl) T.len PySem.boot_len (pa_cons (pv 1) pa_nil)) pa_nil))) (fun _ _ => rfl)))
    (pss_cons (ps_if (pt_cmpR op_lt (pv 2) pe_int (nomark _))
      (pss_one (ps_ret (pe_tup (pa_cons pe_str (pa_cons (pv 3) (pa_cons (pe_op op_sub (pe_call (ok__law_draw T) (hr.mono (by decide)) (by rfl) T.g__law_draw T.F__law_draw.kp T.b__law_draw .nil pass0 (pa_cons (pv 0) (pa_cons (pe_op op_pow pe_int pe_int) pa_nil))) (pe_op op_mul pe_int (pe_op op_pow pe_int pe_int))) pa_nil))))))
      pss_nil)
    (pss_cons (ps_if (pt_cmpR op_lt (pv 2) pe_int (nomark _))
      (pss_one (ps_ret (pe_tup (pa_cons pe_str (pa_cons (pv 3) (pa_cons (pe_op op_sub (pe_call (ok__law_draw T) (hr.mono (by decide)) (by rfl) T.g__law_draw T.F__law_draw.kp T.b__law_draw .nil pass0 (pa_cons (pv 0) (pa_cons (pe_op op_pow pe_int pe_int) pa_nil))) (pe_op op_mul pe_int (pe_op op_pow pe_int pe_int))) pa_nil))))))
      pss_nil)
    (pss_one (ps_ret (pe_ix ix_list (pe_lst (pa_cons (pe_tup (pa_cons pe_str pa_nil)) (pa_cons (pe_tup (pa_cons pe_str pa_nil)) pa_nil))) (pe_op op_sub (pv 2) pe_int) (fun _ _ => rfl)))))))), ?_⟩
  refine ⟨_, rfl, p, l, n, 8, rfl, hP, by omega, by decide, log_small (by decide) (by decide), fun r1 H1 r10 r11 P1 f1 => ?_⟩
  have hN' : H1 nl = some (.lst (N.map V.str)) := by rw [f1 _ np nq]; exact hN
  refine ⟨_, rfl, _, rfl, _, rfl, nl, _, rfl, .inl (SqL.of hN'), p, l, n + 1, _, rfl, P1, by omega, by rw [List.length_map]; omega, log_small (by rw [List.length_map]; omega) (by rw [List.length_map]; omega), fun r2 H2 r20 r21 P2 f2 => ?_⟩
  have hN2 : H2 nl = some (.lst (N.map V.str)) := by rw [f2 _ np nq]; exact hN'
  have k2 : Keep p l H H2 := (Keep.draw f1).trans (Keep.draw f2)
  obtain ⟨x0, hx0, hm0⟩ := atI_ex (xs := N.map V.str) (r := r2) r20 r21
  obtain ⟨x, hx, rfl⟩ := List.mem_map.mp hm0
  refine ⟨nl, _, _, _, rfl, rfl, SqL.of hN2, hx0, ?_⟩
  dsimp only [gName]
  have tail : ∀ (mk : Int → Ev), (∀ v, evV (mk v) = [(evV (mk 0)).headD .non, .str x, .int v]) → (∀ v, evOk N (mk v)) → ∀ (r3 : Int) H3, 0 ≤ r3 → PoolAt H3 p l (n + 1 + 1 + 1) → (∀ b, b ≠ p → b ≠ l → H3 b = H2 b) → ∀ v e, H3 e = none → Q (.ref e) (upd H3 e (.tup (evV (mk v)))) := by
    intro mk _ hok r3 H3 _ P3 f3 v e ne
    have ho := P3.off ne
    have k3 := k2.trans (Keep.draw f3)
    exact q _ e (mk v) ((P3.mono (by omega)).same (same_upd ne)) (k3.trans (Keep.of (same_upd ne))) (k3.free ne ho.1 ho.2) upd_same (hok v)
  have two : ∀ (nm : Str) (mk : Int → Ev), (∀ v, evV (mk v) = [.str nm, .str x, .int v]) → (∀ v, evOk N (mk v)) → ∀ (r3 : Int) H3, 0 ≤ r3 → PoolAt H3 p l (n + 1 + 1 + 1) → (∀ b, b ≠ p → b ≠ l → H3 b = H2 b) → ∀ v e, H3 e = none → Q (.ref e) (upd H3 e (.tup [.str nm, .str x, .int v])) := by
    intro nm mk he hok r3 H3 h0 P3 f3 v e ne
    have := tail mk (fun v => by rw [he, he]; rfl) hok r3 H3 h0 P3 f3 v e ne
    rw [he] at this
    exact this
  refine ⟨_, rfl, _, _, rfl, rfl, _, rfl, ite2 (fun e => ?_) (fun e => ?_)⟩
  · refine ⟨_, rfl, _, rfl, _, _, rfl, rfl, ⟨by decide, by decide, by decide⟩, p, l, n + 1 + 1, _, rfl, P2, by omega, by decide, log_small (by decide) (by decide), fun r3 H3 r30 r31 P3 f3 => ?_⟩
    exact ⟨_, _, rfl, rfl, ⟨by decide, by decide, by decide⟩, _, _, rfl, rfl, .inl ⟨by decide, by decide⟩, _, _, rfl, rfl, (by show 3 ≤ sizeLine; decide), fun e ne => two "log" (.log x) (fun _ => rfl) (fun _ => hx) r3 H3 r30 P3 f3 _ e ne⟩
  · refine ⟨_, rfl, _, _, rfl, rfl, _, rfl, ite2 (fun e2 => ?_) (fun e2 => ?_)⟩
    · refine ⟨_, rfl, _, rfl, _, _, rfl, rfl, ⟨by decide, by decide, by decide⟩, p, l, n + 1 + 1, _, rfl, P2, by omega, by decide, log_small (by decide) (by decide), fun r3 H3 r30 r31 P3 f3 => ?_⟩
      exact ⟨_, _, rfl, rfl, ⟨by decide, by decide, by decide⟩, _, _, rfl, rfl, .inl ⟨by decide, by decide⟩, _, _, rfl, rfl, (by show 3 ≤ sizeLine; decide), fun e ne => two "write" (.write x) (fun _ => rfl) (fun _ => hx) r3 H3 r30 P3 f3 _ e ne⟩
    · have e3 := of_decide_eq_false (Bool.eq_false_iff.mpr e2)
      have e3 : ¬ r1 < 6 := e3
      refine ⟨(by show 1 ≤ sizeLine; decide), fun c1 n1 => ⟨(by show 1 ≤ sizeLine; decide), fun c2 n2 => ⟨(by show 2 ≤ sizeLine; decide), fun L nL => ⟨_, rfl, _, _, rfl, rfl, ?_⟩⟩⟩⟩
      have s3 : Same H2 (upd (upd (upd H2 c1 (.tup [.str "clear"])) c2 (.tup [.str "flush"])) L (.lst [.ref c1, .ref c2])) := ((same_upd n1).trans (same_upd n2)).trans (same_upd nL)
      have hc1 : (upd (upd (upd H2 c1 (.tup [.str "clear"])) c2 (.tup [.str "flush"])) L (.lst [.ref c1, .ref c2])) c1 = some (.tup [.str "clear"]) := same_upd nL _ _ (same_upd n2 _ _ upd_same)
      have hc2 : (upd (upd (upd H2 c1 (.tup [.str "clear"])) c2 (.tup [.str "flush"])) L (.lst [.ref c1, .ref c2])) c2 = some (.tup [.str "flush"]) := same_upd nL _ _ upd_same
      have P3 := (P2.mono (show n + 1 + 1 ≤ n + 3 by omega)).same s3
      have k3 := k2.trans (Keep.of s3)
      have n10 : H c1 = none := k2.free n1 (P2.off n1).1 (P2.off n1).2
      have n20 : H c2 = none := (k2.trans (Keep.of (same_upd n1))).free n2 ((P2.same (same_upd n1)).off n2).1 ((P2.same (same_upd n1)).off n2).2
      rcases (show r1 = 6 ∨ r1 = 7 by omega) with rfl | rfl
      · exact ⟨L, _, _, _, rfl, rfl, SqL.of upd_same, atI_nat (j := 0) rfl, q _ c1 .clear P3 k3 n10 hc1 trivial⟩
      · exact ⟨L, _, _, _, rfl, rfl, SqL.of upd_same, atI_nat (j := 1) rfl, q _ c2 .flush P3 k3 n20 hc2 trivial⟩
theorem sc__law_recovered : FnScope ["_law_values", "_law_log", "_law_found", "_law_name", "_law_k", "_law_record"] ["_law_values", "_law_log"] (defScope s__law_recovered) := ⟨rfl, rfl, rfl, by decide +kernel, rfl, by decide +kernel, by decide +kernel⟩
theorem ok__law_recovered (T : Txt K mg a) : FnOk P w K mg base CX0 1 a.f__law_recovered a.f__law_recovered_d ["_law_values", "_law_log"] spRec := by
  refine T.F__law_recovered.ok sc__law_recovered (fun vs H Q E h => ?_) (fun cdv A outer s H vs Q E hr h => ?_)
  · obtain ⟨vd, lg, t, l, rfl, _⟩ := h
    rfl
  obtain ⟨vd, lg, t, l, rfl, hv, ⟨as, hl, hlt⟩, hn, hb1, hb2, q⟩ := h
  refine ⟨_, (pss_cons (ps_set (i := 2) sc__law_recovered.nd rfl (Or.inl rfl) pe_dnewK)
    (pss_cons (ps_lock (ps_for PassesOwn.never rfl (pi_keys (pv 0)) (pg_name (i := 3) sc__law_recovered.nd rfl (Or.inl rfl))
      (pss_one (ps_dput (hu_of hr) (pv 2) (pv 3) (pe_dget (hu_of hr) (pv 0) (pv 3) (fun _ _ => rfl)) rfl))))
    (pss_cons (ps_for PassesOwn.never rfl (pi_range1 (by rfl) T.range (pa_cons (pe_callB call_len_seq (by rfl) T.len PySem.boot_len (pa_cons (pv 1) pa_nil)) pa_nil)) (pg_name (i := 4) sc__law_recovered.nd rfl (Or.inl rfl))
      (pss_cons (ps_set (i := 5) sc__law_recovered.nd rfl (Or.inl rfl) (pe_ix ix_list (pv 1) (pe_op op_sub (pe_op op_sub (pe_callB call_len_seq (by rfl) T.len PySem.boot_len (pa_cons (pv 1) pa_nil)) pe_int) (pv 4)) (fun _ _ => rfl)))
      (pss_one (ps_dput (hu_of hr) (pv 2) (pe_ix ix_tup (pv 5) pe_int (fun _ _ => rfl)) (pe_ix ix_tup (pv 5) pe_int (fun _ _ => rfl)) rfl))))
    (pss_one (ps_ret (pv 2)))))), ?_⟩
  intro D nD
  have s1 : Same H (upd H D (.dK [])) := same_upd nD
  have hv1 := s1 _ _ hv
  have hD1 : (upd H D (.dK [])) D = some (.dK (dv (t.take 0))) := upd_same
  show tSeq _ _ _ _ (upd H D (.dK []))
  generalize (upd H D (.dK [])) = H1 at s1 hv1 hD1 ⊢
  have hvD : D ≠ vd := fun z => by rw [← z, nD] at hv; cases hv
  refine ⟨vd, _, hv1, trivial, fun od => ?_⟩
  refine ⟨_, rfl, vd, od, rfl, .inl ⟨_, upd_same, for_it walk_keys (fun i σ H' => ∃ v3, σ = [some (.ref vd), some (.ref lg), some (.ref D), v3, none, none] ∧ (∀ b o, H b = some o → b ≠ vd → H' b = some o) ∧ H' vd = some (.frz od (.dK (dv t))) ∧ H' D = some (.dK (dv (t.take i))))
    ⟨none, rfl, fun b o e n => by rw [upd_ne n]; exact s1 _ _ e, upd_same, by rw [upd_ne hvD]; exact hD1⟩ (fun i σ H' _ ⟨_, _, _, h, _⟩ => h) ?_ ?_⟩⟩
  · rintro i x σ H2 H3 hi ⟨v3, rfl, k2, hv2, hD2⟩ ⟨rfl, k, v, hkv, rfl⟩
    obtain ⟨x, n, hx, rfl, rfl⟩ := dv_get hkv
    rw [dv_len] at hi
    have hget : valV (dv t) (Sum.inr x) = some (.int n) := (dv_val hn (Sum.inr x, .int n) (List.mem_of_getElem? hkv)).1
    refine ⟨_, rfl, _, rfl, vd, _, rfl, .inl ⟨_, Sum.inr x, .inr ⟨od, hv2⟩, rfl, hget.symm⟩, _, rfl, _, rfl, D, _, rfl, DPut.k (k := Sum.inr x) hD2 ?_, ?_⟩
    · rw [dv_len, List.length_take]
      exact bigLine (by omega)
    · refine ⟨_, rfl, fun b o e n' => ?_, ?_, ?_⟩
      · rw [upd_ne (ne_of_none e nD)]
        exact k2 b o e n'
      · rw [upd_ne hvD.symm]
        exact hv2
      · rw [upd_same, dv_put, take_put hn hx]
  · rintro σ H2 ⟨v3, rfl, k2, hv2, hD2⟩
    rw [dv_len, List.take_length] at hD2
    refine ⟨hv2, ?_⟩
    have s3 : Same H (upd H2 vd (.dK (dv t))) := fun b o e => by
      by_cases z : b = vd
      · subst z
        rw [upd_same, ← e, hv]
      · rw [upd_ne z]
        exact k2 b o e z
    have hD3 : (upd H2 vd (.dK (dv t))) D = some (.dK (dv t)) := by rw [upd_ne hvD]; exact hD2
    generalize (upd H2 vd (.dK (dv t))) = H3 at s3 hD3 ⊢
    have hl3 := s3 _ _ hl
    have hlen : as.length = l.length := hlt.len
    refine ⟨_, rfl, lg, _, rfl, .inl (SqL.of hl3), _, rfl, ⟨by omega, by rw [List.length_map]; omega, ?_⟩⟩
    refine for_range (lo := 0) (n := _) (fun i σ H' => ∃ v3 v4 v5, σ = [some (.ref vd), some (.ref lg), some (.ref D), v3, v4, v5] ∧ Same H H' ∧ ∃ t', H' D = some (.dK (dv t')) ∧ t' = (l.reverse.take i).foldl (fun t r => putT t r.1 r.2) t ∧ t'.length ≤ t.length + i)
      ⟨_, _, _, rfl, s3, t, hD3, rfl, Nat.le_refl _⟩ ?_ ?_
    · rintro i σ H4 hi ⟨v3, v4, v5, rfl, s4, t', hD4, et, lt⟩
      have hi2 : i < as.length := by
        have : ((as.map V.ref).length : Int).toNat = as.length := by rw [List.length_map]; exact Int.toNat_natCast _
        omega
      have hl4 := s4 _ _ hl
      have hrl : l.reverse[i]? = l[l.length - 1 - i]? := get_rev (by omega)
      have hrc : l[l.length - 1 - i]? = some (l[l.length - 1 - i]'(by omega)) := List.getElem?_eq_getElem _
      generalize l[l.length - 1 - i]'(by omega) = rc at hrc
      obtain ⟨b, hb, hbt⟩ := (hlt.same s4).get2 hrc
      obtain ⟨x, v⟩ := rc
      have hidx : atI (as.map V.ref) (((as.map V.ref).length : Int) - 1 - (0 + (i : Int))) = some (.ref b) := by
        rw [show ((as.map V.ref).length : Int) - 1 - (0 + (i : Int)) = ((l.length - 1 - i : Nat) : Int) by rw [List.length_map]; omega]
        refine atI_nat ?_
        rw [List.getElem?_map, hb]
        rfl
      refine ⟨_, rfl, _, rfl, lg, _, rfl, .inl (SqL.of hl4), _, _, rfl, rfl, _, rfl, _, _, rfl, rfl, lg, _, _, _, rfl, rfl, SqL.of hl4, hidx, ?_⟩
      refine ⟨_, rfl, b, _, _, _, rfl, rfl, SqT.of hbt, atI_nat (j := 1) rfl, _, rfl, _, rfl, b, _, _, _, rfl, rfl, SqT.of hbt, atI_nat (j := 0) rfl, D, _, rfl, DPut.k (k := Sum.inr x) hD4 ?_, ?_⟩
      · rw [dv_len]
        exact bigLine (by omega)
      · refine ⟨_, _, _, rfl, same_mut s4 nD, putT t' x v, ?_, ?_, ?_⟩
        · rw [upd_same, dv_put]
        · rw [List.take_add_one, hrl, hrc, List.foldl_append, ← et]
          rfl
        · have := putT_len t' x v
          omega
    · rintro σ H4 ⟨v3, v4, v5, rfl, s4, t', hD4, et, lt⟩
      refine ⟨_, rfl, ?_⟩
      have e2 : t' = undo t l := by
        rw [et]
        unfold undo
        rw [List.take_of_length_le]
        have : ((as.map V.ref).length : Int).toNat = as.length := by rw [List.length_map]; exact Int.toNat_natCast _
        rw [List.length_reverse]
        omega
      rw [e2] at hD4
      exact q H4 D s4 nD hD4
end
end K26
namespace K26
open PySem PySem.Spec PyProof.Rows L2 TL
/-! ### good names -/
def Good (z : Str) : Prop := isN z = true ∧ Big z ∧ PyData.strOk z = true
theorem names_all : ((tl LET).all fun c => (List.range 16).all fun m => isN ((⟨#[c]⟩ : Str) ++ numT ((m : Nat) : Int)) && (decide (((⟨#[c]⟩ : Str) ++ numT ((m : Nat) : Int)).length ≤ 10) && PyData.strOk ((⟨#[c]⟩ : Str) ++ numT ((m : Nat) : Int)))) = true := by decide +kernel
theorem name_good {c : Nat} {s : Int} {k : Nat} (hc : c ∈ tl LET) : Good (nameL c s k) := by
  have h := List.all_eq_true.mp names_all c hc
  have h0 : 0 ≤ (7 * ((0 : Int) + (k : Int)) + s) % 16 := Int.emod_nonneg _ (by decide)
  have h1 : (7 * ((0 : Int) + (k : Int)) + s) % 16 < 16 := Int.emod_lt_of_pos _ (by decide)
  obtain ⟨m, hm⟩ : ∃ m : Nat, (7 * ((0 : Int) + (k : Int)) + s) % 16 = (m : Int) := ⟨((7 * ((0 : Int) + (k : Int)) + s) % 16).toNat, by omega⟩
  have h2 := List.all_eq_true.mp h m (List.mem_range.mpr (by omega))
  unfold nameL
  rw [hm]
  rw [Bool.and_eq_true, Bool.and_eq_true] at h2
  exact ⟨h2.1, Nat.le_trans (of_decide_eq_true h2.2.1) (by decide), h2.2.2⟩
theorem goodT_of {ks : List Str} (h : ∀ z ∈ ks, Good z) {t : Tb} (e : keysT t = ks) : GoodT t := fun p hp => by
  have := h p.1 (e ▸ List.mem_map_of_mem hp)
  exact ⟨this.1, this.2.1⟩
theorem len_keys {t : Tb} {ks : List Str} (e : keysT t = ks) : t.length = ks.length := by
  rw [← e]
  exact (List.length_map _).symm
theorem iteN {A B : Prop} {b : Bool} (e : b = false) (h : B) : if b = true then A else B := by
  rw [e]
  exact h
def spFits (a : Ads) : Sp := fun vs H Q _ => ∃ (x d r q vd lg : Addr) (t : Tb) (l : List Rc) (es : List Ev) (ks : List Str), vs = [.ref x, .ref vd, .ref lg, .int (es.length : Nat)] ∧ StAt a H x d r q t l es ∧
  H vd = some (.dK (dv (runE (t, l) es).1)) ∧ LstAt rcV H lg (runE (t, l) es).2 ∧ KeyOk ks (t, l) ∧ (∀ e ∈ es, evOk ks e) ∧ ks.Nodup ∧ (∀ z ∈ ks, Good z) ∧ ks.length ≤ 16 ∧ l.length + es.length ≤ 100 ∧ ∀ H', Same H H' → Q (.bl true) H'
section
variable {P : Program} {w : World} {K : PySem.W.Frag} {mg : Str → Option Value} {base : Heap} {a : Ads}
theorem sc__law_fits : FnScope ["_law_store", "_law_values", "_law_log", "_law_pending", "_law_told", "_law_records", "_law_again"] ["_law_store", "_law_values", "_law_log", "_law_pending"] (defScope s__law_fits) := ⟨rfl, rfl, rfl, by decide +kernel, rfl, by decide +kernel, by decide +kernel⟩
theorem ok__law_fits (T : Txt K mg a) : FnOk P w K mg base CX0 8 a.f__law_fits a.f__law_fits_d ["_law_store", "_law_values", "_law_log", "_law_pending"] (spFits a) := by
  refine T.F__law_fits.ok sc__law_fits (fun vs H Q E h => ?_) (fun cdv A outer s H vs Q E hr h => ?_)
  · obtain ⟨x, d, r, q, vd, lg, t, l, es, ks, rfl, _⟩ := h
    rfl
  obtain ⟨x, d, r, qa, vd, lg, t, l, es, ks, rfl, hS, hv, hL, hK, hE, hn, hg, hk, hb, q⟩ := h
  refine ⟨_, (pss_cons (ps_if (PW.pt (pw_or (pt_cmpR (op_ne_dictA hr.units0) (pe_meth0 (pv 0) T.cl_Store T.m_Store_current (ok_Store_current T) (hr.mono (by decide)) T.b_Store_current .nil pass0) (pv 1) (nomark _)) (pw_or (pt_cmpR (op_neD hr.units) (pe_meth0 (pv 0) T.cl_Store T.m_Store_log (ok_Store_log T) (hr.mono (by decide)) T.b_Store_log .nil pass0) (pv 2) (nomark _)) (pw_or1 (pt_cmpR op_ne (pe_prop (pv 0) T.cl_Store T.pp_Store_pending (ok_Store_pending T) (hr.mono (by decide)) T.b_Store_pending .nil pass0 rfl) (pv 3) (nomark _))))))
      (pss_one (ps_ret pe_bl))
      pss_nil)
    (pss_cons (ps_set (i := 4) sc__law_fits.nd rfl (Or.inl rfl) (pe_meth0 (pv 0) T.cl_Store T.m_Store_current (ok_Store_current T) (hr.mono (by decide)) T.b_Store_current .nil pass0))
    (pss_cons (ps_dput (hu_of hr) (pv 4) pe_str pe_int rfl)
    (pss_cons (ps_set (i := 5) sc__law_fits.nd rfl (Or.inl rfl) (pe_meth0 (pv 0) T.cl_Store T.m_Store_log (ok_Store_log T) (hr.mono (by decide)) T.b_Store_log .nil pass0))
    (pss_cons (ps_expr (pe_bm PySem.F.plainAttrs_list PySem.F.slot_list_append PySem.F.type_list_append mt_append (pv 5) (pa_cons (pe_tup (pa_cons pe_str (pa_cons pe_int pa_nil))) pa_nil)))
    (pss_cons (ps_set (i := 6) sc__law_fits.nd rfl (Or.inl rfl) (pe_meth0 (pv 0) T.cl_Store T.m_Store_recovered (ok_Store_recovered T) (hr.mono (by decide)) T.b_Store_recovered .nil pass0))
    (pss_cons (ps_if (PW.pt (pw_or (pt_cmpR (op_ne_dictA hr.units0) (pe_meth0 (pv 6) T.cl_Store T.m_Store_current (ok_Store_current T) (hr.mono (by decide)) T.b_Store_current .nil pass0) (pe_call (ok__law_recovered T) (hr.mono (by decide)) (by rfl) T.g__law_recovered T.F__law_recovered.kp T.b__law_recovered .nil pass0 (pa_cons (pv 1) (pa_cons (pv 2) pa_nil))) (nomark _)) (pw_or (pt_cmpR (op_neD hr.units) (pe_meth0 (pv 6) T.cl_Store T.m_Store_log (ok_Store_log T) (hr.mono (by decide)) T.b_Store_log .nil pass0) (pe_lst pa_nil) (nomark _)) (pw_or1 (pt_cmpR op_ne (pe_prop (pv 6) T.cl_Store T.pp_Store_pending (ok_Store_pending T) (hr.mono (by decide)) T.b_Store_pending .nil pass0 rfl) pe_int (nomark _))))))
      (pss_one (ps_ret pe_bl))
      pss_nil)
    (pss_one (ps_ret (pe_and (pe_cmpR (op_eq_dictA hr.units0) (pe_meth0 (pv 0) T.cl_Store T.m_Store_current (ok_Store_current T) (hr.mono (by decide)) T.b_Store_current .nil pass0) (pv 1) (nomark _)) (pe_and (pe_cmpR (op_eqD hr.units) (pe_meth0 (pv 0) T.cl_Store T.m_Store_log (ok_Store_log T) (hr.mono (by decide)) T.b_Store_log .nil pass0) (pv 2) (nomark _)) (pe_one (pe_cmpR op_eq (pe_prop (pv 0) T.cl_Store T.pp_Store_pending (ok_Store_pending T) (hr.mono (by decide)) T.b_Store_pending .nil pass0 rfl) (pv 3) (nomark _)))))))))))))), ?_⟩
  have htl : t.length = ks.length := len_keys hK.1
  have hrun := hK.run hE
  have hrl := runE_log es (t, l)
  have hrl2 : (runE (t, l) es).2.length ≤ 100 := by
    have : (t, l).2.length = l.length := rfl
    omega
  have hnd : (keysT (runE (t, l) es).1).Nodup := by rw [hrun.1]; exact hn
  have hTl := len_keys hrun.1
  have okL : OkL (runE (t, l) es).2 := fun r hr => (hg _ (hrun.2 r hr)).2.2
  have hu := KeyOk.undo (l := (runE (t, l) es).2.reverse) hrun.1 fun r hr => hrun.2 r (List.mem_reverse.mp hr)
  have hgu : GoodT (undo (runE (t, l) es).1 (runE (t, l) es).2) := goodT_of hg hu
  have hnu : (keysT (undo (runE (t, l) es).1 (runE (t, l) es).2)).Nodup := by
    have : keysT (undo (runE (t, l) es).1 (runE (t, l) es).2) = ks := hu
    rw [this]
    exact hn
  obtain ⟨dx, hx, _⟩ := id hS
  refine ⟨_, rfl, x, dx, _, rfl, hx, rfl, x, d, r, qa, t, l, es, rfl, hS, by omega, by omega, fun H1 d1 s1 nd1 hd1 => ⟨_, rfl, ?_⟩⟩
  refine ⟨d1, vd, _, _, rfl, rfl, hd1, s1 _ _ hv, rfl, dv_val hnd, _, rfl, iteF ?_⟩
  refine ⟨_, rfl, x, dx, _, rfl, s1 _ _ hx, rfl, x, d, r, qa, t, l, es, rfl, hS.same s1, by omega, by omega, fun H2 r1 s2 nr1 hr1 => ⟨_, rfl, ?_⟩⟩
  have s12 := s1.trans s2
  refine ⟨_, _, dp_log hr1, dp_log (hL.same s12), shaped_log _ okL, shaped_log _ okL, ?_⟩
  rw [eqv_log _ okL]
  refine ⟨_, rfl, iteF ?_⟩
  refine ⟨_, rfl, x, dx, _, rfl, s12 _ _ hx, x, d, r, qa, t, l, es, rfl, hS.same s12, _, rfl, rfl, _, rfl, iteN (by simp) ?_⟩
  -- told
  refine ⟨_, rfl, x, dx, _, rfl, s12 _ _ hx, rfl, x, d, r, qa, t, l, es, rfl, hS.same s12, by omega, by omega, fun H3 d2 s3 nd2 hd2 => ?_⟩
  have s13 := s12.trans s3
  have nd0 : H d2 = none := s12.free nd2
  refine ⟨_, rfl, d2, _, rfl, DPut.k (k := Sum.inr (Str.ofString "")) hd2 ?_, ?_⟩
  · rw [dv_len]
    exact bigLine (by omega)
  have s14 : Same H (upd H3 d2 (.dK (putK (dv (runE (t, l) es).1) (Sum.inr (Str.ofString "")) (.int 1)))) := same_mut s13 nd0
  show tSeq _ _ _ _ (upd H3 d2 (.dK (putK (dv (runE (t, l) es).1) (Sum.inr (Str.ofString "")) (.int 1))))
  generalize (upd H3 d2 (.dK (putK (dv (runE (t, l) es).1) (Sum.inr (Str.ofString "")) (.int 1)))) = H4 at s14 ⊢
  -- records
  refine ⟨_, rfl, x, dx, _, rfl, s14 _ _ hx, rfl, x, d, r, qa, t, l, es, rfl, hS.same s14, by omega, by omega, fun H5 r2 s5 nr2 hr2 => ?_⟩
  have s15 := s14.trans s5
  have nr0 : H r2 = none := s14.free nr2
  obtain ⟨bs, hr2, hbt⟩ := hr2
  refine ⟨_, rfl, .inl ⟨rfl, _, SqL.of hr2⟩, (by show 2 ≤ sizeLine; decide), fun c nc => ⟨r2, _, _, rfl, rfl, same_upd nc _ _ hr2, ?_, ?_⟩⟩
  · rw [List.length_map, hbt.len]
    exact bigLine (by omega)
  have s16 := same_mut (o := .lst (bs.map V.ref ++ [.ref c])) (s15.trans (same_upd (o := .tup [.str "", .int 1]) nc)) nr0
  show tSeq _ _ _ _ (upd (upd H5 c (.tup [.str "", .int 1])) r2 (.lst (bs.map V.ref ++ [.ref c])))
  generalize (upd (upd H5 c (.tup [.str "", .int 1])) r2 (.lst (bs.map V.ref ++ [.ref c]))) = H6 at s16 ⊢
  -- recovered
  refine ⟨_, rfl, x, dx, _, rfl, s16 _ _ hx, rfl, x, d, r, qa, t, l, es, rfl, hS.same s16, by omega, by omega, hgu, fun H7 y d7 r7 q7 s7 ny hY => ?_⟩
  have s17 := s16.trans s7
  obtain ⟨dy, hy, _⟩ := id hY
  have hul := undo_len (runE (t, l) es).2.reverse (runE (t, l) es).1
  rw [List.length_reverse] at hul
  have hul2 : (undo (runE (t, l) es).1 (runE (t, l) es).2).length ≤ 400 := by
    unfold undo
    omega
  dsimp only [gName]
  refine ⟨_, rfl, y, dy, _, rfl, hy, rfl, y, d7, r7, q7, _, [], [], rfl, hY, by show _ + 0 ≤ 1000; omega, by decide, fun H8 d8 s8 nd8 hd8 => ?_⟩
  have s18 := s17.trans s8
  refine ⟨_, rfl, _, rfl, vd, lg, _, _, rfl, s18 _ _ hv, hL.same s18, hnd, by omega, by omega, fun H9 D9 s9 nD9 hD9 => ?_⟩
  refine ⟨d8, D9, _, _, rfl, rfl, s9 _ _ hd8, hD9, rfl, dv_val hnu, _, rfl, iteF ?_⟩
  have hy9 := (s8.trans s9) _ _ hy
  have hY9 := hY.same (s8.trans s9)
  have s19 := s18.trans s9
  refine ⟨_, rfl, y, dy, _, rfl, hy9, rfl, y, d7, r7, q7, _, [], [], rfl, hY9, by show _ + 0 ≤ 1000; omega, by decide, fun HA rA sA nrA hrA => ?_⟩
  refine ⟨(by show 0 ≤ sizeLine; decide), fun eA neA => ?_⟩
  have sAe := same_upd (o := .lst []) neA
  refine ⟨dLog [], dLog [], dp_log (hrA.same sAe), .lst (SqL.of upd_same) .nil, by decide +kernel, by decide +kernel, ?_⟩
  rw [eqv_log [] (fun r h => by cases h)]
  refine ⟨_, rfl, iteF ?_⟩
  have s1A := (s19.trans sA).trans sAe
  refine ⟨_, rfl, y, dy, _, rfl, (sA.trans sAe) _ _ hy9, y, d7, r7, q7, _, [], [], rfl, hY9.same (sA.trans sAe), rfl, _, rfl, iteN (by decide +kernel) ?_⟩
  -- as before
  generalize (upd HA eA (.lst [])) = HB at s1A ⊢
  refine ⟨_, rfl, x, dx, _, rfl, s1A _ _ hx, rfl, x, d, r, qa, t, l, es, rfl, hS.same s1A, by omega, by omega, fun HC dC sC ndC hdC => ⟨_, rfl, ?_⟩⟩
  have s1C := s1A.trans sC
  refine ⟨dC, vd, _, _, rfl, rfl, hdC, s1C _ _ hv, rfl, dv_val hnd, _, rfl, iteT ?_⟩
  refine ⟨_, rfl, x, dx, _, rfl, s1C _ _ hx, rfl, x, d, r, qa, t, l, es, rfl, hS.same s1C, by omega, by omega, fun HD rD sD nrD hrD => ⟨_, rfl, ?_⟩⟩
  have s1D := s1C.trans sD
  refine ⟨_, _, dp_log hrD, dp_log (hL.same s1D), shaped_log _ okL, shaped_log _ okL, ?_⟩
  rw [eqv_log _ okL]
  refine ⟨_, rfl, iteT ?_⟩
  refine ⟨_, rfl, x, dx, _, rfl, s1D _ _ hx, x, d, r, qa, t, l, es, rfl, hS.same s1D, _, rfl, rfl, ?_⟩
  rw [show decide (V.int (es.length : Nat) = V.int (es.length : Nat)) = true from decide_eq_true rfl]
  exact q _ s1D
end
end K26
namespace K26
open PySem PySem.Spec PyProof.Rows L2 TL
theorem cut_take (xs : List V) (m : Nat) : cutV xs none (some (m : Int)) = xs.take m := by
  unfold cutV
  rw [show HT.sIx xs.length xs.length (some (m : Int)) = min m xs.length from HT.sIx_nat _ _ m, HT.sIx_none]
  show (xs.drop 0).take (min m xs.length - 0) = xs.take m
  rw [List.drop_zero, Nat.sub_zero, ← List.take_take, List.take_length]
def spLaw (K : PySem.W.Frag) : Sp := fun vs H Q _ => ∃ (a : Addr) (ns : List Int), vs = [.ref a] ∧ SqL K H a (ns.map V.int) ∧ ns.length ≤ 63 ∧ ∀ H', Q (.bl true) H'
/-- what stands at a turn of the law -/
structure Wd (a : Ads) (H : Hp) (p l nl x d r q vd lg : Addr) (N ks : List Str) (n : Int) (t : Tb) (lo : List Rc) (es : List Ev) (T : Tb) (L : List Rc) : Prop where
  P : PoolAt H p l n
  hN : H nl = some (.lst (N.map V.str))
  np : nl ≠ p
  nq : nl ≠ l
  S : StAt a H x d r q t lo es
  rp : r ≠ p
  rl : r ≠ l
  qp : q ≠ p
  ql : q ≠ l
  qn : q ≠ nl
  hv : H vd = some (.dK (dv T))
  dvd : d ≠ vd
  hL : LstAt rcV H lg L
  gp : lg ≠ p
  gl : lg ≠ l
  gq : lg ≠ q
  eT : (T, L) = runE (t, lo) es
  K : KeyOk ks (t, lo)
  eo : ∀ e ∈ es, evOk ks e
theorem pool_lst {H : Hp} {p l : Addr} {n : Int} (P : PoolAt H p l n) : (∃ xs, H p = some (.lst xs)) ∧ ∃ ys, H l = some (.lst ys) := by
  obtain ⟨_, cs, ix, cnt, seed, ph, h1, h2, _⟩ := P
  exact ⟨⟨_, h1⟩, ⟨_, h2⟩⟩
theorem Wd.keep {a : Ads} {H H' : Hp} {p l nl x d r q vd lg : Addr} {N ks : List Str} {n m : Int} {t : Tb} {lo : List Rc} {es : List Ev} {T : Tb} {L : List Rc} (W : Wd a H p l nl x d r q vd lg N ks n t lo es T L) (k : Keep p l H H') (P' : PoolAt H' p l m) :
    Wd a H' p l nl x d r q vd lg N ks m t lo es T L := by
  obtain ⟨⟨xs, hp⟩, ⟨ys, hl⟩⟩ := pool_lst W.P
  have o1 : ∀ {b : Addr} {u : HO}, H b = some u → (∀ xs, u ≠ .lst xs) → H' b = some u := fun {b u} e n => k _ _ e (ne_of e hp (n _)) (ne_of e hl (n _))
  have ot : ∀ b xs, H b = some (.tup xs) → H' b = some (.tup xs) := fun b xs e => o1 e (by intro _ z; cases z)
  have oq : ∀ {α : Type} {f : α → List V} {q : Addr} {xs : List α}, LstAt f H q xs → q ≠ p → q ≠ l → LstAt f H' q xs := fun {α f q xs} h n m => by
    obtain ⟨as, e, ht⟩ := h
    exact ⟨as, k _ _ e n m, ht.imp ot⟩
  obtain ⟨dx, hx, hrq, hd, hr, hq⟩ := W.S
  exact { W with P := P', hN := k _ _ W.hN W.np W.nq, S := ⟨dx, o1 hx (by intro _ z; cases z), hrq, o1 hd (by intro _ z; cases z), oq hr W.rp W.rl, oq hq W.qp W.ql⟩, hv := o1 W.hv (by intro _ z; cases z), hL := oq W.hL W.gp W.gl }
theorem Wd.same {a : Ads} {H H' : Hp} {p l nl x d r q vd lg : Addr} {N ks : List Str} {n : Int} {t : Tb} {lo : List Rc} {es : List Ev} {T : Tb} {L : List Rc} (W : Wd a H p l nl x d r q vd lg N ks n t lo es T L) (s : Same H H') :
    Wd a H' p l nl x d r q vd lg N ks n t lo es T L := { W with P := W.P.same s, hN := s _ _ W.hN, S := W.S.same s, hv := s _ _ W.hv, hL := W.hL.same s }
theorem Wd.v {a : Ads} {H : Hp} {p l nl x d r q vd lg : Addr} {N ks : List Str} {n : Int} {t : Tb} {lo : List Rc} {es : List Ev} {T : Tb} {L : List Rc} (W : Wd a H p l nl x d r q vd lg N ks n t lo es T L) : H vd = some (.dK (dv (runE (t, lo) es).1)) := by
  rw [← W.eT]
  exact W.hv
theorem Wd.l {a : Ads} {H : Hp} {p l nl x d r q vd lg : Addr} {N ks : List Str} {n : Int} {t : Tb} {lo : List Rc} {es : List Ev} {T : Tb} {L : List Rc} (W : Wd a H p l nl x d r q vd lg N ks n t lo es T L) : LstAt rcV H lg (runE (t, lo) es).2 := by
  rw [← W.eT]
  exact W.hL
theorem Wd.mono {a : Ads} {H : Hp} {p l nl x d r q vd lg : Addr} {N ks : List Str} {n m : Int} {t : Tb} {lo : List Rc} {es : List Ev} {T : Tb} {L : List Rc} (W : Wd a H p l nl x d r q vd lg N ks n t lo es T L) (h : n ≤ m) :
    Wd a H p l nl x d r q vd lg N ks m t lo es T L := { W with P := W.P.mono h }
theorem evOk_sub {ks ks' : List Str} {ev : Ev} (h : evOk ks ev) (s : ∀ y ∈ ks, y ∈ ks') : evOk ks' ev := by
  cases ev with
  | log x v => exact s _ h
  | write x v => exact s _ h
  | _ => trivial
/-- what stands behind an event, but for the law's own table and log -/
structure Wp (a : Ads) (H : Hp) (p l nl x d r q vd lg : Addr) (N ks : List Str) (n : Int) (t : Tb) (lo : List Rc) (es : List Ev) (T : Tb) (L : List Rc) (ev : Ev) : Prop where
  P : PoolAt H p l n
  hN : H nl = some (.lst (N.map V.str))
  np : nl ≠ p
  nq : nl ≠ l
  S : StAt a H x d r q t lo es
  rp : r ≠ p
  rl : r ≠ l
  qp : q ≠ p
  ql : q ≠ l
  qn : q ≠ nl
  hv : H vd = some (.dK (dv T))
  dvd : d ≠ vd
  hL : LstAt rcV H lg L
  gp : lg ≠ p
  gl : lg ≠ l
  gq : lg ≠ q
  eT : stepE (T, L) ev = runE (t, lo) es
  K : KeyOk ks (t, lo)
  eo : ∀ e ∈ es, evOk ks e
theorem Wp.done {a : Ads} {H : Hp} {p l nl x d r q vd lg : Addr} {N ks : List Str} {n : Int} {t : Tb} {lo : List Rc} {es : List Ev} {T : Tb} {L : List Rc} {ev : Ev} (W : Wp a H p l nl x d r q vd lg N ks n t lo es T L ev)
    {H' : Hp} {lg' : Addr} {L' : List Rc} {T' : Tb} (e : stepE (T, L) ev = (T', L')) (kt : ∀ b xs, H b = some (.tup xs) → H' b = some (.tup xs)) (ko : ∀ b o, H b = some o → b ≠ vd → H' b = some o) (hv : H' vd = some (.dK (dv T'))) (h : LstAt rcV H' lg' L') (g : lg' = lg ∨ H lg' = none) :
    Wd a H' p l nl x d r q vd lg' N ks n t lo es T' L' := by
  obtain ⟨⟨xs, hp⟩, ⟨ys, hl⟩⟩ := pool_lst W.P
  obtain ⟨dx, hx, hrq, hd, hr, as, hq, hqt⟩ := id W.S
  have o1 : ∀ {b : Addr} {u : HO}, H b = some u → (∀ kvs, u ≠ .dK kvs) → H' b = some u := fun {b u} e n => ko _ _ e (ne_of e W.hv (n _))
  have oq : ∀ {α : Type} {f : α → List V} {q : Addr} {xs : List α}, LstAt f H q xs → LstAt f H' q xs := fun {α f q xs} h => by
    obtain ⟨as, e, ht⟩ := h
    exact ⟨as, o1 e (by intro _ z; cases z), ht.imp kt⟩
  have nl' : ∀ {b : Addr} {u : HO}, H b = some u → lg ≠ b → lg' ≠ b := fun {b u} e n z => by
    rcases g with g | g
    · exact n (g ▸ z)
    · rw [z, e] at g; cases g
  obtain ⟨_, cs, ix, cnt, seed, ph, h1, h2, rest⟩ := id W.P
  exact {
    P := W.P.keep ((o1 h1 (by intro _ z; cases z)).trans h1.symm) ((o1 h2 (by intro _ z; cases z)).trans h2.symm), hN := (o1 W.hN (by intro _ z; cases z)), np := W.np, nq := W.nq,
    S := ⟨dx, o1 hx (by intro _ z; cases z), hrq, ko _ _ hd W.dvd, oq hr, as, o1 hq (by intro _ z; cases z), hqt.imp kt⟩, rp := W.rp, rl := W.rl, qp := W.qp, ql := W.ql, qn := W.qn, hv := hv, dvd := W.dvd, hL := h,
    gp := nl' hp W.gp, gl := nl' hl W.gl, gq := nl' hq W.gq, eT := (e.symm.trans W.eT), K := W.K, eo := W.eo }
section
variable {P : Program} {w : World} {K : PySem.W.Frag} {mg : Str → Option Value} {base : Heap} {a : Ads}
theorem sc_law : FnScope ["_law_script", "_law_pool_here", "_law_names_here", "_law_values", "_law_name", "_law_given", "_law_store", "_law_log", "_law_pending", "_law_k", "_law_event_here"] ["_law_script"] (defScope s_law) := ⟨rfl, rfl, rfl, by decide +kernel, rfl, by decide +kernel, by decide +kernel⟩
theorem ok_law (T : Txt K mg a) : FnOk P w K mg base CX0 10 a.f_law a.f_law_d ["_law_script"] (spLaw K) := by
  refine T.F_law.ok sc_law (fun vs H Q E h => ?_) (fun cdv A outer s H vs Q E hr h => ?_)
  · obtain ⟨p, ns, rfl, _⟩ := h
    rfl
  obtain ⟨scr, zs, rfl, hS, hlen, q⟩ := h
  refine ⟨_, (pss_cons (ps_set (i := 1) sc_law.nd rfl (Or.inl rfl) (pe_call (ok__law_pool T) (hr.mono (by decide)) (by rfl) T.g__law_pool T.F__law_pool.kp T.b__law_pool .nil pass0 (pa_cons (pv 0) pa_nil)))
    (pss_cons (ps_set (i := 2) sc_law.nd rfl (Or.inl rfl) (pe_slice sl_list (pe_call (ok__law_names T) (hr.mono (by decide)) (by rfl) T.g__law_names T.F__law_names.kp T.b__law_names .nil pass0 (pa_cons (pv 1) pa_nil)) po_none (po_some (pe_op op_add pe_int (pe_call (ok__law_draw T) (hr.mono (by decide)) (by rfl) T.g__law_draw T.F__law_draw.kp T.b__law_draw .nil pass0 (pa_cons (pv 1) (pa_cons pe_int pa_nil)))))))
    (pss_cons (ps_set (i := 3) sc_law.nd rfl (Or.inl rfl) pe_dnewK)
    (pss_cons (ps_for PassesOwn.never rfl (pi_list (pv 2)) (pg_name (i := 4) sc_law.nd rfl (Or.inl rfl))
      (pss_one (ps_dput (hu_of hr) (pv 3) (pv 4) (pe_op op_sub (pe_call (ok__law_draw T) (hr.mono (by decide)) (by rfl) T.g__law_draw T.F__law_draw.kp T.b__law_draw .nil pass0 (pa_cons (pv 1) (pa_cons (pe_op op_pow pe_int pe_int) pa_nil))) (pe_op op_mul pe_int (pe_op op_pow pe_int pe_int))) rfl)))
    (pss_cons (ps_set (i := 5) sc_law.nd rfl (Or.inl rfl) (pe_call (ok__law_recovered T) (hr.mono (by decide)) (by rfl) T.g__law_recovered T.F__law_recovered.kp T.b__law_recovered .nil pass0 (pa_cons (pv 3) (pa_cons (pe_lst pa_nil) pa_nil))))
    (pss_cons (ps_set (i := 6) sc_law.nd rfl (Or.inl rfl) (pe_make T.mk_Store (ok_Store___init__ T) (hr.mono (by decide)) (by rfl) T.mg_Store T.b_Store___init__ .nil pass0 (pa_cons (pv 5) pa_nil)))
    (pss_cons (ps_dput (hu_of hr) (pv 5) (pe_ix ix_list (pv 2) pe_int (fun _ _ => rfl)) (pe_op op_pow pe_int pe_int) rfl)
    (pss_cons (ps_set (i := 7) sc_law.nd rfl (Or.inl rfl) (pe_lst pa_nil))
    (pss_cons (ps_set (i := 8) sc_law.nd rfl (Or.inl rfl) pe_int)
    (pss_cons (ps_if (pt_not (pt_val (pe_call (ok__law_fits T) (hr.mono (by decide)) (by rfl) T.g__law_fits T.F__law_fits.kp T.b__law_fits .nil pass0 (pa_cons (pv 6) (pa_cons (pv 3) (pa_cons (pv 7) (pa_cons (pv 8) pa_nil)))))))
      (pss_one (ps_ret pe_bl))
      pss_nil)
    (pss_cons (ps_for PassesOwn.never rfl (pi_range1 (by rfl) T.range (pa_cons (pe_call (ok__law_draw T) (hr.mono (by decide)) (by rfl) T.g__law_draw T.F__law_draw.kp T.b__law_draw .nil pass0 (pa_cons (pv 1) (pa_cons pe_int pa_nil))) pa_nil)) (pg_name (i := 9) sc_law.nd rfl (Or.inl rfl))
      (pss_cons (ps_set (i := 10) sc_law.nd rfl (Or.inl rfl) (pe_call (ok__law_event T) (hr.mono (by decide)) (by rfl) T.g__law_event T.F__law_event.kp T.b__law_event .nil pass0 (pa_cons (pv 1) (pa_cons (pv 2) pa_nil))))
      (pss_cons (ps_if (pt_cmpR op_notN (pe_meth (pv 6) T.cl_Store T.m_Store_perform (ok_Store_perform T) (hr.mono (by decide)) T.b_Store_perform .nil pass0 (pa_cons (pv 10) pa_nil)) pe_non (nomark _))
        (pss_one (ps_ret pe_bl))
        pss_nil)
      (pss_cons (ps_set (i := 8) sc_law.nd rfl (Or.inl rfl) (pe_ifExp (pt_cmpR op_eq (pe_ix ix_tup (pv 10) pe_int (fun _ _ => rfl)) pe_str (nomark _)) pe_int (pe_op op_add (pv 8) pe_int)))
      (pss_cons (ps_if (pt_cmpR op_eq (pe_ix ix_tup (pv 10) pe_int (fun _ _ => rfl)) pe_str (nomark _))
        (pss_one (ps_set (i := 7) sc_law.nd rfl (Or.inl rfl) (pe_op op_cat (pv 7) (pe_lst (pa_cons (pe_slice sl_tup (pv 10) (po_some pe_int) po_none) pa_nil)))))
        pss_nil)
      (pss_cons (ps_if (pt_cmpR op_eq (pe_ix ix_tup (pv 10) pe_int (fun _ _ => rfl)) pe_str (nomark _))
        (pss_one (ps_set (i := 7) sc_law.nd rfl (Or.inl rfl) (pe_lst pa_nil)))
        pss_nil)
      (pss_cons (ps_if (pt_cmpR op_eq (pe_ix ix_tup (pv 10) pe_int (fun _ _ => rfl)) pe_str (nomark _))
        (pss_one (ps_dput (hu_of hr) (pv 3) (pe_ix ix_tup (pv 10) pe_int (fun _ _ => rfl)) (pe_ix ix_tup (pv 10) pe_int (fun _ _ => rfl)) rfl))
        pss_nil)
      (pss_one (ps_if (PW.pt (pw_and (pt_cmpR op_gt (pe_call (ok__law_draw T) (hr.mono (by decide)) (by rfl) T.g__law_draw T.F__law_draw.kp T.b__law_draw .nil pass0 (pa_cons (pv 1) (pa_cons pe_int pa_nil))) pe_int (nomark _)) (pw_and1 (pt_not (pt_val (pe_call (ok__law_fits T) (hr.mono (by decide)) (by rfl) T.g__law_fits T.F__law_fits.kp T.b__law_fits .nil pass0 (pa_cons (pv 6) (pa_cons (pv 3) (pa_cons (pv 7) (pa_cons (pv 8) pa_nil))))))))))
        (pss_one (ps_ret pe_bl))
        pss_nil)))))))))
    (pss_one (ps_ret (pe_call (ok__law_fits T) (hr.mono (by decide)) (by rfl) T.g__law_fits T.F__law_fits.kp T.b__law_fits .nil pass0 (pa_cons (pv 6) (pa_cons (pv 3) (pa_cons (pv 7) (pa_cons (pv 8) pa_nil)))))))))))))))))), ?_⟩
  -- pool, names
  refine ⟨_, rfl, scr, zs, rfl, hS, hlen, fun H1 p l s1 np0 nl0 P1 => ?_⟩
  refine ⟨_, rfl, p, l, 0, rfl, P1, by decide, fun H2 na c sh P2 k2 nap nal nna hc sh0 sh1 hna => ?_⟩
  refine ⟨_, rfl, p, l, 2, 4, rfl, P2, by decide, by decide, log_small (by decide) (by decide), fun rr H3 rr0 rr1 P3 f3 => ?_⟩
  have hna3 : H3 na = some (.lst ((namesL c sh).map V.str)) := by rw [f3 _ nap nal]; exact hna
  obtain ⟨m, hm⟩ : ∃ m : Nat, 1 + rr = (m : Int) := ⟨(1 + rr).toNat, by omega⟩
  refine ⟨_, _, rfl, rfl, _, rfl, na, _, rfl, SqL.of hna3, fun nl nnl => ?_⟩
  rw [hm, cut_take, ← List.map_take]
  have hNlen : ((namesL c sh).take m).length = m := by
    rw [List.length_take]
    unfold namesL
    rw [List.length_map, List.length_range]
    omega
  have hgN : ∀ z ∈ (namesL c sh).take m, Good z := fun z hz => by
    obtain ⟨k, _, rfl⟩ := List.mem_map.mp (List.mem_of_mem_take hz)
    exact name_good hc
  generalize (namesL c sh).take m = N at hNlen hgN ⊢
  have hnlo := P3.off nnl
  have P4 := P3.same (same_upd (o := .lst (N.map V.str)) nnl)
  have hN4 : (upd H3 nl (.lst (N.map V.str))) nl = some (.lst (N.map V.str)) := upd_same
  show tSeq _ _ _ _ (upd H3 nl (.lst (N.map V.str)))
  generalize (upd H3 nl (.lst (N.map V.str))) = H4 at P4 hN4 ⊢
  clear P3 f3 hna3 hna nnl k2 P2 P1 nna nap nal s1 np0 nl0
  -- values
  intro vd nvd
  have hv5 : (upd H4 vd (.dK [])) vd = some (.dK (dv [])) := upd_same
  have P5 := P4.same (same_upd (o := .dK []) nvd)
  have hN5 := same_upd (o := .dK []) nvd _ _ hN4
  show tSeq _ _ _ _ (upd H4 vd (.dK []))
  generalize (upd H4 vd (.dK [])) = H5 at P5 hv5 hN5 ⊢
  refine ⟨_, rfl, nl, rfl, ⟨_, SqL.of hN5⟩, for_it (walk_list (K := K) (a := nl) (xs := N.map V.str)) (fun i σ H' => ∃ (v4 : Option V), σ = [some (.ref scr), some (.ref p), some (.ref nl), some (.ref vd), v4, none, none, none, none, none, none] ∧ PoolAt H' p l (3 + (i : Int)) ∧ H' nl = some (.lst (N.map V.str)) ∧
    ∃ t, H' vd = some (.dK (dv t)) ∧ (keysT t).Nodup ∧ t.length ≤ i ∧ (∀ y ∈ keysT t, y ∈ N) ∧ ∀ y ∈ N.take i, y ∈ keysT t)
    ⟨none, rfl, P5.mono (by decide), hN5, [], hv5, List.nodup_nil, Nat.le_refl _, fun y h => (by cases h), fun y h => (by cases h)⟩ (fun i σ H' _ ⟨_, _, _, h, _⟩ => SqL.of h) ?_ ?_⟩
  · rintro i y σ H6 H7 hi ⟨v4, rfl, P6, hN6, t, hv6, hnd, htl, hk1, hk2⟩ ⟨rfl, hy⟩
    obtain ⟨z, hz, rfl⟩ := get_map hy
    rw [List.length_map] at hi
    refine ⟨_, rfl, _, _, rfl, rfl, ⟨by decide, by decide, by decide⟩, p, l, _, _, rfl, P6, by omega, by decide, log_small (by decide) (by decide), fun r7 H8 r70 r71 P8 f8 => ?_⟩
    obtain ⟨⟨xs, hp⟩, ⟨ys, hl⟩⟩ := pool_lst P6
    have hv8 : H8 vd = some (.dK (dv t)) := by rw [f8 _ (ne_of hv6 hp (by intro z; cases z)) (ne_of hv6 hl (by intro z; cases z))]; exact hv6
    have hN8 : H8 nl = some (.lst (N.map V.str)) := by rw [f8 _ hnlo.1 hnlo.2]; exact hN6
    refine ⟨_, _, rfl, rfl, ⟨by decide, by decide, by decide⟩, _, _, rfl, rfl, .inl ⟨by decide, by decide⟩, _, _, rfl, rfl, _, rfl, _, rfl, vd, _, rfl, DPut.k (k := Sum.inr z) hv8 ?_, ?_⟩
    · rw [dv_len]
      exact bigLine (by omega)
    · obtain ⟨⟨xs8, hp8⟩, ⟨ys8, hl8⟩⟩ := pool_lst P8
      refine ⟨_, rfl, (P8.mono (by omega)).keep (upd_ne (ne_of hp8 hv8 (by intro z; cases z))) (upd_ne (ne_of hl8 hv8 (by intro z; cases z))), ?_, putT t z _, by rw [upd_same, dv_put], putT_nodup _ hnd, Nat.le_trans (putT_len ..) (by omega), fun y hy => ?_, fun y hy => ?_⟩
      · rw [upd_ne (ne_of hN8 hv8 (by intro z; cases z))]
        exact hN8
      · rcases putT_mem hy with h | h
        · exact hk1 y h
        · exact h ▸ List.mem_of_getElem? hz
      · rw [List.take_add_one, hz] at hy
        rcases List.mem_append.mp hy with h | h
        · exact putT_keep (hk2 y h)
        · obtain rfl : y = z := by simpa using h
          exact putT_has
  rintro σ H6 ⟨v4, rfl, P6, hN6, t, hv6, hnd, htl, hk1, hk2⟩
  rw [List.length_map] at P6 htl hk2
  rw [List.take_length] at hk2
  rw [hNlen] at P6 htl
  -- given
  refine ⟨_, rfl, (by show 0 ≤ sizeLine; decide), fun e0 ne0 => ?_⟩
  refine ⟨vd, e0, t, [], rfl, same_upd ne0 _ _ hv6, ⟨[], upd_same, trivial⟩, hnd, by omega, by decide, fun H7 g s7 ng hg7 => ?_⟩
  have hg7 : H7 g = some (.dK (dv t)) := hg7
  have s67 := (same_upd (o := .lst []) ne0).trans s7
  have P7 := P6.same s67
  have hN7 := s67 _ _ hN6
  have hv7 := s67 _ _ hv6
  have hgv : g ≠ vd := fun z => by rw [z, same_upd (o := .lst []) ne0 _ _ hv6] at ng; cases ng
  clear s67 s7 ng ne0 hN6 hv6 P6
  -- the store
  have goodT : GoodT t := goodT_of (ks := keysT t) (fun z hz => hgN z (hk1 z hz)) rfl
  refine ⟨_, rfl, ?_⟩
  intro x dx nx nd hne
  have s8 : Same H7 (upd (upd H7 dx (.own x)) x (.ins a.c_Store dx [])) := (same_upd nd).trans (same_upd (by rw [upd_ne (Ne.symm hne)]; exact nx))
  refine ⟨x, dx, g, t, rfl, upd_same, s8 _ _ hg7, by omega, goodT, fun H8 d r qa k8 nd8 nr8 nq8 hS8 => ⟨rfl, ?_⟩⟩
  have k78 : Same H7 H8 := fun b o e => k8 b o (s8 _ _ e) (ne_of_none e nx)
  have P8 := P7.same k78
  have hN8 := k78 _ _ hN7
  have hv8 := k78 _ _ hv7
  have hg8 := k78 _ _ hg7
  have fr : ∀ {b b' : Addr} {o : HO}, H7 b = some o → (upd (upd H7 dx (.own x)) x (.ins a.c_Store dx [])) b' = none → b' ≠ b := fun {b b' o} e n z => by rw [z, s8 _ _ e] at n; cases n
  obtain ⟨⟨xs7, hp7⟩, ⟨ys7, hl7⟩⟩ := pool_lst P7
  have hgd : d ≠ g := fr hg7 nd8
  have hdv : d ≠ vd := fr hv7 nd8
  have hrp : r ≠ p := fr hp7 nr8
  have hrl : r ≠ l := fr hl7 nr8
  have hqp : qa ≠ p := fr hp7 nq8
  have hql : qa ≠ l := fr hl7 nq8
  have hqn : qa ≠ nl := fr hN7 nq8
  -- given[..] = 10 ** 13
  have hN0 : 0 < N.length := by omega
  have hz0 : N[0]? = some N[0] := List.getElem?_eq_getElem hN0
  generalize N[0] = z0 at hz0
  have hat : atI (N.map V.str) 0 = some (.str z0) := atI_nat (j := 0) (by rw [List.getElem?_map, hz0]; rfl)
  refine ⟨_, _, rfl, rfl, ⟨by decide, by decide, by decide⟩, _, rfl, _, rfl, nl, _, _, _, rfl, rfl, SqL.of hN8, hat, g, _, rfl, DPut.k (k := Sum.inr z0) hg8 ?_, ?_⟩
  · rw [dv_len]
    exact bigLine (by omega)
  have o9 : ∀ {u : HO} (b : Addr) (o : HO), H8 b = some o → (∀ kvs, o ≠ .dK kvs) → (upd H8 g u) b = some o := fun {u} b o e n => by rw [upd_ne (ne_of e hg8 (n _))]; exact e
  obtain ⟨dx8, hx8, hrq8, hd8, hr8, hq8⟩ := hS8
  obtain ⟨_, cs8, ix8, cnt8, seed8, ph8, hp8, hl8, rest8⟩ := id P8
  have W9 : ∀ u, PoolAt (upd H8 g u) p l (3 + (m : Int)) ∧ (upd H8 g u) nl = some (.lst (N.map V.str)) ∧ (upd H8 g u) vd = some (.dK (dv t)) ∧ StAt a (upd H8 g u) x d r qa t [] [] := fun u =>
    ⟨P8.keep (by rw [hp8]; exact o9 _ _ hp8 (by intro _ z; cases z)) (by rw [hl8]; exact o9 _ _ hl8 (by intro _ z; cases z)), o9 _ _ hN8 (by intro _ z; cases z), by rw [upd_ne hgv.symm]; exact hv8,
     dx8, o9 _ _ hx8 (by intro _ z; cases z), hrq8, by rw [upd_ne hgd]; exact hd8, hr8.imp (fun b xs e => o9 _ _ e (by intro _ z; cases z)) (by obtain ⟨as, h, _⟩ := hr8; rw [h]; exact o9 _ _ h (by intro _ z; cases z)),
     hq8.imp (fun b xs e => o9 _ _ e (by intro _ z; cases z)) (by obtain ⟨as, h, _⟩ := hq8; rw [h]; exact o9 _ _ h (by intro _ z; cases z))⟩
  obtain ⟨P9, hN9, hv9, hS9⟩ := W9 (.dK (putK (dv t) (Sum.inr z0) (.int (10 ^ (13 : Int).toNat))))
  show tSeq _ _ _ _ (upd H8 g (.dK (putK (dv t) (Sum.inr z0) (.int (10 ^ (13 : Int).toNat)))))
  generalize (upd H8 g (.dK (putK (dv t) (Sum.inr z0) (.int (10 ^ (13 : Int).toNat))))) = H9 at P9 hN9 hv9 hS9 ⊢
  clear W9 o9 hx8 hd8 hr8 hq8 hp8 hl8 rest8 P8 hN8 hv8 hg8 fr k78 k8 s8 nd8 nr8 nq8 hne nd nx
  -- the log
  refine ⟨(by show 0 ≤ sizeLine; decide), fun lg nlg => ?_⟩
  have Pl := pool_lst P9
  obtain ⟨⟨xs9, hp9⟩, ⟨ys9, hl9⟩⟩ := Pl
  obtain ⟨dx9, hx9, hrq9, hd9, hr9, as9, hq9, hqt9⟩ := id hS9
  have ks0 : KeyOk (keysT t) (t, ([] : List Rc)) := ⟨rfl, fun r h => by cases h⟩
  have W : Wd a (upd H9 lg (.lst [])) p l nl x d r qa vd lg N (keysT t) 100 t [] [] t [] := {
    P := (P9.mono (by omega)).same (same_upd nlg), hN := same_upd nlg _ _ hN9, np := hnlo.1, nq := hnlo.2, S := hS9.same (same_upd nlg), rp := hrp, rl := hrl, qp := hqp, ql := hql, qn := hqn, hv := same_upd nlg _ _ hv9, dvd := hdv,
    hL := ⟨[], upd_same, trivial⟩, gp := (fun z => by rw [z, hp9] at nlg; cases nlg), gl := (fun z => by rw [z, hl9] at nlg; cases nlg), gq := (fun z => by rw [z, hq9] at nlg; cases nlg), eT := rfl, K := ks0, eo := (fun e h => by cases h) }
  have hks16 : (keysT t).length ≤ 16 := by
    unfold keysT
    rw [List.length_map]
    omega
  have hgk : ∀ z ∈ keysT t, Good z := fun z hz => hgN z (hk1 z hz)
  generalize keysT t = ks at W hks16 hgk hnd hk2 ks0
  show tSeq _ _ _ _ (upd H9 lg (.lst []))
  generalize (upd H9 lg (.lst [])) = HA at W ⊢
  clear P9 hN9 hv9 hS9 hx9 hd9 hr9 hq9 hqt9 hp9 hl9 nlg goodT ks0
  -- fits
  refine ⟨_, rfl, _, rfl, _, rfl, _, rfl, x, d, r, qa, vd, lg, t, [], [], ks, rfl, W.S, W.v, W.l, W.K, W.eo, hnd, hgk, hks16, by decide, fun HB sB => ⟨_, rfl, iteF ?_⟩⟩
  have W := W.same sB
  -- the loop
  refine ⟨_, rfl, p, l, 100, 41, rfl, W.P, by decide, by decide, log_small (by decide) (by decide), fun rr HC c0 c1 PC fC => ⟨_, rfl, by omega, by omega, ?_⟩⟩
  have W := (W.keep (Keep.draw fC) PC).mono (show (100 : Int) + 1 ≤ 200 by decide)
  clear PC fC sB
  refine for_range (lo := 0) (n := _) (fun i σ H' => ∃ (v9 v10 : Option V) (d r q lg : Addr) (t : Tb) (lo : List Rc) (es : List Ev) (T0 : Tb) (L : List Rc) (v4 v5 : Option V), σ = [some (.ref scr), some (.ref p), some (.ref nl), some (.ref vd), v4, v5, some (.ref x), some (.ref lg), some (.int (es.length : Nat)), v9, v10] ∧
    Wd a H' p l nl x d r q vd lg N ks (200 + 5 * (i : Int)) t lo es T0 L ∧ lo.length + es.length ≤ i) ⟨_, _, _, _, _, _, _, _, _, _, _, _, _, rfl, W, Nat.zero_le _⟩ ?_ ?_
  · rintro i σ H0 hi ⟨v9, v10, d, r, qa, lg, t, lo, es, T0, L, v4, v5, rfl, W, hb⟩
    have hi41 : i < 41 := by omega
    refine ⟨_, rfl, _, rfl, p, l, nl, _, N, rfl, W.P, by omega, W.hN, W.np, W.nq, hN0, by omega, fun H1 e ev P1 k1 ne he hok => ?_⟩
    have W := W.keep k1 P1
    have hev : evOk ks ev := evOk_sub hok (by intro y hy; exact hk2 y hy)
    obtain ⟨dx, hx, _⟩ := id W.S
    have hkt : keysT t = ks := W.K.1
    have htl2 : t.length = ks.length := len_keys hkt
    have he0 : lg ≠ e := fun z => by
      obtain ⟨as, h, _⟩ := W.hL
      rw [z, he] at h
      cases h
    refine ⟨_, rfl, x, dx, _, rfl, hx, rfl, _, rfl, x, d, r, qa, e, t, lo, es, ev, rfl, W.S, he, by rw [hkt]; exact hev, by omega, by omega, fun H2 d' r' q' t' lo' es' k2 od or oq S2 e3 => ⟨rfl, _, rfl, iteF ?_⟩⟩
    obtain ⟨⟨xs1, hp1⟩, ⟨ys1, hl1⟩⟩ := pool_lst W.P
    obtain ⟨dx1, hx1, hrq1, hd1, ⟨as1, hr1, hrt1⟩, as2, hq1, hqt1⟩ := id W.S
    have o2 : ∀ {b : Addr} {u : HO}, H1 b = some u → (∀ C dx fs, u ≠ .ins C dx fs) → (∀ xs, u ≠ .lst xs) → H2 b = some u := fun {b u} z n m => k2 b u z (ne_of z hx1 (n _ _ _)) (ne_of z hq1 (m _))
    have o3 : ∀ {b : Addr} {xs : List V}, H1 b = some (.lst xs) → b ≠ qa → H2 b = some (.lst xs) := fun {b xs} z n => k2 b _ z (ne_of z hx1 (by intro y; cases y)) n
    have ot : ∀ b xs, H1 b = some (.tup xs) → H2 b = some (.tup xs) := fun b xs z => o2 z (by intro _ _ _ y; cases y) (by intro _ y; cases y)
    have old : ∀ {b b' c : Addr} {u : HO}, Old H1 b b' → b ≠ c → H1 c = some u → b' ≠ c := fun {b b' c u} o n z => by
      rcases o with o | o
      · rw [o]; exact n
      · exact fun y => by rw [y, z] at o; cases o
    have he2 : H2 e = some (.tup (evV ev)) := ot _ _ he
    have hstep : stepE (T0, L) ev = runE (t', lo') es' := by
      rw [W.eT, ← runE_snoc]
      cases ev with
      | flush => cases e3; exact runE_snoc _ _ _
      | _ => cases e3; rfl
    have hK2 : KeyOk ks (t', lo') := by
      cases ev with
      | flush => cases e3; exact W.K.run W.eo
      | _ => cases e3; exact W.K
    have heo2 : ∀ e ∈ es', evOk ks e := by
      cases ev with
      | flush => cases e3; exact fun e h => by cases h
      | _ => cases e3; exact fun e h => (List.mem_append.mp h).elim (W.eo e) fun z => by
               obtain rfl := List.mem_singleton.mp z
               exact hev
    have hb2 : lo'.length + es'.length ≤ i + 1 := by
      have h1 := runE_log es (t, lo)
      have h2 : (t, lo).2.length = lo.length := rfl
      cases ev with
      | flush => cases e3; show (runE (t, lo) es).2.length + 0 ≤ _; omega
      | _ => cases e3; rw [List.length_append]; show _ + (_ + 1) ≤ _; omega
    have hlen2 : ((es'.length : Nat) : Int) = if decide ((evV ev).headD .non = V.str "flush") = true then 0 else ((es.length : Nat) : Int) + 1 := by
      cases ev with
      | flush => cases e3; rfl
      | log _ _ => cases e3; rw [List.length_append]; rfl
      | write _ _ => cases e3; rw [List.length_append]; rfl
      | clear => cases e3; rw [List.length_append]; rfl
    have Wp2 : Wp a H2 p l nl x d' r' q' vd lg N ks (200 + 5 * (i : Int) + 3) t' lo' es' T0 L ev := {
      P := W.P.keep ((o3 hp1 W.qp.symm).trans hp1.symm) ((o3 hl1 W.ql.symm).trans hl1.symm), hN := o3 W.hN W.qn.symm, np := W.np, nq := W.nq, S := S2, rp := old or W.rp hp1, rl := old or W.rl hl1, qp := old oq W.qp hp1, ql := old oq W.ql hl1, qn := old oq W.qn W.hN,
      hv := o2 W.hv (by intro _ _ _ y; cases y) (by intro _ y; cases y), dvd := old od W.dvd W.hv,
      hL := (let ⟨as, h, ht⟩ := W.hL; ⟨as, o3 h W.gq, ht.imp ot⟩), gp := W.gp, gl := W.gl, gq := (let ⟨as, h, _⟩ := W.hL; fun z => (old oq W.gq.symm h) z.symm), eT := hstep, K := hK2, eo := heo2 }
    cases ev with
    | log y v =>
      have hl : ((es'.length : Nat) : Int) = ((es.length : Nat) : Int) + 1 := by cases e3; rw [List.length_append]; rfl
      refine ⟨_, rfl, e, _, _, _, rfl, rfl, SqT.of he2, atI_nat (j := 0) rfl, rfl, _, rfl, ite2 (no_b ev_lf) (fun _ => ⟨_, rfl, _, _, rfl, rfl, ?_⟩)⟩
      refine ⟨_, rfl, e, _, _, _, rfl, rfl, SqT.of he2, atI_nat (j := 0) rfl, rfl, _, rfl, ite2 (fun _ => ?_) (yes_b (decide_eq_true rfl))⟩
      obtain ⟨as5, hg5, ht5⟩ := id Wp2.hL
      have hle := runE_log es (t, lo)
      have hle2 : (t, lo).2.length = lo.length := rfl
      have hLl : L.length = (runE (t, lo) es).2.length := congrArg (fun z : Tb × List Rc => z.2.length) W.eT
      refine ⟨_, rfl, _, rfl, 1, rfl, e, _, rfl, SqT.of he2, (fun z => by have z1 : (1 : Nat) = 0 := z.1; cases z1), fun c nc => ⟨(by show 1 ≤ sizeLine; decide), fun L1 nL1 => ⟨lg, L1, _, _, rfl, rfl, same_upd nL1 _ _ (same_upd nc _ _ hg5), upd_same, ?_, fun L2 nL2 => ?_⟩⟩⟩
      · rw [List.length_map, ht5.len]
        exact bigLe (by show _ + 1 ≤ _; omega)
      have s5 := ((same_upd (o := .tup (cutV (evV (.log y v)) (some 1) none)) nc).trans (same_upd (o := .lst [.ref c]) nL1)).trans (same_upd (o := .lst (as5.map V.ref ++ [.ref c])) nL2)
      have W5 := Wp2.done (H' := upd (upd (upd H2 c (.tup (cutV (evV (.log y v)) (some 1) none))) L1 (.lst [.ref c])) L2 (.lst (as5.map V.ref ++ [.ref c]))) (lg' := L2) (L' := L ++ [(y, v)]) (T' := T0) rfl (fun b xs z => s5 _ _ z) (fun b o z _ => s5 _ _ z) (s5 _ _ Wp2.hv)
        ⟨as5 ++ [c], by rw [upd_same, List.map_append]; rfl, (ht5.same s5).app (r := (y, v)) (same_upd nL2 _ _ (same_upd nL1 _ _ upd_same))⟩ (.inr (((same_upd nc).trans (same_upd nL1)).free nL2))
      have he5 := s5 _ _ he2
      show tSeq _ _ _ _ (upd (upd (upd H2 c (.tup (cutV (evV (.log y v)) (some 1) none))) L1 (.lst [.ref c])) L2 (.lst (as5.map V.ref ++ [.ref c])))
      generalize (upd (upd (upd H2 c (.tup (cutV (evV (.log y v)) (some 1) none))) L1 (.lst [.ref c])) L2 (.lst (as5.map V.ref ++ [.ref c]))) = H5 at W5 he5 ⊢
      refine ⟨_, rfl, e, _, _, _, rfl, rfl, SqT.of he5, atI_nat (j := 0) rfl, rfl, _, rfl, ite2 (no_b ev_lc) (fun _ => ?_)⟩
      refine ⟨_, rfl, e, _, _, _, rfl, rfl, SqT.of he5, atI_nat (j := 0) rfl, rfl, _, rfl, ite2 (no_b ev_lw) (fun _ => ?_)⟩
      refine ⟨_, rfl, p, l, _, 3, rfl, W5.P, by omega, by decide, log_small (by decide) (by decide), fun r5 H6 r50 r51 P6 f6 => ⟨_, _, rfl, rfl, _, rfl, ite2 (fun _ => ?_) (fun _ => ?_)⟩⟩
      · have W6 := (W5.keep (Keep.draw f6) P6).mono (m := 200 + 5 * ((i + 1 : Nat) : Int)) (by omega)
        refine ⟨_, rfl, _, rfl, _, rfl, _, rfl, x, d', r', q', vd, _, t', lo', es', ks, by rw [hl]; rfl, W6.S, W6.v, W6.l, W6.K, W6.eo, hnd, hgk, hks16, by omega, fun H7 s7 => ⟨_, rfl, iteF ?_⟩⟩
        exact ⟨_, _, d', r', q', _, t', lo', es', _, _, _, _, by rw [hl]; rfl, W6.same s7, hb2⟩
      · refine iteF ?_
        have W6 := (W5.keep (Keep.draw f6) P6).mono (m := 200 + 5 * ((i + 1 : Nat) : Int)) (by omega)
        exact ⟨_, _, d', r', q', _, t', lo', es', _, _, _, _, by rw [hl]; rfl, W6, hb2⟩
    | write y v =>
      have hl : ((es'.length : Nat) : Int) = ((es.length : Nat) : Int) + 1 := by cases e3; rw [List.length_append]; rfl
      refine ⟨_, rfl, e, _, _, _, rfl, rfl, SqT.of he2, atI_nat (j := 0) rfl, rfl, _, rfl, ite2 (no_b ev_wf) (fun _ => ⟨_, rfl, _, _, rfl, rfl, ?_⟩)⟩
      refine ⟨_, rfl, e, _, _, _, rfl, rfl, SqT.of he2, atI_nat (j := 0) rfl, rfl, _, rfl, ite2 (no_b ev_wl) (fun _ => ?_)⟩
      refine ⟨_, rfl, e, _, _, _, rfl, rfl, SqT.of he2, atI_nat (j := 0) rfl, rfl, _, rfl, ite2 (no_b ev_wc) (fun _ => ?_)⟩
      refine ⟨_, rfl, e, _, _, _, rfl, rfl, SqT.of he2, atI_nat (j := 0) rfl, rfl, _, rfl, ite2 (fun _ => ?_) (yes_b (decide_eq_true rfl))⟩
      have hT0 : T0.length = ks.length := by
        have hr2 := W.K.run W.eo
        rw [← W.eT] at hr2
        exact len_keys hr2.1
      refine ⟨_, rfl, e, _, _, _, rfl, rfl, SqT.of he2, atI_nat (j := 2) rfl, _, rfl, _, rfl, e, _, _, _, rfl, rfl, SqT.of he2, atI_nat (j := 1) rfl, vd, _, rfl, DPut.k (k := Sum.inr y) Wp2.hv ?_, ?_⟩
      · rw [dv_len]
        exact bigLine (by omega)
      have W5 := Wp2.done (H' := upd H2 vd (.dK (putK (dv T0) (Sum.inr y) (.int v)))) (lg' := lg) (L' := L) (T' := putT T0 y v) rfl (tup_off Wp2.hv (by intro xs z; cases z)) (fun b o z n => by rw [upd_ne n]; exact z) (by rw [upd_same, dv_put])
        (Wp2.hL.imp (tup_off Wp2.hv (by intro xs z; cases z)) (by obtain ⟨as, h, _⟩ := Wp2.hL; exact upd_ne (ne_of h Wp2.hv (by intro z; cases z)))) (.inl rfl)
      show tSeq _ _ _ _ (upd H2 vd (.dK (putK (dv T0) (Sum.inr y) (.int v))))
      generalize (upd H2 vd (.dK (putK (dv T0) (Sum.inr y) (.int v)))) = H5 at W5 ⊢
      refine ⟨_, rfl, p, l, _, 3, rfl, W5.P, by omega, by decide, log_small (by decide) (by decide), fun r5 H6 r50 r51 P6 f6 => ⟨_, _, rfl, rfl, _, rfl, ite2 (fun _ => ?_) (fun _ => ?_)⟩⟩
      · have W6 := (W5.keep (Keep.draw f6) P6).mono (m := 200 + 5 * ((i + 1 : Nat) : Int)) (by omega)
        refine ⟨_, rfl, _, rfl, _, rfl, _, rfl, x, d', r', q', vd, _, t', lo', es', ks, by rw [hl]; rfl, W6.S, W6.v, W6.l, W6.K, W6.eo, hnd, hgk, hks16, by omega, fun H7 s7 => ⟨_, rfl, iteF ?_⟩⟩
        exact ⟨_, _, d', r', q', _, t', lo', es', _, _, _, _, by rw [hl]; rfl, W6.same s7, hb2⟩
      · refine iteF ?_
        have W6 := (W5.keep (Keep.draw f6) P6).mono (m := 200 + 5 * ((i + 1 : Nat) : Int)) (by omega)
        exact ⟨_, _, d', r', q', _, t', lo', es', _, _, _, _, by rw [hl]; rfl, W6, hb2⟩
    | clear =>
      have hl : ((es'.length : Nat) : Int) = ((es.length : Nat) : Int) + 1 := by cases e3; rw [List.length_append]; rfl
      refine ⟨_, rfl, e, _, _, _, rfl, rfl, SqT.of he2, atI_nat (j := 0) rfl, rfl, _, rfl, ite2 (no_b ev_cf) (fun _ => ⟨_, rfl, _, _, rfl, rfl, ?_⟩)⟩
      refine ⟨_, rfl, e, _, _, _, rfl, rfl, SqT.of he2, atI_nat (j := 0) rfl, rfl, _, rfl, ite2 (no_b ev_cl) (fun _ => ?_)⟩
      refine ⟨_, rfl, e, _, _, _, rfl, rfl, SqT.of he2, atI_nat (j := 0) rfl, rfl, _, rfl, ite2 (fun _ => ?_) (yes_b (decide_eq_true rfl))⟩
      refine ⟨(by show 0 ≤ sizeLine; decide), fun L2 nL2 => ?_⟩
      have s5 : Same H2 (upd H2 L2 (.lst [])) := same_upd nL2
      have W5 := Wp2.done (H' := upd H2 L2 (.lst [])) (lg' := L2) (L' := []) (T' := T0) rfl (fun b xs z => s5 _ _ z) (fun b o z _ => s5 _ _ z) (s5 _ _ Wp2.hv) ⟨[], upd_same, trivial⟩ (.inr nL2)
      have he5 := s5 _ _ he2
      show tSeq _ _ _ _ (upd H2 L2 (.lst []))
      generalize (upd H2 L2 (.lst [])) = H5 at W5 he5 ⊢
      refine ⟨_, rfl, e, _, _, _, rfl, rfl, SqT.of he5, atI_nat (j := 0) rfl, rfl, _, rfl, ite2 (no_b ev_cw) (fun _ => ?_)⟩
      refine ⟨_, rfl, p, l, _, 3, rfl, W5.P, by omega, by decide, log_small (by decide) (by decide), fun r5 H6 r50 r51 P6 f6 => ⟨_, _, rfl, rfl, _, rfl, ite2 (fun _ => ?_) (fun _ => ?_)⟩⟩
      · have W6 := (W5.keep (Keep.draw f6) P6).mono (m := 200 + 5 * ((i + 1 : Nat) : Int)) (by omega)
        refine ⟨_, rfl, _, rfl, _, rfl, _, rfl, x, d', r', q', vd, _, t', lo', es', ks, by rw [hl]; rfl, W6.S, W6.v, W6.l, W6.K, W6.eo, hnd, hgk, hks16, by omega, fun H7 s7 => ⟨_, rfl, iteF ?_⟩⟩
        exact ⟨_, _, d', r', q', _, t', lo', es', _, _, _, _, by rw [hl]; rfl, W6.same s7, hb2⟩
      · refine iteF ?_
        have W6 := (W5.keep (Keep.draw f6) P6).mono (m := 200 + 5 * ((i + 1 : Nat) : Int)) (by omega)
        exact ⟨_, _, d', r', q', _, t', lo', es', _, _, _, _, by rw [hl]; rfl, W6, hb2⟩
    | flush =>
      have hl : ((es'.length : Nat) : Int) = 0 := by cases e3; rfl
      refine ⟨_, rfl, e, _, _, _, rfl, rfl, SqT.of he2, atI_nat (j := 0) rfl, rfl, _, rfl, ite2 (fun _ => ?_) (yes_b (decide_eq_true rfl))⟩
      refine ⟨_, rfl, e, _, _, _, rfl, rfl, SqT.of he2, atI_nat (j := 0) rfl, rfl, _, rfl, ite2 (no_b ev_fl) (fun _ => ?_)⟩
      refine ⟨_, rfl, e, _, _, _, rfl, rfl, SqT.of he2, atI_nat (j := 0) rfl, rfl, _, rfl, ite2 (no_b ev_fc) (fun _ => ?_)⟩
      refine ⟨_, rfl, e, _, _, _, rfl, rfl, SqT.of he2, atI_nat (j := 0) rfl, rfl, _, rfl, ite2 (no_b ev_fw) (fun _ => ?_)⟩
      have W5 := Wp2.done (H' := H2) (lg' := lg) (L' := L) (T' := T0) rfl (fun b xs z => z) (fun b o z _ => z) Wp2.hv Wp2.hL (.inl rfl)
      refine ⟨_, rfl, p, l, _, 3, rfl, W5.P, by omega, by decide, log_small (by decide) (by decide), fun r5 H6 r50 r51 P6 f6 => ⟨_, _, rfl, rfl, _, rfl, ite2 (fun _ => ?_) (fun _ => ?_)⟩⟩
      · have W6 := (W5.keep (Keep.draw f6) P6).mono (m := 200 + 5 * ((i + 1 : Nat) : Int)) (by omega)
        refine ⟨_, rfl, _, rfl, _, rfl, _, rfl, x, d', r', q', vd, _, t', lo', es', ks, by rw [hl]; rfl, W6.S, W6.v, W6.l, W6.K, W6.eo, hnd, hgk, hks16, by omega, fun H7 s7 => ⟨_, rfl, iteF ?_⟩⟩
        exact ⟨_, _, d', r', q', _, t', lo', es', _, _, _, _, by rw [hl]; rfl, W6.same s7, hb2⟩
      · refine iteF ?_
        have W6 := (W5.keep (Keep.draw f6) P6).mono (m := 200 + 5 * ((i + 1 : Nat) : Int)) (by omega)
        exact ⟨_, _, d', r', q', _, t', lo', es', _, _, _, _, by rw [hl]; rfl, W6, hb2⟩
  · rintro σ H0 ⟨v9, v10, d, r, qa, lg, t, lo, es, T0, L, v4, v5, rfl, W, hb⟩
    have : lo.length + es.length ≤ 50 := by omega
    exact ⟨_, rfl, _, rfl, _, rfl, _, rfl, x, d, r, qa, vd, lg, t, lo, es, ks, rfl, W.S, W.v, W.l, W.K, W.eo, hnd, hgk, hks16, by omega, fun HB sB => q HB⟩
end
end K26
namespace K26
open PySem PySem.Spec PyProof.Rows L2 TL
theorem all_mk {l : PySem.W.OpenLaw} {w : World} {K : PySem.W.Frag} {h : Heap} {mg : Str → Option Value} {fa f_is_integer f_is_word f_is_name f_are_values f_is_event f_behind f_undone_by_log f_Store___init__ f_Store_perform f_Store_current f_Store_log f_Store_pending f_Store_recovered f_store_at f__law_pool f__law_mixed f__law_draw f__law_names f__law_event f__law_recovered f__law_fits f_law c_Store t_KEYWORDS t_FLUSH t_CLEAR pr_Store_pending : Addr} (X : K.In h) (G : h.Ns mainGlobals mg) (hfa : mg "law" = some (.ref fa))
    {od_is_integer an_is_integer : Option Addr} {sl_is_integer : Array (Option Value)} {oc_is_integer kV_is_integer dc_is_integer pm_is_integer cd_is_integer ct_is_integer : Value}
    (a_is_integer : PySem.W.nsIn K mainGlobals "is_integer" = some (some (.ref f_is_integer)))
    (l_is_integer : K.lookup f_is_integer = some ⟨oc_is_integer, od_is_integer, .func (PySem.W.fnOf "is_integer" "is_integer" (defArgs s_is_integer) (defBody s_is_integer) (defScope s_is_integer) .none kV_is_integer dc_is_integer pm_is_integer an_is_integer cd_is_integer ct_is_integer), sl_is_integer⟩) (e_is_integer : PySem.W.codeIn K cd_is_integer "is_integer" = true) (k_is_integer : PySem.W.keepIn K (.ref f_is_integer) = true)
    {od_is_word an_is_word : Option Addr} {sl_is_word : Array (Option Value)} {oc_is_word kV_is_word dc_is_word pm_is_word cd_is_word ct_is_word : Value}
    (a_is_word : PySem.W.nsIn K mainGlobals "is_word" = some (some (.ref f_is_word)))
    (l_is_word : K.lookup f_is_word = some ⟨oc_is_word, od_is_word, .func (PySem.W.fnOf "is_word" "is_word" (defArgs s_is_word) (defBody s_is_word) (defScope s_is_word) .none kV_is_word dc_is_word pm_is_word an_is_word cd_is_word ct_is_word), sl_is_word⟩) (e_is_word : PySem.W.codeIn K cd_is_word "is_word" = true) (k_is_word : PySem.W.keepIn K (.ref f_is_word) = true)
    {od_is_name an_is_name : Option Addr} {sl_is_name : Array (Option Value)} {oc_is_name kV_is_name dc_is_name pm_is_name cd_is_name ct_is_name : Value}
    (a_is_name : PySem.W.nsIn K mainGlobals "is_name" = some (some (.ref f_is_name)))
    (l_is_name : K.lookup f_is_name = some ⟨oc_is_name, od_is_name, .func (PySem.W.fnOf "is_name" "is_name" (defArgs s_is_name) (defBody s_is_name) (defScope s_is_name) .none kV_is_name dc_is_name pm_is_name an_is_name cd_is_name ct_is_name), sl_is_name⟩) (e_is_name : PySem.W.codeIn K cd_is_name "is_name" = true) (k_is_name : PySem.W.keepIn K (.ref f_is_name) = true)
    {od_are_values an_are_values : Option Addr} {sl_are_values : Array (Option Value)} {oc_are_values kV_are_values dc_are_values pm_are_values cd_are_values ct_are_values : Value}
    (a_are_values : PySem.W.nsIn K mainGlobals "are_values" = some (some (.ref f_are_values)))
    (l_are_values : K.lookup f_are_values = some ⟨oc_are_values, od_are_values, .func (PySem.W.fnOf "are_values" "are_values" (defArgs s_are_values) (defBody s_are_values) (defScope s_are_values) .none kV_are_values dc_are_values pm_are_values an_are_values cd_are_values ct_are_values), sl_are_values⟩) (e_are_values : PySem.W.codeIn K cd_are_values "are_values" = true) (k_are_values : PySem.W.keepIn K (.ref f_are_values) = true)
    {od_is_event an_is_event : Option Addr} {sl_is_event : Array (Option Value)} {oc_is_event kV_is_event dc_is_event pm_is_event cd_is_event ct_is_event : Value}
    (a_is_event : PySem.W.nsIn K mainGlobals "is_event" = some (some (.ref f_is_event)))
    (l_is_event : K.lookup f_is_event = some ⟨oc_is_event, od_is_event, .func (PySem.W.fnOf "is_event" "is_event" (defArgs s_is_event) (defBody s_is_event) (defScope s_is_event) .none kV_is_event dc_is_event pm_is_event an_is_event cd_is_event ct_is_event), sl_is_event⟩) (e_is_event : PySem.W.codeIn K cd_is_event "is_event" = true) (k_is_event : PySem.W.keepIn K (.ref f_is_event) = true)
    {od_behind an_behind : Option Addr} {sl_behind : Array (Option Value)} {oc_behind kV_behind dc_behind pm_behind cd_behind ct_behind : Value}
    (a_behind : PySem.W.nsIn K mainGlobals "behind" = some (some (.ref f_behind)))
    (l_behind : K.lookup f_behind = some ⟨oc_behind, od_behind, .func (PySem.W.fnOf "behind" "behind" (defArgs s_behind) (defBody s_behind) (defScope s_behind) .none kV_behind dc_behind pm_behind an_behind cd_behind ct_behind), sl_behind⟩) (e_behind : PySem.W.codeIn K cd_behind "behind" = true) (k_behind : PySem.W.keepIn K (.ref f_behind) = true)
    {od_undone_by_log an_undone_by_log : Option Addr} {sl_undone_by_log : Array (Option Value)} {oc_undone_by_log kV_undone_by_log dc_undone_by_log pm_undone_by_log cd_undone_by_log ct_undone_by_log : Value}
    (a_undone_by_log : PySem.W.nsIn K mainGlobals "undone_by_log" = some (some (.ref f_undone_by_log)))
    (l_undone_by_log : K.lookup f_undone_by_log = some ⟨oc_undone_by_log, od_undone_by_log, .func (PySem.W.fnOf "undone_by_log" "undone_by_log" (defArgs s_undone_by_log) (defBody s_undone_by_log) (defScope s_undone_by_log) .none kV_undone_by_log dc_undone_by_log pm_undone_by_log an_undone_by_log cd_undone_by_log ct_undone_by_log), sl_undone_by_log⟩) (e_undone_by_log : PySem.W.codeIn K cd_undone_by_log "undone_by_log" = true) (k_undone_by_log : PySem.W.keepIn K (.ref f_undone_by_log) = true)
    {od_Store___init__ an_Store___init__ : Option Addr} {sl_Store___init__ : Array (Option Value)} {oc_Store___init__ kV_Store___init__ dc_Store___init__ pm_Store___init__ cd_Store___init__ ct_Store___init__ : Value}
    (a_Store___init__ : PySem.W.findIn K (.ref c_Store) "__init__" = some (some (.ref f_Store___init__)))
    (l_Store___init__ : K.lookup f_Store___init__ = some ⟨oc_Store___init__, od_Store___init__, .func (PySem.W.fnOf "__init__" "Store.__init__" (defArgs s_Store___init__) (defBody s_Store___init__) (defScope s_Store___init__) .none kV_Store___init__ dc_Store___init__ pm_Store___init__ an_Store___init__ cd_Store___init__ ct_Store___init__), sl_Store___init__⟩) (e_Store___init__ : PySem.W.codeIn K cd_Store___init__ "Store.__init__" = true) (k_Store___init__ : PySem.W.keepIn K (.ref f_Store___init__) = true)
    (i_Store___init__ : PySem.W.isFn K (.ref f_Store___init__) = true)
    {od_Store_perform an_Store_perform : Option Addr} {sl_Store_perform : Array (Option Value)} {oc_Store_perform kV_Store_perform dc_Store_perform pm_Store_perform cd_Store_perform ct_Store_perform : Value}
    (a_Store_perform : PySem.W.findIn K (.ref c_Store) "perform" = some (some (.ref f_Store_perform)))
    (l_Store_perform : K.lookup f_Store_perform = some ⟨oc_Store_perform, od_Store_perform, .func (PySem.W.fnOf "perform" "Store.perform" (defArgs s_Store_perform) (defBody s_Store_perform) (defScope s_Store_perform) .none kV_Store_perform dc_Store_perform pm_Store_perform an_Store_perform cd_Store_perform ct_Store_perform), sl_Store_perform⟩) (e_Store_perform : PySem.W.codeIn K cd_Store_perform "Store.perform" = true) (k_Store_perform : PySem.W.keepIn K (.ref f_Store_perform) = true)
    (i_Store_perform : PySem.W.isFn K (.ref f_Store_perform) = true)
    {od_Store_current an_Store_current : Option Addr} {sl_Store_current : Array (Option Value)} {oc_Store_current kV_Store_current dc_Store_current pm_Store_current cd_Store_current ct_Store_current : Value}
    (a_Store_current : PySem.W.findIn K (.ref c_Store) "current" = some (some (.ref f_Store_current)))
    (l_Store_current : K.lookup f_Store_current = some ⟨oc_Store_current, od_Store_current, .func (PySem.W.fnOf "current" "Store.current" (defArgs s_Store_current) (defBody s_Store_current) (defScope s_Store_current) .none kV_Store_current dc_Store_current pm_Store_current an_Store_current cd_Store_current ct_Store_current), sl_Store_current⟩) (e_Store_current : PySem.W.codeIn K cd_Store_current "Store.current" = true) (k_Store_current : PySem.W.keepIn K (.ref f_Store_current) = true)
    (i_Store_current : PySem.W.isFn K (.ref f_Store_current) = true)
    {od_Store_log an_Store_log : Option Addr} {sl_Store_log : Array (Option Value)} {oc_Store_log kV_Store_log dc_Store_log pm_Store_log cd_Store_log ct_Store_log : Value}
    (a_Store_log : PySem.W.findIn K (.ref c_Store) "log" = some (some (.ref f_Store_log)))
    (l_Store_log : K.lookup f_Store_log = some ⟨oc_Store_log, od_Store_log, .func (PySem.W.fnOf "log" "Store.log" (defArgs s_Store_log) (defBody s_Store_log) (defScope s_Store_log) .none kV_Store_log dc_Store_log pm_Store_log an_Store_log cd_Store_log ct_Store_log), sl_Store_log⟩) (e_Store_log : PySem.W.codeIn K cd_Store_log "Store.log" = true) (k_Store_log : PySem.W.keepIn K (.ref f_Store_log) = true)
    (i_Store_log : PySem.W.isFn K (.ref f_Store_log) = true)
    {od_Store_pending an_Store_pending : Option Addr} {sl_Store_pending : Array (Option Value)} {oc_Store_pending kV_Store_pending dc_Store_pending pm_Store_pending cd_Store_pending ct_Store_pending : Value}
    (a_Store_pending : PySem.W.findIn K (.ref c_Store) "pending" = some (some (.ref pr_Store_pending))) (pg_Store_pending : PySem.W.specialIn K (.ref pr_Store_pending) "__get__" = some (some (.builtin "property.__get__"))) (pt_Store_pending : PySem.W.takesIn K (.ref pr_Store_pending) = some true) {rs_Store_pending : List Value} (pq_Store_pending : PySem.W.recIn K pr_Store_pending "property" = some (.ref f_Store_pending :: rs_Store_pending))
    (l_Store_pending : K.lookup f_Store_pending = some ⟨oc_Store_pending, od_Store_pending, .func (PySem.W.fnOf "pending" "Store.pending" (defArgs s_Store_pending) (defBody s_Store_pending) (defScope s_Store_pending) .none kV_Store_pending dc_Store_pending pm_Store_pending an_Store_pending cd_Store_pending ct_Store_pending), sl_Store_pending⟩) (e_Store_pending : PySem.W.codeIn K cd_Store_pending "Store.pending" = true) (k_Store_pending : PySem.W.keepIn K (.ref f_Store_pending) = true)
    {od_Store_recovered an_Store_recovered : Option Addr} {sl_Store_recovered : Array (Option Value)} {oc_Store_recovered kV_Store_recovered dc_Store_recovered pm_Store_recovered cd_Store_recovered ct_Store_recovered : Value}
    (a_Store_recovered : PySem.W.findIn K (.ref c_Store) "recovered" = some (some (.ref f_Store_recovered)))
    (l_Store_recovered : K.lookup f_Store_recovered = some ⟨oc_Store_recovered, od_Store_recovered, .func (PySem.W.fnOf "recovered" "Store.recovered" (defArgs s_Store_recovered) (defBody s_Store_recovered) (defScope s_Store_recovered) .none kV_Store_recovered dc_Store_recovered pm_Store_recovered an_Store_recovered cd_Store_recovered ct_Store_recovered), sl_Store_recovered⟩) (e_Store_recovered : PySem.W.codeIn K cd_Store_recovered "Store.recovered" = true) (k_Store_recovered : PySem.W.keepIn K (.ref f_Store_recovered) = true)
    (i_Store_recovered : PySem.W.isFn K (.ref f_Store_recovered) = true)
    {od_store_at an_store_at : Option Addr} {sl_store_at : Array (Option Value)} {oc_store_at kV_store_at dc_store_at pm_store_at cd_store_at ct_store_at : Value}
    (a_store_at : PySem.W.nsIn K mainGlobals "store_at" = some (some (.ref f_store_at)))
    (l_store_at : K.lookup f_store_at = some ⟨oc_store_at, od_store_at, .func (PySem.W.fnOf "store_at" "store_at" (defArgs s_store_at) (defBody s_store_at) (defScope s_store_at) .none kV_store_at dc_store_at pm_store_at an_store_at cd_store_at ct_store_at), sl_store_at⟩) (e_store_at : PySem.W.codeIn K cd_store_at "store_at" = true) (k_store_at : PySem.W.keepIn K (.ref f_store_at) = true)
    {od__law_pool an__law_pool : Option Addr} {sl__law_pool : Array (Option Value)} {oc__law_pool kV__law_pool dc__law_pool pm__law_pool cd__law_pool ct__law_pool : Value}
    (a__law_pool : PySem.W.nsIn K mainGlobals "_law_pool" = some (some (.ref f__law_pool)))
    (l__law_pool : K.lookup f__law_pool = some ⟨oc__law_pool, od__law_pool, .func (PySem.W.fnOf "_law_pool" "_law_pool" (defArgs s__law_pool) (defBody s__law_pool) (defScope s__law_pool) .none kV__law_pool dc__law_pool pm__law_pool an__law_pool cd__law_pool ct__law_pool), sl__law_pool⟩) (e__law_pool : PySem.W.codeIn K cd__law_pool "_law_pool" = true) (k__law_pool : PySem.W.keepIn K (.ref f__law_pool) = true)
    {od__law_mixed an__law_mixed : Option Addr} {sl__law_mixed : Array (Option Value)} {oc__law_mixed kV__law_mixed dc__law_mixed pm__law_mixed cd__law_mixed ct__law_mixed : Value}
    (a__law_mixed : PySem.W.nsIn K mainGlobals "_law_mixed" = some (some (.ref f__law_mixed)))
    (l__law_mixed : K.lookup f__law_mixed = some ⟨oc__law_mixed, od__law_mixed, .func (PySem.W.fnOf "_law_mixed" "_law_mixed" (defArgs s__law_mixed) (defBody s__law_mixed) (defScope s__law_mixed) .none kV__law_mixed dc__law_mixed pm__law_mixed an__law_mixed cd__law_mixed ct__law_mixed), sl__law_mixed⟩) (e__law_mixed : PySem.W.codeIn K cd__law_mixed "_law_mixed" = true) (k__law_mixed : PySem.W.keepIn K (.ref f__law_mixed) = true)
    {od__law_draw an__law_draw : Option Addr} {sl__law_draw : Array (Option Value)} {oc__law_draw kV__law_draw dc__law_draw pm__law_draw cd__law_draw ct__law_draw : Value}
    (a__law_draw : PySem.W.nsIn K mainGlobals "_law_draw" = some (some (.ref f__law_draw)))
    (l__law_draw : K.lookup f__law_draw = some ⟨oc__law_draw, od__law_draw, .func (PySem.W.fnOf "_law_draw" "_law_draw" (defArgs s__law_draw) (defBody s__law_draw) (defScope s__law_draw) .none kV__law_draw dc__law_draw pm__law_draw an__law_draw cd__law_draw ct__law_draw), sl__law_draw⟩) (e__law_draw : PySem.W.codeIn K cd__law_draw "_law_draw" = true) (k__law_draw : PySem.W.keepIn K (.ref f__law_draw) = true)
    {od__law_names an__law_names : Option Addr} {sl__law_names : Array (Option Value)} {oc__law_names kV__law_names dc__law_names pm__law_names cd__law_names ct__law_names : Value}
    (a__law_names : PySem.W.nsIn K mainGlobals "_law_names" = some (some (.ref f__law_names)))
    (l__law_names : K.lookup f__law_names = some ⟨oc__law_names, od__law_names, .func (PySem.W.fnOf "_law_names" "_law_names" (defArgs s__law_names) (defBody s__law_names) (defScope s__law_names) .none kV__law_names dc__law_names pm__law_names an__law_names cd__law_names ct__law_names), sl__law_names⟩) (e__law_names : PySem.W.codeIn K cd__law_names "_law_names" = true) (k__law_names : PySem.W.keepIn K (.ref f__law_names) = true)
    {od__law_event an__law_event : Option Addr} {sl__law_event : Array (Option Value)} {oc__law_event kV__law_event dc__law_event pm__law_event cd__law_event ct__law_event : Value}
    (a__law_event : PySem.W.nsIn K mainGlobals "_law_event" = some (some (.ref f__law_event)))
    (l__law_event : K.lookup f__law_event = some ⟨oc__law_event, od__law_event, .func (PySem.W.fnOf "_law_event" "_law_event" (defArgs s__law_event) (defBody s__law_event) (defScope s__law_event) .none kV__law_event dc__law_event pm__law_event an__law_event cd__law_event ct__law_event), sl__law_event⟩) (e__law_event : PySem.W.codeIn K cd__law_event "_law_event" = true) (k__law_event : PySem.W.keepIn K (.ref f__law_event) = true)
    {od__law_recovered an__law_recovered : Option Addr} {sl__law_recovered : Array (Option Value)} {oc__law_recovered kV__law_recovered dc__law_recovered pm__law_recovered cd__law_recovered ct__law_recovered : Value}
    (a__law_recovered : PySem.W.nsIn K mainGlobals "_law_recovered" = some (some (.ref f__law_recovered)))
    (l__law_recovered : K.lookup f__law_recovered = some ⟨oc__law_recovered, od__law_recovered, .func (PySem.W.fnOf "_law_recovered" "_law_recovered" (defArgs s__law_recovered) (defBody s__law_recovered) (defScope s__law_recovered) .none kV__law_recovered dc__law_recovered pm__law_recovered an__law_recovered cd__law_recovered ct__law_recovered), sl__law_recovered⟩) (e__law_recovered : PySem.W.codeIn K cd__law_recovered "_law_recovered" = true) (k__law_recovered : PySem.W.keepIn K (.ref f__law_recovered) = true)
    {od__law_fits an__law_fits : Option Addr} {sl__law_fits : Array (Option Value)} {oc__law_fits kV__law_fits dc__law_fits pm__law_fits cd__law_fits ct__law_fits : Value}
    (a__law_fits : PySem.W.nsIn K mainGlobals "_law_fits" = some (some (.ref f__law_fits)))
    (l__law_fits : K.lookup f__law_fits = some ⟨oc__law_fits, od__law_fits, .func (PySem.W.fnOf "_law_fits" "_law_fits" (defArgs s__law_fits) (defBody s__law_fits) (defScope s__law_fits) .none kV__law_fits dc__law_fits pm__law_fits an__law_fits cd__law_fits ct__law_fits), sl__law_fits⟩) (e__law_fits : PySem.W.codeIn K cd__law_fits "_law_fits" = true) (k__law_fits : PySem.W.keepIn K (.ref f__law_fits) = true)
    {od_law an_law : Option Addr} {sl_law : Array (Option Value)} {oc_law kV_law dc_law pm_law cd_law ct_law : Value}
    (a_law : PySem.W.nsIn K mainGlobals "law" = some (some (.ref f_law)))
    (l_law : K.lookup f_law = some ⟨oc_law, od_law, .func (PySem.W.fnOf "law" "law" (defArgs s_law) (defBody s_law) (defScope s_law) .none kV_law dc_law pm_law an_law cd_law ct_law), sl_law⟩) (e_law : PySem.W.codeIn K cd_law "law" = true) (k_law : PySem.W.keepIn K (.ref f_law) = true)
    (ac_Store : PySem.W.nsIn K mainGlobals "Store" = some (some (.ref c_Store))) (pg_Store : PySem.W.plainGet K c_Store Str.empty = true) (hd_Store : PySem.W.hasDictIn K c_Store = true) (po_Store : PySem.W.plainOver K c_Store = true) (sa_Store : PySem.W.findIn K (.ref c_Store) "__setattr__" = some (some (.builtin "object.__setattr__"))) (mk_Store : PySem.W.makesIn K c_Store = true) (kc_Store : PySem.W.keepIn K (.ref c_Store) = true)
    (nf_Store__values : PySem.W.findIn K (.ref c_Store) "_values" = some none)
    (nf_Store__records : PySem.W.findIn K (.ref c_Store) "_records" = some none)
    (nf_Store__ahead : PySem.W.findIn K (.ref c_Store) "_ahead" = some none)
    (z_int : PySem.W.nsIn K mainGlobals "int" = some none)
    (z_len : PySem.W.nsIn K mainGlobals "len" = some none)
    (z_all : PySem.W.nsIn K mainGlobals "all" = some none)
    (z_isinstance : PySem.W.nsIn K mainGlobals "isinstance" = some none)
    (z_str : PySem.W.nsIn K mainGlobals "str" = some none)
    (z_tuple : PySem.W.nsIn K mainGlobals "tuple" = some none)
    (z_range : PySem.W.nsIn K mainGlobals "range" = some none)
    (z_bool : PySem.W.nsIn K mainGlobals "bool" = some none)
    (z_list : PySem.W.nsIn K mainGlobals "list" = some none)
    (z_dict : PySem.W.nsIn K mainGlobals "dict" = some none)
    {tk_LETTERS : Tok} (y_LETTERS : PySem.W.nsIn K mainGlobals "LETTERS" = some (some (.str LET tk_LETTERS)))
    {tk_DIGITS : Tok} (y_DIGITS : PySem.W.nsIn K mainGlobals "DIGITS" = some (some (.str DIG tk_DIGITS)))
    {td_KEYWORDS : Option Addr} {ti_KEYWORDS : Array Value} {tn_KEYWORDS : Nat} {ts_KEYWORDS : Array (Option Value)} (u_KEYWORDS : PySem.W.nsIn K mainGlobals "KEYWORDS" = some (some (.ref t_KEYWORDS))) (w_KEYWORDS : K.lookup t_KEYWORDS = some ⟨.type "tuple", td_KEYWORDS, .seq ti_KEYWORDS tn_KEYWORDS, ts_KEYWORDS⟩) (v_KEYWORDS : ti_KEYWORDS.size ≤ sizeLine ∧ Vals kws ti_KEYWORDS.toList)
    {td_FLUSH : Option Addr} {ti_FLUSH : Array Value} {tn_FLUSH : Nat} {ts_FLUSH : Array (Option Value)} (u_FLUSH : PySem.W.nsIn K mainGlobals "FLUSH" = some (some (.ref t_FLUSH))) (w_FLUSH : K.lookup t_FLUSH = some ⟨.type "tuple", td_FLUSH, .seq ti_FLUSH tn_FLUSH, ts_FLUSH⟩) (v_FLUSH : ti_FLUSH.size ≤ sizeLine ∧ Vals [.str "flush"] ti_FLUSH.toList)
    {td_CLEAR : Option Addr} {ti_CLEAR : Array Value} {tn_CLEAR : Nat} {ts_CLEAR : Array (Option Value)} (u_CLEAR : PySem.W.nsIn K mainGlobals "CLEAR" = some (some (.ref t_CLEAR))) (w_CLEAR : K.lookup t_CLEAR = some ⟨.type "tuple", td_CLEAR, .seq ti_CLEAR tn_CLEAR, ts_CLEAR⟩) (v_CLEAR : ti_CLEAR.size ≤ sizeLine ∧ Vals [.str "clear"] ti_CLEAR.toList)
    : ∃ fd : FuncData, (∀ (s : Shared) (v : Value), BindsTo s fd ⟨[v], []⟩ [("_law_script", v)]) ∧ ∀ base : Heap, K.In base → base.Ns mainGlobals mg → FnOk l.prog w K mg base CX0 10 fa fd ["_law_script"] (spLaw K) := by
  have e := hfa.symm.trans (PySem.W.mg_of X G a_law)
  cases e
  have F_is_integer := fun_mk (st := s_is_integer) l_is_integer e_is_integer k_is_integer
  have b_is_integer := F_is_integer.binds (ps := ["value"]) fun _ _ _ _ _ _ us hl => match us, hl with | [_], _ => rfl
  have F_is_word := fun_mk (st := s_is_word) l_is_word e_is_word k_is_word
  have b_is_word := F_is_word.binds (ps := ["text"]) fun _ _ _ _ _ _ us hl => match us, hl with | [_], _ => rfl
  have F_is_name := fun_mk (st := s_is_name) l_is_name e_is_name k_is_name
  have b_is_name := F_is_name.binds (ps := ["value"]) fun _ _ _ _ _ _ us hl => match us, hl with | [_], _ => rfl
  have F_are_values := fun_mk (st := s_are_values) l_are_values e_are_values k_are_values
  have b_are_values := F_are_values.binds (ps := ["value"]) fun _ _ _ _ _ _ us hl => match us, hl with | [_], _ => rfl
  have F_is_event := fun_mk (st := s_is_event) l_is_event e_is_event k_is_event
  have b_is_event := F_is_event.binds (ps := ["value", "values"]) fun _ _ _ _ _ _ us hl => match us, hl with | [_, _], _ => rfl
  have F_behind := fun_mk (st := s_behind) l_behind e_behind k_behind
  have b_behind := F_behind.binds (ps := ["values", "records", "events"]) fun _ _ _ _ _ _ us hl => match us, hl with | [_, _, _], _ => rfl
  have F_undone_by_log := fun_mk (st := s_undone_by_log) l_undone_by_log e_undone_by_log k_undone_by_log
  have b_undone_by_log := F_undone_by_log.binds (ps := ["values", "records"]) fun _ _ _ _ _ _ us hl => match us, hl with | [_, _], _ => rfl
  have F_Store___init__ := fun_mk (st := s_Store___init__) l_Store___init__ e_Store___init__ k_Store___init__
  have b_Store___init__ := F_Store___init__.binds (ps := ["self", "values"]) fun _ _ _ _ _ _ us hl => match us, hl with | [_, _], _ => rfl
  have F_Store_perform := fun_mk (st := s_Store_perform) l_Store_perform e_Store_perform k_Store_perform
  have b_Store_perform := F_Store_perform.binds (ps := ["self", "event"]) fun _ _ _ _ _ _ us hl => match us, hl with | [_, _], _ => rfl
  have F_Store_current := fun_mk (st := s_Store_current) l_Store_current e_Store_current k_Store_current
  have b_Store_current := F_Store_current.binds (ps := ["self"]) fun _ _ _ _ _ _ us hl => match us, hl with | [_], _ => rfl
  have F_Store_log := fun_mk (st := s_Store_log) l_Store_log e_Store_log k_Store_log
  have b_Store_log := F_Store_log.binds (ps := ["self"]) fun _ _ _ _ _ _ us hl => match us, hl with | [_], _ => rfl
  have F_Store_pending := fun_mk (st := s_Store_pending) l_Store_pending e_Store_pending k_Store_pending
  have b_Store_pending := F_Store_pending.binds (ps := ["self"]) fun _ _ _ _ _ _ us hl => match us, hl with | [_], _ => rfl
  have F_Store_recovered := fun_mk (st := s_Store_recovered) l_Store_recovered e_Store_recovered k_Store_recovered
  have b_Store_recovered := F_Store_recovered.binds (ps := ["self"]) fun _ _ _ _ _ _ us hl => match us, hl with | [_], _ => rfl
  have F_store_at := fun_mk (st := s_store_at) l_store_at e_store_at k_store_at
  have b_store_at := F_store_at.binds (ps := ["values", "records"]) fun _ _ _ _ _ _ us hl => match us, hl with | [_, _], _ => rfl
  have F__law_pool := fun_mk (st := s__law_pool) l__law_pool e__law_pool k__law_pool
  have b__law_pool := F__law_pool.binds (ps := ["_law_script"]) fun _ _ _ _ _ _ us hl => match us, hl with | [_], _ => rfl
  have F__law_mixed := fun_mk (st := s__law_mixed) l__law_mixed e__law_mixed k__law_mixed
  have b__law_mixed := F__law_mixed.binds (ps := ["_law_number", "_law_count", "_law_many"]) fun _ _ _ _ _ _ us hl => match us, hl with | [_, _, _], _ => rfl
  have F__law_draw := fun_mk (st := s__law_draw) l__law_draw e__law_draw k__law_draw
  have b__law_draw := F__law_draw.binds (ps := ["_law_pool_here", "_law_many"]) fun _ _ _ _ _ _ us hl => match us, hl with | [_, _], _ => rfl
  have F__law_names := fun_mk (st := s__law_names) l__law_names e__law_names k__law_names
  have b__law_names := F__law_names.binds (ps := ["_law_pool_here"]) fun _ _ _ _ _ _ us hl => match us, hl with | [_], _ => rfl
  have F__law_event := fun_mk (st := s__law_event) l__law_event e__law_event k__law_event
  have b__law_event := F__law_event.binds (ps := ["_law_pool_here", "_law_names_here"]) fun _ _ _ _ _ _ us hl => match us, hl with | [_, _], _ => rfl
  have F__law_recovered := fun_mk (st := s__law_recovered) l__law_recovered e__law_recovered k__law_recovered
  have b__law_recovered := F__law_recovered.binds (ps := ["_law_values", "_law_log"]) fun _ _ _ _ _ _ us hl => match us, hl with | [_, _], _ => rfl
  have F__law_fits := fun_mk (st := s__law_fits) l__law_fits e__law_fits k__law_fits
  have b__law_fits := F__law_fits.binds (ps := ["_law_store", "_law_values", "_law_log", "_law_pending"]) fun _ _ _ _ _ _ us hl => match us, hl with | [_, _, _, _], _ => rfl
  have F_law := fun_mk (st := s_law) l_law e_law k_law
  have T : Txt K mg { f_is_integer := f_is_integer, f_is_integer_d := _, f_is_word := f_is_word, f_is_word_d := _, f_is_name := f_is_name, f_is_name_d := _, f_are_values := f_are_values, f_are_values_d := _, f_is_event := f_is_event, f_is_event_d := _, f_behind := f_behind, f_behind_d := _, f_undone_by_log := f_undone_by_log, f_undone_by_log_d := _, f_Store___init__ := f_Store___init__, f_Store___init___d := _, f_Store_perform := f_Store_perform, f_Store_perform_d := _, f_Store_current := f_Store_current, f_Store_current_d := _, f_Store_log := f_Store_log, f_Store_log_d := _, f_Store_pending := f_Store_pending, f_Store_pending_d := _, f_Store_recovered := f_Store_recovered, f_Store_recovered_d := _, f_store_at := f_store_at, f_store_at_d := _, f__law_pool := f__law_pool, f__law_pool_d := _, f__law_mixed := f__law_mixed, f__law_mixed_d := _, f__law_draw := f__law_draw, f__law_draw_d := _, f__law_names := f__law_names, f__law_names_d := _, f__law_event := f__law_event, f__law_event_d := _, f__law_recovered := f__law_recovered, f__law_recovered_d := _, f__law_fits := f__law_fits, f__law_fits_d := _, f_law := fa, f_law_d := _, c_Store := c_Store, t_KEYWORDS := t_KEYWORDS, t_FLUSH := t_FLUSH, t_CLEAR := t_CLEAR, pr_Store_pending := pr_Store_pending } := {
    F_is_integer := F_is_integer,
    b_is_integer := b_is_integer,
    g_is_integer := PySem.W.mg_of X G a_is_integer,
    F_is_word := F_is_word,
    b_is_word := b_is_word,
    g_is_word := PySem.W.mg_of X G a_is_word,
    F_is_name := F_is_name,
    b_is_name := b_is_name,
    g_is_name := PySem.W.mg_of X G a_is_name,
    F_are_values := F_are_values,
    b_are_values := b_are_values,
    g_are_values := PySem.W.mg_of X G a_are_values,
    F_is_event := F_is_event,
    b_is_event := b_is_event,
    g_is_event := PySem.W.mg_of X G a_is_event,
    F_behind := F_behind,
    b_behind := b_behind,
    g_behind := PySem.W.mg_of X G a_behind,
    F_undone_by_log := F_undone_by_log,
    b_undone_by_log := b_undone_by_log,
    g_undone_by_log := PySem.W.mg_of X G a_undone_by_log,
    F_Store___init__ := F_Store___init__,
    b_Store___init__ := b_Store___init__,
    mk_Store := ⟨mk_Store, a_Store___init__, i_Store___init__, kc_Store⟩,
    F_Store_perform := F_Store_perform,
    b_Store_perform := b_Store_perform,
    m_Store_perform := ⟨a_Store_perform, i_Store_perform, k_Store_perform⟩,
    F_Store_current := F_Store_current,
    b_Store_current := b_Store_current,
    m_Store_current := ⟨a_Store_current, i_Store_current, k_Store_current⟩,
    F_Store_log := F_Store_log,
    b_Store_log := b_Store_log,
    m_Store_log := ⟨a_Store_log, i_Store_log, k_Store_log⟩,
    F_Store_pending := F_Store_pending,
    b_Store_pending := b_Store_pending,
    pp_Store_pending := ⟨a_Store_pending, pg_Store_pending, pt_Store_pending, _, pq_Store_pending⟩,
    F_Store_recovered := F_Store_recovered,
    b_Store_recovered := b_Store_recovered,
    m_Store_recovered := ⟨a_Store_recovered, i_Store_recovered, k_Store_recovered⟩,
    F_store_at := F_store_at,
    b_store_at := b_store_at,
    g_store_at := PySem.W.mg_of X G a_store_at,
    F__law_pool := F__law_pool,
    b__law_pool := b__law_pool,
    g__law_pool := PySem.W.mg_of X G a__law_pool,
    F__law_mixed := F__law_mixed,
    b__law_mixed := b__law_mixed,
    g__law_mixed := PySem.W.mg_of X G a__law_mixed,
    F__law_draw := F__law_draw,
    b__law_draw := b__law_draw,
    g__law_draw := PySem.W.mg_of X G a__law_draw,
    F__law_names := F__law_names,
    b__law_names := b__law_names,
    g__law_names := PySem.W.mg_of X G a__law_names,
    F__law_event := F__law_event,
    b__law_event := b__law_event,
    g__law_event := PySem.W.mg_of X G a__law_event,
    F__law_recovered := F__law_recovered,
    b__law_recovered := b__law_recovered,
    g__law_recovered := PySem.W.mg_of X G a__law_recovered,
    F__law_fits := F__law_fits,
    b__law_fits := b__law_fits,
    g__law_fits := PySem.W.mg_of X G a__law_fits,
    F_law := F_law,
    g_law := PySem.W.mg_of X G a_law,
    cl_Store := ⟨pg_Store, hd_Store, po_Store, sa_Store⟩,
    mg_Store := PySem.W.mg_of X G ac_Store,
    n_Store__values := nf_Store__values,
    n_Store__records := nf_Store__records,
    n_Store__ahead := nf_Store__ahead,
    int := PySem.W.mg_none_of X G z_int,
    len := PySem.W.mg_none_of X G z_len,
    all := PySem.W.mg_none_of X G z_all,
    isinstance := PySem.W.mg_none_of X G z_isinstance,
    str := PySem.W.mg_none_of X G z_str,
    tuple := PySem.W.mg_none_of X G z_tuple,
    range := PySem.W.mg_none_of X G z_range,
    bool := PySem.W.mg_none_of X G z_bool,
    list := PySem.W.mg_none_of X G z_list,
    dict := PySem.W.mg_none_of X G z_dict,
    g_LETTERS := ⟨_, PySem.W.mg_of X G y_LETTERS⟩,
    g_DIGITS := ⟨_, PySem.W.mg_of X G y_DIGITS⟩,
    g_KEYWORDS := PySem.W.mg_of X G u_KEYWORDS,
    q_KEYWORDS := fun H => .inr ⟨_, _, _, w_KEYWORDS, rfl, rfl, v_KEYWORDS.1, v_KEYWORDS.2⟩,
    g_FLUSH := PySem.W.mg_of X G u_FLUSH,
    q_FLUSH := fun H => .inr ⟨_, _, _, w_FLUSH, rfl, rfl, v_FLUSH.1, v_FLUSH.2⟩,
    g_CLEAR := PySem.W.mg_of X G u_CLEAR,
    q_CLEAR := fun H => .inr ⟨_, _, _, w_CLEAR, rfl, rfl, v_CLEAR.1, v_CLEAR.2⟩ }
  exact ⟨PySem.W.fnOf "law" "law" (defArgs s_law) (defBody s_law) (defScope s_law) .none kV_law dc_law pm_law an_law cd_law ct_law, fun s v => .of_eq rfl, fun base _ _ => ok_law T⟩
end K26
open PySem PySem.W PyProof.Rows
set_option maxRecDepth 100000 in
set_option maxHeartbeats 0 in
theorem PySem.Challenge.cw_allornothing_k26_stores_holds : PySem.Challenge.rw_allornothing_k26_stores.Holds := by
  w_on; o_law; k_head; (case hw => w_witness2)
  k_fill
  refine L2.walk_of (l := PySem.Challenge.rw_allornothing_k26_stores) (n := 63) (k := 10) (x := "_law_script") (CX := fun _ => L2.CX0) (sp := fun w => K26.spLaw _) rfl (by decide) rfl ⟨rfl, by decide, by decide⟩ (fun w h Y => PySem.W.kIn_of Y) ?F (fun _ _ a ns hl _ hS => ⟨a, ns, rfl, hS, hl, fun _ => rfl⟩) (fun _ _ _ _ _ h => h)
  case F =>
    intro w mg fa h KX G hmg
    refine' K26.all_mk KX G hmg ?a_is_integer ?l_is_integer ?e_is_integer ?k_is_integer ?a_is_word ?l_is_word ?e_is_word ?k_is_word ?a_is_name ?l_is_name ?e_is_name ?k_is_name ?a_are_values ?l_are_values ?e_are_values ?k_are_values ?a_is_event ?l_is_event ?e_is_event ?k_is_event ?a_behind ?l_behind ?e_behind ?k_behind ?a_undone_by_log ?l_undone_by_log ?e_undone_by_log ?k_undone_by_log ?a_Store___init__ ?l_Store___init__ ?e_Store___init__ ?k_Store___init__ ?i_Store___init__ ?a_Store_perform ?l_Store_perform ?e_Store_perform ?k_Store_perform ?i_Store_perform ?a_Store_current ?l_Store_current ?e_Store_current ?k_Store_current ?i_Store_current ?a_Store_log ?l_Store_log ?e_Store_log ?k_Store_log ?i_Store_log ?a_Store_pending ?pg_Store_pending ?pt_Store_pending ?pq_Store_pending ?l_Store_pending ?e_Store_pending ?k_Store_pending ?a_Store_recovered ?l_Store_recovered ?e_Store_recovered ?k_Store_recovered ?i_Store_recovered ?a_store_at ?l_store_at ?e_store_at ?k_store_at ?a__law_pool ?l__law_pool ?e__law_pool ?k__law_pool ?a__law_mixed ?l__law_mixed ?e__law_mixed ?k__law_mixed ?a__law_draw ?l__law_draw ?e__law_draw ?k__law_draw ?a__law_names ?l__law_names ?e__law_names ?k__law_names ?a__law_event ?l__law_event ?e__law_event ?k__law_event ?a__law_recovered ?l__law_recovered ?e__law_recovered ?k__law_recovered ?a__law_fits ?l__law_fits ?e__law_fits ?k__law_fits ?a_law ?l_law ?e_law ?k_law ?ac_Store ?pg_Store ?hd_Store ?po_Store ?sa_Store ?mk_Store ?kc_Store ?nf_Store__values ?nf_Store__records ?nf_Store__ahead ?z_int ?z_len ?z_all ?z_isinstance ?z_str ?z_tuple ?z_range ?z_bool ?z_list ?z_dict ?y_LETTERS ?y_DIGITS ?u_KEYWORDS ?w_KEYWORDS ?v_KEYWORDS ?u_FLUSH ?w_FLUSH ?v_FLUSH ?u_CLEAR ?w_CLEAR ?v_CLEAR
    (case ac_Store => k_is)
    (case a_is_integer => k_is)
    (case l_is_integer => k_is)
    (case e_is_integer => k_is)
    (case k_is_integer => k_is)
    (case a_is_word => k_is)
    (case l_is_word => k_is)
    (case e_is_word => k_is)
    (case k_is_word => k_is)
    (case a_is_name => k_is)
    (case l_is_name => k_is)
    (case e_is_name => k_is)
    (case k_is_name => k_is)
    (case a_are_values => k_is)
    (case l_are_values => k_is)
    (case e_are_values => k_is)
    (case k_are_values => k_is)
    (case a_is_event => k_is)
    (case l_is_event => k_is)
    (case e_is_event => k_is)
    (case k_is_event => k_is)
    (case a_behind => k_is)
    (case l_behind => k_is)
    (case e_behind => k_is)
    (case k_behind => k_is)
    (case a_undone_by_log => k_is)
    (case l_undone_by_log => k_is)
    (case e_undone_by_log => k_is)
    (case k_undone_by_log => k_is)
    (case a_Store___init__ => k_is)
    (case l_Store___init__ => k_is)
    (case e_Store___init__ => k_is)
    (case k_Store___init__ => k_is)
    (case i_Store___init__ => k_is)
    (case a_Store_perform => k_is)
    (case l_Store_perform => k_is)
    (case e_Store_perform => k_is)
    (case k_Store_perform => k_is)
    (case i_Store_perform => k_is)
    (case a_Store_current => k_is)
    (case l_Store_current => k_is)
    (case e_Store_current => k_is)
    (case k_Store_current => k_is)
    (case i_Store_current => k_is)
    (case a_Store_log => k_is)
    (case l_Store_log => k_is)
    (case e_Store_log => k_is)
    (case k_Store_log => k_is)
    (case i_Store_log => k_is)
    (case a_Store_pending => k_is)
    (case pg_Store_pending => k_is)
    (case pt_Store_pending => k_is)
    (case pq_Store_pending => k_is)
    (case l_Store_pending => k_is)
    (case e_Store_pending => k_is)
    (case k_Store_pending => k_is)
    (case a_Store_recovered => k_is)
    (case l_Store_recovered => k_is)
    (case e_Store_recovered => k_is)
    (case k_Store_recovered => k_is)
    (case i_Store_recovered => k_is)
    (case a_store_at => k_is)
    (case l_store_at => k_is)
    (case e_store_at => k_is)
    (case k_store_at => k_is)
    (case a__law_pool => k_is)
    (case l__law_pool => k_is)
    (case e__law_pool => k_is)
    (case k__law_pool => k_is)
    (case a__law_mixed => k_is)
    (case l__law_mixed => k_is)
    (case e__law_mixed => k_is)
    (case k__law_mixed => k_is)
    (case a__law_draw => k_is)
    (case l__law_draw => k_is)
    (case e__law_draw => k_is)
    (case k__law_draw => k_is)
    (case a__law_names => k_is)
    (case l__law_names => k_is)
    (case e__law_names => k_is)
    (case k__law_names => k_is)
    (case a__law_event => k_is)
    (case l__law_event => k_is)
    (case e__law_event => k_is)
    (case k__law_event => k_is)
    (case a__law_recovered => k_is)
    (case l__law_recovered => k_is)
    (case e__law_recovered => k_is)
    (case k__law_recovered => k_is)
    (case a__law_fits => k_is)
    (case l__law_fits => k_is)
    (case e__law_fits => k_is)
    (case k__law_fits => k_is)
    (case a_law => k_is)
    (case l_law => k_is)
    (case e_law => k_is)
    (case k_law => k_is)
    (case pg_Store => k_is)
    (case hd_Store => k_is)
    (case po_Store => k_is)
    (case sa_Store => k_is)
    (case mk_Store => k_is)
    (case kc_Store => k_is)
    (case nf_Store__values => k_is)
    (case nf_Store__records => k_is)
    (case nf_Store__ahead => k_is)
    (case z_int => k_is)
    (case z_len => k_is)
    (case z_all => k_is)
    (case z_isinstance => k_is)
    (case z_str => k_is)
    (case z_tuple => k_is)
    (case z_range => k_is)
    (case z_bool => k_is)
    (case z_list => k_is)
    (case z_dict => k_is)
    (case y_LETTERS => k_is)
    (case y_DIGITS => k_is)
    (case u_KEYWORDS => k_is)
    (case w_KEYWORDS => k_is)
    (case v_KEYWORDS => exact ⟨by decide, by repeat (first | exact .nil | refine .cons ⟨_, rfl⟩ ?_)⟩)
    (case u_FLUSH => k_is)
    (case w_FLUSH => k_is)
    (case v_FLUSH => exact ⟨by decide, by repeat (first | exact .nil | refine .cons ⟨_, rfl⟩ ?_)⟩)
    (case u_CLEAR => k_is)
    (case w_CLEAR => k_is)
    (case v_CLEAR => exact ⟨by decide, by repeat (first | exact .nil | refine .cons ⟨_, rfl⟩ ?_)⟩)
#print axioms PySem.Challenge.cw_allornothing_k26_stores_holds
