import PyProof.Rows.All
import Wide.All
import OpenK.AllK
import Wide.FinOn
import HandS.ForMost
import HandS.Wide
import HandS.Steps
import HandS.IsInst
import HandS.Defaults
import HandS.More
import HandS.TupAny
import PySem.Challenge.RW_allornothing_k01_sums_in_texts
set_option Elab.async false
set_option linter.all false
set_option maxRecDepth 100000
set_option maxHeartbeats 8000000
namespace K1
open PySem PySem.Spec PyProof.Rows L2 TL
/-! ### words for all -/
theorem pe_gs {X : Cx} {x : Str} {z : Str} {pos : Pos} (hg : Gl X x) (hm : ∃ t, X.mg x = some (.str z t)) (hd : (x == ("__debug__" : Str)) = false := by decide) : PE X (.Name x pos) (tC (.str z)) :=
  hm.elim fun t h => pe_glob (v := .str z) hg h ⟨t, rfl⟩ hd
theorem pe_gi {X : Cx} {x : Str} {z : Int} {pos : Pos} (hg : Gl X x) (hm : ∃ t, X.mg x = some (.int z t)) (hd : (x == ("__debug__" : Str)) = false := by decide) : PE X (.Name x pos) (tC (.int z)) :=
  hm.elim fun t h => pe_glob (v := .int z) hg h ⟨t, rfl⟩ hd
theorem pe_gr {X : Cx} {x : Str} {r : Addr} {pos : Pos} (hg : Gl X x) (hm : X.mg x = some (.ref r)) (hd : (x == ("__debug__" : Str)) = false := by decide) : PE X (.Name x pos) (tC (.ref r)) := pe_glob (v := .ref r) hg hm rfl hd
theorem same_upd {H : Hp} {p : Addr} {o : HO} (h : H p = none) : Same H (upd H p o) := fun b x e => by
  rw [upd_ne (ne_of_none e h)]
  exact e
/-- a new object of ours changes: what stood before stands -/
theorem same_mut {H H' : Hp} {p : Addr} {o : HO} (s : Same H H') (h : H p = none) : Same H (upd H' p o) := fun b x e => by
  rw [upd_ne (ne_of_none e h)]
  exact s _ _ e
def Big (z : Str) : Prop := z.length ≤ 1000000
theorem bigLine {n : Nat} (h : n ≤ 1000000) : n < sizeLine := Nat.lt_of_le_of_lt h (by decide)
theorem bigLe {n : Nat} (h : n ≤ 1000000) : n ≤ sizeLine := Nat.le_of_lt (bigLine h)
theorem st_ite {c : TT} {t1 t2 : TS} {σ : L2.St} {H : Hp} {D : Ends} {b : Bool} (h : Ans c σ H b) (h1 : b = true → t1 D σ H) (h2 : b = false → t2 D σ H) : tIfS c t1 t2 D σ H := by
  cases b with
  | true => exact st_yes h (h1 rfl)
  | false => exact st_no h (h2 rfl)
theorem while_ans {c : TT} {tb : TS} {D : Ends} {σ : L2.St} {H : Hp} (Pv : Nat → L2.St → Hp → Prop) (m : Nat) (h0 : Pv m σ H)
    (hs : ∀ m σ H, Pv m σ H → ∃ b, Ans c σ H b ∧ (b = true → tb { D with nx := fun σ' H' => ∃ m', m' < m ∧ Pv m' σ' H', ct := fun σ' H' => ∃ m', m' < m ∧ Pv m' σ' H', bk := D.nx } σ H) ∧ (b = false → D.nx σ H)) : tWhile c tb D σ H := by
  refine ⟨Pv, ⟨m, h0⟩, fun m σ H p => ?_⟩
  obtain ⟨b, ha, ht, hf⟩ := hs m σ H p
  refine ha _ ?_
  cases b with
  | true => exact ⟨_, fun σ' H' h => h, ht rfl⟩
  | false => exact hf rfl
/-- a comprehension or loop over the signs of a text -/
theorem lc_str {x : Str} {g : TG} {tt : TT} {te : TE} {vs : List Nat} {σ : L2.St} {H1 : Hp} {D : Addr} {Qd : Hp → Prop} (Pv : Nat → Hp → Prop) (h0 : Pv 0 (upd H1 D (.lst [])))
    (hs : ∀ i c H, x.cps[i]? = some c → Pv i H → g (.str ⟨#[c]⟩) (wipe σ vs) H fun σ2 H2 => wipe σ2 vs = wipe σ vs ∧ tt σ2 H2 fun b H3 =>
      if b = true then te σ2 H3 fun y H4 => ∃ acc, H4 D = some (.lst acc) ∧ acc.length < sizeLine ∧ Pv (i + 1) (upd H4 D (.lst (acc ++ [y]))) else Pv (i + 1) H3) (hd : ∀ H, Pv x.cps.size H → Qd H) :
    ∃ W : Nat → Nat → Hp → Prop, (∃ m, W 0 m (upd H1 D (.lst []))) ∧ ∀ i m H, W i m H →
      ((Its x).stop i H ∧ Qd H) ∨ ((Its x).go i H ∧ ∃ Nx : Hp → Prop, (∀ H', Nx H' → ∃ m', m' < m ∧ W (i + 1) m' H') ∧ ∀ x' H', (Its x).yld i H x' H' → g x' (wipe σ vs) H' fun σ2 H2 => wipe σ2 vs = wipe σ vs ∧ tt σ2 H2 fun b H3 =>
        if b = true then te σ2 H3 fun y H4 => ∃ acc, H4 D = some (.lst acc) ∧ acc.length < sizeLine ∧ Nx (upd H4 D (.lst (acc ++ [y]))) else Nx H3) := by
  refine ⟨fun i m H => m = x.cps.size - i ∧ i ≤ x.cps.size ∧ Pv i H, ⟨x.cps.size, by simp, Nat.zero_le _, h0⟩, ?_⟩
  rintro i m H ⟨rfl, hi, p⟩
  by_cases hlt : i < x.cps.size
  · refine .inr ⟨hlt, Pv (i + 1), fun H' p' => ⟨x.cps.size - (i + 1), by omega, rfl, hlt, p'⟩, fun x' H' y => ?_⟩
    obtain ⟨e, c, hc, y⟩ := y
    subst e y
    exact hs i c _ hc p
  · have e : i = x.cps.size := by omega
    subst e
    exact .inl ⟨Nat.le_refl _, hd H p⟩
/-- f of each sign, put into a new list -/
theorem lc_signs {z : Str} {g : TG} {te : TE} {vs : List Nat} {σ : L2.St} {H1 : Hp} {D : Addr} {Qd : Hp → Prop} (f : Nat → Bool) (hz : Big z) (hD : H1 D = none)
    (hs : ∀ c H (Q : VK), Q (.bl (f c)) H → g (.str ⟨#[c]⟩) (wipe σ vs) H fun σ2 H2 => wipe σ2 vs = wipe σ vs ∧ te σ2 H2 Q) (hd : ∀ H, Same H1 H → H D = some (.lst (((tl z).map f).map V.bl)) → Qd H) :
    ∃ W : Nat → Nat → Hp → Prop, (∃ m, W 0 m (upd H1 D (.lst []))) ∧ ∀ i m H, W i m H →
      ((Its z).stop i H ∧ Qd H) ∨ ((Its z).go i H ∧ ∃ Nx : Hp → Prop, (∀ H', Nx H' → ∃ m', m' < m ∧ W (i + 1) m' H') ∧ ∀ x' H', (Its z).yld i H x' H' → g x' (wipe σ vs) H' fun σ2 H2 => wipe σ2 vs = wipe σ vs ∧ tYes σ2 H2 fun b H3 =>
        if b = true then te σ2 H3 fun y H4 => ∃ acc, H4 D = some (.lst acc) ∧ acc.length < sizeLine ∧ Nx (upd H4 D (.lst (acc ++ [y]))) else Nx H3) := by
  refine lc_str (fun i H' => Same H1 H' ∧ H' D = some (.lst ((((tl z).take i).map f).map V.bl))) ⟨same_upd hD, upd_same⟩ ?_ ?_
  · rintro i c H' hi ⟨s2, hD2⟩
    have hi2 : (tl z)[i]? = some c := by rw [Array.getElem?_toList]; exact hi
    have hil : i < z.length := (Array.getElem?_eq_some_iff.mp hi).1
    have hsz : ((((tl z).take i).map f).map V.bl).length < sizeLine := by
      rw [List.length_map, List.length_map, List.length_take]
      exact Nat.lt_of_le_of_lt (Nat.min_le_left _ _) (bigLine (by unfold Big at hz; omega))
    have := hs c H' (fun y H4 => ∃ acc, H4 D = some (.lst acc) ∧ acc.length < sizeLine ∧ (Same H1 (upd H4 D (.lst (acc ++ [y]))) ∧ (upd H4 D (.lst (acc ++ [y]))) D = some (.lst ((((tl z).take (i + 1)).map f).map V.bl)))) ?_
    · exact this
    · refine ⟨_, hD2, hsz, same_mut s2 hD, ?_⟩
      rw [upd_same, List.take_add_one, hi2, List.map_append, List.map_append]
      rfl
  · rintro H' ⟨s2, hD2⟩
    have et : (tl z).take z.cps.size = tl z := List.take_of_length_le (by rw [Array.length_toList]; exact Nat.le_refl _)
    rw [et] at hD2
    exact hd _ s2 hD2
/-! ### the text -/
abbrev LET : Str := "abcdefghijklmnopqrstuvwxyz"
abbrev DIG : Str := "0123456789"
def kws : List V := [.str "globals", .str "kinds", .str "keep", .str "def", .str "if", .str "else", .str "while", .str "risk", .str "raise", .str "try", .str "except", .str "finally", .str "undo", .str "with", .str "swallow", .str "return"]
def sgs : List V := [.str "=", .str "+", .str "-", .str "*", .str "&", .str "?", .str "(", .str ")", .str "{", .str "}", .str ","]
def top (i : Nat) : Stmt := PySem.Challenge.pw_allornothing_k01_sums_in_texts.main.body.getD i (.Pass ⟨0, 0, 0, 0⟩)
abbrev s_is_word : Stmt := top 16
abbrev s_is_number : Stmt := top 17
abbrev s_kind_of : Stmt := top 18
abbrev s_run_end : Stmt := top 19
abbrev s_tokens_of : Stmt := top 20
abbrev s_Tokens___init__ : Stmt := inClass (top 21) 0
abbrev s_Tokens_kind_ahead : Stmt := inClass (top 21) 1
abbrev s_Tokens_take : Stmt := inClass (top 21) 3
abbrev s_Tokens_skip : Stmt := inClass (top 21) 4
abbrev s_parse : Stmt := top 25
abbrev s_read_declared : Stmt := top 26
abbrev s_read_function : Stmt := top 27
abbrev s_read_expression : Stmt := top 48
abbrev s_read_sign : Stmt := top 49
abbrev s_read_term : Stmt := top 50
abbrev s_read_number : Stmt := top 51
abbrev s_show : Stmt := top 54
abbrev s_shown_params : Stmt := top 55
abbrev s_block_lines : Stmt := top 56
abbrev s_shown_sum : Stmt := top 65
abbrev s_shown_term : Stmt := top 66
abbrev s__law_pool : Stmt := top 68
abbrev s__law_mixed : Stmt := top 69
abbrev s__law_draw : Stmt := top 70
abbrev s__law_names : Stmt := top 71
abbrev s__law_same : Stmt := top 73
abbrev s__law_term : Stmt := top 74
abbrev s__law_written : Stmt := top 75
abbrev s_law : Stmt := top 76
/-- where the text's defs and classes stand -/
structure Ads where
  f_is_word : Addr
  f_is_word_d : FuncData
  f_is_number : Addr
  f_is_number_d : FuncData
  f_kind_of : Addr
  f_kind_of_d : FuncData
  f_run_end : Addr
  f_run_end_d : FuncData
  f_tokens_of : Addr
  f_tokens_of_d : FuncData
  f_Tokens___init__ : Addr
  f_Tokens___init___d : FuncData
  f_Tokens_kind_ahead : Addr
  f_Tokens_kind_ahead_d : FuncData
  f_Tokens_take : Addr
  f_Tokens_take_d : FuncData
  f_Tokens_skip : Addr
  f_Tokens_skip_d : FuncData
  f_parse : Addr
  f_parse_d : FuncData
  f_read_declared : Addr
  f_read_declared_d : FuncData
  f_read_function : Addr
  f_read_function_d : FuncData
  f_read_expression : Addr
  f_read_expression_d : FuncData
  f_read_sign : Addr
  f_read_sign_d : FuncData
  f_read_term : Addr
  f_read_term_d : FuncData
  f_read_number : Addr
  f_read_number_d : FuncData
  f_show : Addr
  f_show_d : FuncData
  f_shown_params : Addr
  f_shown_params_d : FuncData
  f_block_lines : Addr
  f_block_lines_d : FuncData
  f_shown_sum : Addr
  f_shown_sum_d : FuncData
  f_shown_term : Addr
  f_shown_term_d : FuncData
  f__law_pool : Addr
  f__law_pool_d : FuncData
  f__law_mixed : Addr
  f__law_mixed_d : FuncData
  f__law_draw : Addr
  f__law_draw_d : FuncData
  f__law_names : Addr
  f__law_names_d : FuncData
  f__law_same : Addr
  f__law_same_d : FuncData
  f__law_term : Addr
  f__law_term_d : FuncData
  f__law_written : Addr
  f__law_written_d : FuncData
  f_law : Addr
  f_law_d : FuncData
  c_Tokens : Addr
  t_KEYWORDS : Addr
  t_SIGNS : Addr
/-- what the top has left -/
structure Txt (K : PySem.W.Frag) (mg : Str → Option Value) (a : Ads) : Prop where
  F_is_word : Fun K "is_word" "is_word" s_is_word a.f_is_word a.f_is_word_d
  b_is_word : Binds K a.f_is_word_d ["text"] []
  g_is_word : mg "is_word" = some (.ref a.f_is_word)
  F_is_number : Fun K "is_number" "is_number" s_is_number a.f_is_number a.f_is_number_d
  b_is_number : Binds K a.f_is_number_d ["piece"] []
  g_is_number : mg "is_number" = some (.ref a.f_is_number)
  F_kind_of : Fun K "kind_of" "kind_of" s_kind_of a.f_kind_of a.f_kind_of_d
  b_kind_of : Binds K a.f_kind_of_d ["piece"] []
  g_kind_of : mg "kind_of" = some (.ref a.f_kind_of)
  F_run_end : Fun K "run_end" "run_end" s_run_end a.f_run_end a.f_run_end_d
  b_run_end : Binds K a.f_run_end_d ["text", "start"] []
  g_run_end : mg "run_end" = some (.ref a.f_run_end)
  F_tokens_of : Fun K "tokens_of" "tokens_of" s_tokens_of a.f_tokens_of a.f_tokens_of_d
  b_tokens_of : Binds K a.f_tokens_of_d ["text"] []
  g_tokens_of : mg "tokens_of" = some (.ref a.f_tokens_of)
  F_Tokens___init__ : Fun K "__init__" "Tokens.__init__" s_Tokens___init__ a.f_Tokens___init__ a.f_Tokens___init___d
  b_Tokens___init__ : Binds K a.f_Tokens___init___d ["self", "text"] []
  mk_Tokens : Mk K a.c_Tokens a.f_Tokens___init__
  F_Tokens_kind_ahead : FunD K "kind_ahead" "Tokens.kind_ahead" (defArgs s_Tokens_kind_ahead) (defBody s_Tokens_kind_ahead) (defScope s_Tokens_kind_ahead) [.int 0] [] a.f_Tokens_kind_ahead a.f_Tokens_kind_ahead_d
  b_Tokens_kind_ahead : ∃ ds, Vals [.int 0] ds ∧ Binds K a.f_Tokens_kind_ahead_d ["self", "further"] ds
  m_Tokens_kind_ahead : Meth K a.c_Tokens "kind_ahead" a.f_Tokens_kind_ahead
  F_Tokens_take : Fun K "take" "Tokens.take" s_Tokens_take a.f_Tokens_take a.f_Tokens_take_d
  b_Tokens_take : Binds K a.f_Tokens_take_d ["self", "kind"] []
  m_Tokens_take : Meth K a.c_Tokens "take" a.f_Tokens_take
  F_Tokens_skip : Fun K "skip" "Tokens.skip" s_Tokens_skip a.f_Tokens_skip a.f_Tokens_skip_d
  b_Tokens_skip : Binds K a.f_Tokens_skip_d ["self", "kind"] []
  m_Tokens_skip : Meth K a.c_Tokens "skip" a.f_Tokens_skip
  F_parse : Fun K "parse" "parse" s_parse a.f_parse a.f_parse_d
  b_parse : Binds K a.f_parse_d ["text"] []
  g_parse : mg "parse" = some (.ref a.f_parse)
  F_read_declared : Fun K "read_declared" "read_declared" s_read_declared a.f_read_declared a.f_read_declared_d
  b_read_declared : Binds K a.f_read_declared_d ["tokens", "keyword"] []
  g_read_declared : mg "read_declared" = some (.ref a.f_read_declared)
  F_read_function : Fun K "read_function" "read_function" s_read_function a.f_read_function a.f_read_function_d
  b_read_function : Binds K a.f_read_function_d ["tokens"] []
  g_read_function : mg "read_function" = some (.ref a.f_read_function)
  F_read_expression : Fun K "read_expression" "read_expression" s_read_expression a.f_read_expression a.f_read_expression_d
  b_read_expression : Binds K a.f_read_expression_d ["tokens"] []
  g_read_expression : mg "read_expression" = some (.ref a.f_read_expression)
  F_read_sign : Fun K "read_sign" "read_sign" s_read_sign a.f_read_sign a.f_read_sign_d
  b_read_sign : Binds K a.f_read_sign_d ["tokens"] []
  g_read_sign : mg "read_sign" = some (.ref a.f_read_sign)
  F_read_term : Fun K "read_term" "read_term" s_read_term a.f_read_term a.f_read_term_d
  b_read_term : Binds K a.f_read_term_d ["tokens"] []
  g_read_term : mg "read_term" = some (.ref a.f_read_term)
  F_read_number : Fun K "read_number" "read_number" s_read_number a.f_read_number a.f_read_number_d
  b_read_number : Binds K a.f_read_number_d ["tokens"] []
  g_read_number : mg "read_number" = some (.ref a.f_read_number)
  F_show : Fun K "show" "show" s_show a.f_show a.f_show_d
  b_show : Binds K a.f_show_d ["tree"] []
  g_show : mg "show" = some (.ref a.f_show)
  F_shown_params : Fun K "shown_params" "shown_params" s_shown_params a.f_shown_params a.f_shown_params_d
  b_shown_params : Binds K a.f_shown_params_d ["params"] []
  g_shown_params : mg "shown_params" = some (.ref a.f_shown_params)
  F_block_lines : Fun K "block_lines" "block_lines" s_block_lines a.f_block_lines a.f_block_lines_d
  b_block_lines : Binds K a.f_block_lines_d ["parts", "indent"] []
  g_block_lines : mg "block_lines" = some (.ref a.f_block_lines)
  F_shown_sum : Fun K "shown_sum" "shown_sum" s_shown_sum a.f_shown_sum a.f_shown_sum_d
  b_shown_sum : Binds K a.f_shown_sum_d ["expression"] []
  g_shown_sum : mg "shown_sum" = some (.ref a.f_shown_sum)
  F_shown_term : Fun K "shown_term" "shown_term" s_shown_term a.f_shown_term a.f_shown_term_d
  b_shown_term : Binds K a.f_shown_term_d ["name", "factor"] []
  g_shown_term : mg "shown_term" = some (.ref a.f_shown_term)
  F__law_pool : Fun K "_law_pool" "_law_pool" s__law_pool a.f__law_pool a.f__law_pool_d
  b__law_pool : Binds K a.f__law_pool_d ["_law_script"] []
  g__law_pool : mg "_law_pool" = some (.ref a.f__law_pool)
  F__law_mixed : Fun K "_law_mixed" "_law_mixed" s__law_mixed a.f__law_mixed a.f__law_mixed_d
  b__law_mixed : Binds K a.f__law_mixed_d ["_law_number", "_law_count", "_law_many"] []
  g__law_mixed : mg "_law_mixed" = some (.ref a.f__law_mixed)
  F__law_draw : Fun K "_law_draw" "_law_draw" s__law_draw a.f__law_draw a.f__law_draw_d
  b__law_draw : Binds K a.f__law_draw_d ["_law_pool_here", "_law_many"] []
  g__law_draw : mg "_law_draw" = some (.ref a.f__law_draw)
  F__law_names : Fun K "_law_names" "_law_names" s__law_names a.f__law_names a.f__law_names_d
  b__law_names : Binds K a.f__law_names_d ["_law_pool_here"] []
  g__law_names : mg "_law_names" = some (.ref a.f__law_names)
  F__law_same : Fun K "_law_same" "_law_same" s__law_same a.f__law_same a.f__law_same_d
  b__law_same : Binds K a.f__law_same_d ["_law_actual", "_law_due"] []
  g__law_same : mg "_law_same" = some (.ref a.f__law_same)
  F__law_term : Fun K "_law_term" "_law_term" s__law_term a.f__law_term a.f__law_term_d
  b__law_term : Binds K a.f__law_term_d ["_law_name", "_law_number", "_law_is_short"] []
  g__law_term : mg "_law_term" = some (.ref a.f__law_term)
  F__law_written : Fun K "_law_written" "_law_written" s__law_written a.f__law_written a.f__law_written_d
  b__law_written : Binds K a.f__law_written_d ["_law_expression_here"] []
  g__law_written : mg "_law_written" = some (.ref a.f__law_written)
  F_law : Fun K "law" "law" s_law a.f_law a.f_law_d
  g_law : mg "law" = some (.ref a.f_law)
  cl_Tokens : Cls K a.c_Tokens
  mg_Tokens : mg "Tokens" = some (.ref a.c_Tokens)
  n_Tokens_found : NoAttr K a.c_Tokens "found"
  n_Tokens_taken : NoAttr K a.c_Tokens "taken"
  int : mg "int" = none
  len : mg "len" = none
  all : mg "all" = none
  max : mg "max" = none
  isinstance : mg "isinstance" = none
  str : mg "str" = none
  tuple : mg "tuple" = none
  sorted : mg "sorted" = none
  abs : mg "abs" = none
  range : mg "range" = none
  bool : mg "bool" = none
  list : mg "list" = none
  g_LETTERS : ∃ t, mg "LETTERS" = some (.str LET t)
  g_DIGITS : ∃ t, mg "DIGITS" = some (.str DIG t)
  g_BLANKS : ∃ t, mg "BLANKS" = some (.str " \n" t)
  g_NAME : ∃ t, mg "NAME" = some (.str "NAME" t)
  g_NUMBER : ∃ t, mg "NUMBER" = some (.str "NUMBER" t)
  g_WRONG : ∃ t, mg "WRONG" = some (.str "WRONG" t)
  g_END : ∃ t, mg "END" = some (.str "END" t)
  g_MOST_DIGITS : ∃ t, mg "MOST_DIGITS" = some (.int 12 t)
  g_KEYWORDS : mg "KEYWORDS" = some (.ref a.t_KEYWORDS)
  q_KEYWORDS : ∀ H, SqT K H a.t_KEYWORDS kws
  g_SIGNS : mg "SIGNS" = some (.ref a.t_SIGNS)
  q_SIGNS : ∀ H, SqT K H a.t_SIGNS sgs

/-! ### the mirror of tokens -/
def letter (c : Nat) : Bool := decide (c ∈ LET.cps.toList)
def digit (c : Nat) : Bool := decide (c ∈ DIG.cps.toList)
def blank (c : Nat) : Bool := decide (c ∈ (Str.ofString " \n").cps.toList)
def alnum (c : Nat) : Bool := letter c || digit c
def isW (z : Str) : Bool := match tl z with
  | [] => false
  | c :: r => letter c && (c :: r).all alnum
def isNum (z : Str) : Bool := match tl z with
  | [] => false
  | c :: r => if decide (V.str ⟨#[c]⟩ = V.str (Str.ofString "0")) = true then decide (V.str z = V.str (Str.ofString "0")) else (c :: r).all digit
def kindOf (z : Str) : Str := if isW z = true then (if inV (.str z) kws = true then z else "NAME") else if isNum z = true then "NUMBER" else if inV (.str z) sgs = true then z else "WRONG"
def runLen (cs : List Nat) : Nat := (cs.takeWhile alnum).length
abbrev Tok3 := Str × Str × Nat
def toksF : Nat → List Nat → Nat → List Tok3
  | 0, _, _ => []
  | _ + 1, [], _ => []
  | n + 1, c :: r, p => if blank c = true then toksF n r (p + 1) else
      (kindOf ⟨((c :: r).take (max 1 (runLen (c :: r)))).toArray⟩, ⟨((c :: r).take (max 1 (runLen (c :: r)))).toArray⟩, p) :: toksF n ((c :: r).drop (max 1 (runLen (c :: r)))) (p + max 1 (runLen (c :: r)))
def toksL (cs : List Nat) (p : Nat) : List Tok3 := toksF cs.length cs p
def toks (z : Str) : List Tok3 := toksL (tl z) 0 ++ ([("END", "", z.length)] : List Tok3)
theorem toksF_fuel : ∀ (n m : Nat) (cs : List Nat) (p : Nat), cs.length ≤ n → cs.length ≤ m → toksF n cs p = toksF m cs p
  | 0, 0, _, _, _, _ => rfl
  | 0, m + 1, [], _, _, _ => rfl
  | 0, m + 1, c :: r, _, h, _ => by simp at h
  | n + 1, 0, [], _, _, _ => rfl
  | n + 1, 0, c :: r, _, _, h => by simp at h
  | n + 1, m + 1, [], _, _, _ => rfl
  | n + 1, m + 1, c :: r, p, h1, h2 => by
    have l1 : r.length ≤ n := by simpa using h1
    have l2 : r.length ≤ m := by simpa using h2
    have ld : ((c :: r).drop (max 1 (runLen (c :: r)))).length ≤ r.length := by
      rw [List.length_drop, List.length_cons]
      omega
    show (if blank c = true then toksF n r (p + 1) else _ :: toksF n _ _) = (if blank c = true then toksF m r (p + 1) else _ :: toksF m _ _)
    rw [toksF_fuel n m r (p + 1) l1 l2, toksF_fuel n m _ (p + max 1 (runLen (c :: r))) (Nat.le_trans ld l1) (Nat.le_trans ld l2)]
theorem toksL_nil (p : Nat) : toksL [] p = [] := rfl
theorem toksL_blank {c : Nat} {r : List Nat} {p : Nat} (h : blank c = true) : toksL (c :: r) p = toksL r (p + 1) := by
  show (if blank c = true then toksF r.length r (p + 1) else _) = _
  rw [if_pos h]
  rfl
theorem toksL_tok {c : Nat} {r : List Nat} {p : Nat} (h : blank c = false) : toksL (c :: r) p =
    (kindOf ⟨((c :: r).take (max 1 (runLen (c :: r)))).toArray⟩, ⟨((c :: r).take (max 1 (runLen (c :: r)))).toArray⟩, p) :: toksL ((c :: r).drop (max 1 (runLen (c :: r)))) (p + max 1 (runLen (c :: r))) := by
  show (if blank c = true then _ else _ :: toksF r.length _ _) = _
  rw [if_neg (by rw [h]; exact Bool.false_ne_true)]
  congr 1
  exact toksF_fuel _ _ _ _ (by rw [List.length_drop, List.length_cons]; omega) (Nat.le_refl _)
theorem isW_cons {z : Str} {c : Nat} {r : List Nat} (e : tl z = c :: r) (hc : letter c = true) : isW z = ((tl z).map alnum).all id := by
  unfold isW
  rw [e]
  show (letter c && (c :: r).all alnum) = ((c :: r).map alnum).all id
  rw [hc, Bool.true_and, List.all_map]
  rfl
theorem isW_not {z : Str} {c : Nat} {r : List Nat} (e : tl z = c :: r) (hc : letter c = false) : isW z = false := by
  unfold isW
  rw [e]
  show (letter c && (c :: r).all alnum) = false
  rw [hc, Bool.false_and]
theorem isW_nil {z : Str} (e : tl z = []) : isW z = false := by
  unfold isW
  rw [e]
theorem tl_empty : tl (Str.ofString "") = [] := by decide +kernel
theorem at0 {z : Str} {c : Nat} {r : List Nat} (e : tl z = c :: r) : atI z.cps.toList 0 = some c := by
  show atI (tl z) 0 = some c
  rw [e]
  exact atI_nat (j := 0) rfl
def spWord : Sp := fun vs H Q _ => ∃ z, vs = [.str z] ∧ Big z ∧ ∀ H', Same H H' → Q (.bl (isW z)) H'
def spNumb : Sp := fun vs H Q _ => ∃ z, vs = [.str z] ∧ Big z ∧ tl z ≠ [] ∧ ∀ H', Same H H' → Q (.bl (isNum z)) H'
def spKind : Sp := fun vs H Q _ => ∃ z, vs = [.str z] ∧ Big z ∧ tl z ≠ [] ∧ ∀ H', Same H H' → Q (.str (kindOf z)) H'
def spRun : Sp := fun vs H Q _ => ∃ (z : Str) (i : Nat), vs = [.str z, .int i] ∧ Big z ∧ i < z.length ∧ Q (.int ((i + max 1 (runLen ((tl z).drop i)) : Nat) : Int)) H
section
variable {P : Program} {w : World} {K : PySem.W.Frag} {mg : Str → Option Value} {base : Heap} {a : Ads}
theorem sc_is_word : FnScope ["text", "sign"] ["text"] (defScope s_is_word) := ⟨rfl, rfl, rfl, by decide +kernel, rfl, by decide +kernel, by decide +kernel⟩
theorem ok_is_word (T : Txt K mg a) : FnOk P w K mg base CX0 1 a.f_is_word a.f_is_word_d ["text"] spWord := by
  refine T.F_is_word.ok sc_is_word (fun vs H Q E h => ?_) (fun cdv A outer s H vs Q E hr h => ?_)
  · obtain ⟨z, rfl, _⟩ := h
    rfl
  obtain ⟨z, rfl, hz, q⟩ := h
  refine ⟨_, (pss_cons (ps_if (PW.pt (pw_or (pt_cmpR op_eq (pv 0) pe_str (nomark _)) (pw_or1 (pt_cmpR op_notIn_sign (pe_ix ix_str (pv 0) pe_int (fun _ _ => rfl)) (pe_gs rfl T.g_LETTERS) (by rfl)))))
      (pss_one (ps_ret pe_bl))
      pss_nil)
    (pss_one (ps_ret (pe_callB (cr_all rfl) (by rfl) T.all (by decide +kernel) (pa_cons (pe_lc (own := [("sign", 1)]) (g := gName 1) (tt := tYes) (by rfl) sc_is_word.nd (pi_str (pv 0)) (blkOk_by (own := [("sign", 1)]) (N := ["text", "sign"]) (sc := defScope s_is_word) (by decide +kernel)) (fun _ _ _ _ _ => pg_name (i := 1) sc_is_word.nd rfl (Or.inl rfl)) (fun _ _ _ _ _ => pts_nil) (fun _ _ _ _ _ => (pe_or (pe_cmpR op_in_sign (pv 1) (pe_gs rfl T.g_LETTERS) (by rfl)) (pe_one (pe_cmpR op_in_sign (pv 1) (pe_gs rfl T.g_DIGITS) (by rfl)))))) pa_nil))))), ?_⟩
  cases hc : tl z with
  | nil =>
    have ez : z = Str.ofString "" := ext_tl (hc.trans tl_empty.symm)
    refine st_seq (st_yes (ans_or1 (ans_eq (fun Q q => ⟨_, rfl, q⟩) (fun Q q => q) rfl (decide_eq_true (congrArg V.str ez)))) ?_)
    have := q H (Same.refl H)
    rw [isW_nil hc] at this
    exact this
  | cons c r =>
    have ez : ¬ z = Str.ofString "" := fun e => by
      rw [e, tl_empty] at hc
      cases hc
    refine st_seq (st_ite (ans_or (ans_eq (fun Q q => ⟨_, rfl, q⟩) (fun Q q => q) rfl (decide_eq_false fun e => ez (V.str.inj e))) (b := !letter c) (fun Q q => ⟨_, rfl, z, 0, c, rfl, rfl, bigLe hz, at0 hc, c, LET, rfl, rfl, _, rfl, q⟩)) (fun e => ?_) (fun e => ?_))
    · have := q H (Same.refl H)
      rw [isW_not hc (by simpa using e)] at this
      exact this
    · have hl : letter c = true := by simpa using e
      refine ⟨_, rfl, z, rfl, fun D hD => lc_signs alnum hz hD (fun c' H' Q' q' => ⟨rfl, _, rfl, c', LET, rfl, rfl, _, rfl, ite2 (fun e => ?_) (fun e => ?_)⟩) (fun H' s2 hD2 => ⟨D, _, rfl, SqL.of hD2, ?_⟩)⟩
      · have : alnum c' = true := by unfold alnum letter; rw [e]; rfl
        rw [this] at q'
        exact q'
      · refine ⟨_, rfl, c', DIG, rfl, rfl, ?_⟩
        have : alnum c' = digit c' := by unfold alnum letter; rw [Bool.eq_false_iff.mpr e, Bool.false_or]
        rw [this] at q'
        exact q'
      · rw [← isW_cons hc hl]
        exact q _ s2
theorem sc_is_number : FnScope ["piece", "sign"] ["piece"] (defScope s_is_number) := ⟨rfl, rfl, rfl, by decide +kernel, rfl, by decide +kernel, by decide +kernel⟩
theorem ok_is_number (T : Txt K mg a) : FnOk P w K mg base CX0 1 a.f_is_number a.f_is_number_d ["piece"] spNumb := by
  refine T.F_is_number.ok sc_is_number (fun vs H Q E h => ?_) (fun cdv A outer s H vs Q E hr h => ?_)
  · obtain ⟨z, rfl, _⟩ := h
    rfl
  obtain ⟨z, rfl, hz, hne, q⟩ := h
  refine ⟨_, (pss_cons (ps_if (pt_cmpR op_eq (pe_ix ix_str (pv 0) pe_int (fun _ _ => rfl)) pe_str (nomark _))
      (pss_one (ps_ret (pe_cmpR op_eq (pv 0) pe_str (nomark _))))
      pss_nil)
    (pss_one (ps_ret (pe_callB (cr_all rfl) (by rfl) T.all (by decide +kernel) (pa_cons (pe_lc (own := [("sign", 1)]) (g := gName 1) (tt := tYes) (by rfl) sc_is_number.nd (pi_str (pv 0)) (blkOk_by (own := [("sign", 1)]) (N := ["piece", "sign"]) (sc := defScope s_is_number) (by decide +kernel)) (fun _ _ _ _ _ => pg_name (i := 1) sc_is_number.nd rfl (Or.inl rfl)) (fun _ _ _ _ _ => pts_nil) (fun _ _ _ _ _ => (pe_cmpR op_in_sign (pv 1) (pe_gs rfl T.g_DIGITS) (by rfl)))) pa_nil))))), ?_⟩
  cases hc : tl z with
  | nil => exact absurd hc hne
  | cons c r =>
    refine st_seq (st_ite (b := decide (V.str ⟨#[c]⟩ = V.str (Str.ofString "0"))) (fun Q q => ⟨_, rfl, z, 0, c, rfl, rfl, bigLe hz, at0 hc, rfl, _, rfl, q⟩) (fun e => ?_) (fun e => ?_))
    · refine ⟨_, rfl, rfl, ?_⟩
      have := q H (Same.refl H)
      unfold isNum at this
      rw [hc] at this
      dsimp only at this
      rw [if_pos e] at this
      exact this
    · refine ⟨_, rfl, z, rfl, fun D hD => lc_signs digit hz hD (fun c' H' Q' q' => ⟨rfl, _, rfl, c', DIG, rfl, rfl, q'⟩) (fun H' s2 hD2 => ⟨D, _, rfl, SqL.of hD2, ?_⟩)⟩
      have := q H' s2
      unfold isNum at this
      rw [hc] at this
      dsimp only at this
      rw [if_neg (by rw [e]; exact Bool.false_ne_true)] at this
      rw [hc, List.all_map]
      exact this
theorem kws_flat : kws.all flatV = true := by decide +kernel
theorem sgs_flat : sgs.all flatV = true := by decide +kernel
theorem sc_kind_of : FnScope ["piece"] ["piece"] (defScope s_kind_of) := ⟨rfl, rfl, rfl, by decide +kernel, rfl, by decide +kernel, by decide +kernel⟩
theorem ok_kind_of (T : Txt K mg a) : FnOk P w K mg base CX0 2 a.f_kind_of a.f_kind_of_d ["piece"] spKind := by
  refine T.F_kind_of.ok sc_kind_of (fun vs H Q E h => ?_) (fun cdv A outer s H vs Q E hr h => ?_)
  · obtain ⟨z, rfl, _⟩ := h
    rfl
  obtain ⟨z, rfl, hz, hne, q⟩ := h
  refine ⟨_, (pss_cons (ps_if (pt_val (pe_call (ok_is_word T) (hr.mono (by decide)) (by rfl) T.g_is_word T.F_is_word.kp T.b_is_word .nil pass0 (pa_cons (pv 0) pa_nil)))
      (pss_one (ps_ret (pe_ifExp (pt_cmpR op_in_seq (pv 0) (pe_gr rfl T.g_KEYWORDS) (by rfl)) (pv 0) (pe_gs rfl T.g_NAME))))
      pss_nil)
    (pss_cons (ps_if (pt_val (pe_call (ok_is_number T) (hr.mono (by decide)) (by rfl) T.g_is_number T.F_is_number.kp T.b_is_number .nil pass0 (pa_cons (pv 0) pa_nil)))
      (pss_one (ps_ret (pe_gs rfl T.g_NUMBER)))
      pss_nil)
    (pss_cons (ps_if (pt_cmpR op_in_seq (pv 0) (pe_gr rfl T.g_SIGNS) (by rfl))
      (pss_one (ps_ret (pv 0)))
      pss_nil)
    (pss_one (ps_ret (pe_gs rfl T.g_WRONG)))))), ?_⟩
  refine ⟨_, rfl, z, rfl, hz, fun H1 s1 => ⟨_, rfl, ite2 (fun e1 => ?_) (fun e1 => ?_)⟩⟩
  · refine ⟨_, rfl, _, kws, rfl, .inr (T.q_KEYWORDS H1), rfl, kws_flat, _, rfl, ite2 (fun e2 => ⟨_, rfl, ?_⟩) (fun e2 => ?_)⟩
    · have e2' : inV (.str z) kws = true := e2
      have := q H1 s1
      unfold kindOf at this
      rw [if_pos e1, if_pos e2'] at this
      exact this
    · have e2' : ¬ inV (.str z) kws = true := e2
      have := q H1 s1
      unfold kindOf at this
      rw [if_pos e1, if_neg e2'] at this
      exact this
  · refine ⟨_, rfl, z, rfl, hz, hne, fun H2 s2 => ⟨_, rfl, ite2 (fun e2 => ?_) (fun e2 => ?_)⟩⟩
    · have := q H2 (s1.trans s2)
      unfold kindOf at this
      rw [if_neg e1, if_pos e2] at this
      exact this
    · refine ⟨_, rfl, _, sgs, rfl, .inr (T.q_SIGNS H2), rfl, sgs_flat, _, rfl, ite2 (fun e3 => ⟨_, rfl, ?_⟩) (fun e3 => ?_)⟩
      · have e3' : inV (.str z) sgs = true := e3
        have := q H2 (s1.trans s2)
        unfold kindOf at this
        rw [if_neg e1, if_neg e2, if_pos e3'] at this
        exact this
      · have e3' : ¬ inV (.str z) sgs = true := e3
        have := q H2 (s1.trans s2)
        unfold kindOf at this
        rw [if_neg e1, if_neg e2, if_neg e3'] at this
        exact this
end
end K1
namespace K1
open PySem PySem.Spec PyProof.Rows L2 TL
theorem cutS_nat (z : Str) {p e : Nat} (h1 : p ≤ e) (h2 : e ≤ z.length) : cutS z (some (p : Int)) (some (e : Int)) = ⟨(((tl z).drop p).take (e - p)).toArray⟩ := by
  unfold cutS
  rw [HT.sIx_nat, HT.sIx_nat, Nat.min_eq_left h2, Nat.min_eq_left (Nat.le_trans h1 h2)]
theorem cutS_len (z : Str) (lo hi : Option Int) : (cutS z lo hi).length ≤ z.length := by
  rw [len_tl, len_tl z]
  show ((z.cps.toList.drop _).take _).toArray.toList.length ≤ _
  rw [List.length_take, List.length_drop]
  show _ ≤ z.cps.toList.length
  omega
theorem atI_tl {z : Str} {j : Nat} (h : j < z.length) : ∃ c, atI z.cps.toList (j : Int) = some c ∧ (tl z).drop j = c :: (tl z).drop (j + 1) := by
  have hj : j < (tl z).length := by rw [← len_tl]; exact h
  exact ⟨(tl z)[j], atI_nat (List.getElem?_eq_getElem hj), List.drop_eq_getElem_cons hj⟩
theorem runLen_hit {c : Nat} {r : List Nat} (h : alnum c = true) : runLen (c :: r) = runLen r + 1 := by
  unfold runLen
  rw [List.takeWhile_cons_of_pos h]
  rfl
theorem runLen_miss {c : Nat} {r : List Nat} (h : alnum c = false) : runLen (c :: r) = 0 := by
  unfold runLen
  rw [List.takeWhile_cons_of_neg (by rw [h]; exact Bool.false_ne_true)]
  rfl
theorem runLen_le (l : List Nat) : runLen l ≤ l.length := by
  unfold runLen
  exact (List.takeWhile_sublist _).length_le
def tok (t : Tok3) : List V := [.str t.1, .str t.2.1, .int (t.2.2 : Int)]
def Rep (H : Hp) : List Addr → List Tok3 → Prop
  | [], [] => True
  | a :: as, t :: ts => H a = some (.tup (tok t)) ∧ Rep H as ts
  | _, _ => False
theorem Rep.same {H H' : Hp} (s : Same H H') : ∀ {as : List Addr} {ts : List Tok3}, Rep H as ts → Rep H' as ts
  | [], [], _ => trivial
  | _ :: _, _ :: _, h => ⟨s _ _ h.1, Rep.same s h.2⟩
  | [], _ :: _, h => h.elim
  | _ :: _, [], h => h.elim
theorem Rep.app {H : Hp} {a : Addr} {t : Tok3} (ha : H a = some (.tup (tok t))) : ∀ {as : List Addr} {ts : List Tok3}, Rep H as ts → Rep H (as ++ [a]) (ts ++ [t])
  | [], [], _ => ⟨ha, trivial⟩
  | _ :: _, _ :: _, h => ⟨h.1, Rep.app ha h.2⟩
  | [], _ :: _, h => h.elim
  | _ :: _, [], h => h.elim
theorem Rep.len {H : Hp} : ∀ {as : List Addr} {ts : List Tok3}, Rep H as ts → as.length = ts.length
  | [], [], _ => rfl
  | _ :: _, _ :: _, h => by rw [List.length_cons, List.length_cons, Rep.len h.2]
  | [], _ :: _, h => h.elim
  | _ :: _, [], h => h.elim
theorem Rep.get {H : Hp} : ∀ {as : List Addr} {ts : List Tok3} {j : Nat} {t : Tok3}, Rep H as ts → ts[j]? = some t → ∃ a, (as.map V.ref)[j]? = some (.ref a) ∧ H a = some (.tup (tok t))
  | [], [], j, t, _, h => by simp at h
  | a :: _, _ :: _, 0, t, h, e => by
    have e' := Option.some.inj e
    subst e'
    exact ⟨a, rfl, h.1⟩
  | _ :: as, _ :: ts, j + 1, t, h, e => by
    obtain ⟨a, h1, h2⟩ := Rep.get (j := j) (t := t) h.2 e
    exact ⟨a, h1, h2⟩
  | [], _ :: _, _, _, h, _ => h.elim
  | _ :: _, [], _, _, h, _ => h.elim
theorem Rep.off {H : Hp} {L : Addr} {xs : List V} {o : HO} (hL : H L = some (.lst xs)) : ∀ {as : List Addr} {ts : List Tok3}, Rep H as ts → Rep (upd H L o) as ts
  | [], [], _ => trivial
  | _ :: _, _ :: _, h => ⟨by rw [upd_ne (ne_of h.1 hL (by intro z; cases z))]; exact h.1, Rep.off hL h.2⟩
  | [], _ :: _, h => h.elim
  | _ :: _, [], h => h.elim
theorem Rep.offI {H : Hp} {o C dx : Addr} {fs : List (Str × V)} {u : HO} (ho : H o = some (.ins C dx fs)) : ∀ {as : List Addr} {ts : List Tok3}, Rep H as ts → Rep (upd H o u) as ts
  | [], [], _ => trivial
  | _ :: _, _ :: _, h => ⟨by rw [upd_ne (ne_of h.1 ho (by intro z; cases z))]; exact h.1, Rep.offI ho h.2⟩
  | [], _ :: _, h => h.elim
  | _ :: _, [], h => h.elim
def spToks : Sp := fun vs H Q _ => ∃ z, vs = [.str z] ∧ Big z ∧ ∀ H' L as, Same H H' → H L = none → H' L = some (.lst (as.map V.ref)) → Rep H' as (toks z) → Q (.ref L) H'
/-! ### a Tokens object -/
def tf (L : Addr) (i : Nat) : List (Str × V) := putF "taken" (.int i) (putF "found" (.ref L) [])
theorem ct : ¬ (("found" : Str) = "taken") := by decide +kernel
theorem tf_eq (L : Addr) (i : Nat) : tf L i = ([("found", V.ref L), ("taken", V.int i)] : List (Str × V)) := by
  show (if ("found" : Str) = "taken" then [(("found" : Str), V.int i)] else (("found" : Str), V.ref L) :: putF "taken" (V.int i) []) = ([("found", V.ref L), ("taken", V.int i)] : List (Str × V))
  rw [if_neg ct]
  all_goals rfl
theorem tf_found (L : Addr) (i : Nat) : (tf L i).lookup ("found" : Str) = some (.ref L) := by
  unfold tf
  rw [lookup_putF, if_neg ct, lookup_putF, if_pos rfl]
theorem tf_taken (L : Addr) (i : Nat) : (tf L i).lookup ("taken" : Str) = some (.int i) := by
  unfold tf
  rw [lookup_putF, if_pos rfl]
theorem tf_no (L : Addr) (i : Nat) {m : Str} (h1 : ¬ m = "taken") (h2 : ¬ m = "found") : (tf L i).lookup m = none := by
  unfold tf
  rw [lookup_putF, if_neg h1, lookup_putF, if_neg h2]
  all_goals rfl
theorem tf_put (L : Addr) (i j : Nat) : putF "taken" (.int j) (tf L i) = tf L j := by
  rw [tf_eq, tf_eq]
  show (if ("found" : Str) = "taken" then _ else (("found" : Str), V.ref L) :: (if ("taken" : Str) = "taken" then [(("taken" : Str), V.int j)] else _)) = ([("found", V.ref L), ("taken", V.int j)] : List (Str × V))
  rw [if_neg ct, if_pos rfl]
/-- a Tokens object at o: its tokens ts, i of them taken -/
def TkAt (C : Addr) (H : Hp) (o L : Addr) (ts : List Tok3) (i : Nat) : Prop := ∃ dx as, H o = some (.ins C dx (tf L i)) ∧ H L = some (.lst (as.map V.ref)) ∧ Rep H as ts ∧ i ≤ ts.length ∧ ts.length ≤ 1000001
theorem TkAt.same {C : Addr} {H H' : Hp} {o L : Addr} {ts : List Tok3} {i : Nat} (h : TkAt C H o L ts i) (s : Same H H') : TkAt C H' o L ts i := by
  obtain ⟨dx, as, h1, h2, h3, h4⟩ := h
  exact ⟨dx, as, s _ _ h1, s _ _ h2, h3.same s, h4⟩
theorem Rep.offX {H : Hp} {L : Addr} {u o : HO} (hL : H L = some u) (hu : ∀ xs, u ≠ .tup xs) : ∀ {as : List Addr} {ts : List Tok3}, Rep H as ts → Rep (upd H L o) as ts
  | [], [], _ => trivial
  | _ :: _, _ :: _, h => ⟨by rw [upd_ne (ne_of h.1 hL (fun z => hu _ z.symm))]; exact h.1, Rep.offX hL hu h.2⟩
  | [], _ :: _, h => h.elim
  | _ :: _, [], h => h.elim
/-- something else changes -/
theorem TkAt.off {C : Addr} {H : Hp} {o L b : Addr} {ts : List Tok3} {i : Nat} {u x : HO} (h : TkAt C H o L ts i) (hb : H b = some u) (h1 : ∀ xs, u ≠ .tup xs) (h2 : ∀ C dx fs, u ≠ .ins C dx fs) (h3 : b ≠ L) : TkAt C (upd H b x) o L ts i := by
  obtain ⟨dx, as, e1, e2, e3, e4⟩ := h
  refine ⟨dx, as, ?_, ?_, e3.offX hb h1, e4⟩
  · rw [upd_ne (ne_of e1 hb (fun z => h2 _ _ _ z.symm))]
    exact e1
  · rw [upd_ne h3.symm]
    exact e2
theorem TkAt.move {C : Addr} {H : Hp} {o : Addr} {ts : List Tok3} {i j : Nat} {L dx : Addr} {as : List Addr} (h1 : H o = some (.ins C dx (tf L i))) (h2 : H L = some (.lst (as.map V.ref))) (h3 : Rep H as ts) (hj : j ≤ ts.length) (hl : ts.length ≤ 1000001) :
    TkAt C (upd H o (.ins C dx (tf L j))) o L ts j := by
  refine ⟨dx, as, upd_same, ?_, ?_, hj, hl⟩
  · rw [upd_ne (ne_of h2 h1 (by intro z; cases z))]
    exact h2
  · clear h2 hj hl
    revert ts
    induction as with
    | nil =>
      intro ts h3
      cases ts with
      | nil => exact trivial
      | cons _ _ => exact h3.elim
    | cons b bs ih =>
      intro ts h3
      cases ts with
      | nil => exact h3.elim
      | cons t ts =>
        refine ⟨?_, ih h3.2⟩
        rw [upd_ne (ne_of h3.1 h1 (by intro z; cases z))]
        exact h3.1
/-- but for o all is as it was -/
def But (o : Addr) (H H' : Hp) : Prop := ∀ b, b ≠ o → H' b = H b
def spInit (C : Addr) : Sp := fun vs H Q _ => ∃ (o dx : Addr) (z : Str), vs = [.ref o, .str z] ∧ H o = some (.ins C dx []) ∧ Big z ∧ ∀ H' L, TkAt C H' o L (toks z) 0 → H L = none → (∀ b x, H b = some x → b ≠ o → H' b = some x) → Q .non H'
def spAhead (C : Addr) : Sp := fun vs H Q _ => ∃ (o L : Addr) (f : Nat) (ts : List Tok3) (i : Nat) (t : Tok3), vs = [.ref o, .int f] ∧ TkAt C H o L ts i ∧ ts[i + f]? = some t ∧ Q (.str t.1) H
def spTake (C : Addr) : Sp := fun vs H Q _ => ∃ (o L : Addr) (ts : List Tok3) (i : Nat) (t : Tok3), vs = [.ref o, .str t.1] ∧ TkAt C H o L ts i ∧ ts[i]? = some t ∧ ∀ H', TkAt C H' o L ts (i + 1) → But o H H' → Q (.str t.2.1) H'
def spSkip (C : Addr) : Sp := fun vs H Q _ => ∃ (o L : Addr) (k : Str) (ts : List Tok3) (i : Nat) (t : Tok3), vs = [.ref o, .str k] ∧ TkAt C H o L ts i ∧ ts[i]? = some t ∧
  (t.1 = k → ∀ H', TkAt C H' o L ts (i + 1) → But o H H' → Q (.bl true) H') ∧ (¬ t.1 = k → Q (.bl false) H)
section
variable {P : Program} {w : World} {K : PySem.W.Frag} {mg : Str → Option Value} {base : Heap} {a : Ads}
theorem sc_run_end : FnScope ["text", "start", "at"] ["text", "start"] (defScope s_run_end) := ⟨rfl, rfl, rfl, by decide +kernel, rfl, by decide +kernel, by decide +kernel⟩
theorem ok_run_end (T : Txt K mg a) : FnOk P w K mg base CX0 1 a.f_run_end a.f_run_end_d ["text", "start"] spRun := by
  refine T.F_run_end.ok sc_run_end (fun vs H Q E h => ?_) (fun cdv A outer s H vs Q E hr h => ?_)
  · obtain ⟨z, i, rfl, _⟩ := h
    rfl
  obtain ⟨z, i, rfl, hz, hi, q⟩ := h
  refine ⟨_, (pss_cons (ps_set (i := 2) sc_run_end.nd rfl (Or.inl rfl) (pv 1))
    (pss_cons (ps_while PassesOwn.never (PW.pt (pw_and (pt_cmpR op_lt (pv 2) (pe_callB call_len_str (by rfl) T.len PySem.boot_len (pa_cons (pv 0) pa_nil)) (nomark _)) (pw_and1 (PW.pt (pw_or (pt_cmpR op_in_sign (pe_ix ix_str (pv 0) (pv 2) (fun _ _ => rfl)) (pe_gs rfl T.g_LETTERS) (by rfl)) (pw_or1 (pt_cmpR op_in_sign (pe_ix ix_str (pv 0) (pv 2) (fun _ _ => rfl)) (pe_gs rfl T.g_DIGITS) (by rfl))))))))
      (pss_one (ps_aug (i := 2) sc_run_end.nd rfl (Or.inl rfl) pe_int ip_add)))
    (pss_one (ps_ret (pe_callB (call_max2 rfl) (by rfl) T.max (by decide +kernel) (pa_cons (pv 2) (pa_cons (pe_op op_add (pv 1) pe_int) pa_nil))))))), ?_⟩
  refine st_seq (st_set (fun Q q => ⟨_, rfl, q⟩) (st_seq (while_ans (fun m σ H' => ∃ j : Nat, σ = [some (.str z), some (.int i), some (.int j)] ∧ H' = H ∧ i ≤ j ∧ j ≤ z.length ∧ m = z.length - j ∧ runLen ((tl z).drop i) = (j - i) + runLen ((tl z).drop j))
    (z.length - i) ⟨i, rfl, rfl, Nat.le_refl _, Nat.le_of_lt hi, rfl, by omega⟩ ?_)))
  rintro m σ H' ⟨j, rfl, rfl, hij, hj, rfl, hrun⟩
  by_cases hlt : j < z.length
  · obtain ⟨c, hc, hd⟩ := atI_tl hlt
    have t1 : Ans (tTest (tOp (rI0 fun i j => .bl (decide (i < j))) (tVar 2) (tCB (fun xs H Q => ∃ z, xs = [.str z] ∧ z.length ≤ sizeLine ∧ Q (.int z.length) H) (tCons (tVar 0) tNil)))) [some (.str z), some (.int i), some (.int j)] H' true :=
      fun Q q => ⟨_, rfl, _, rfl, z, rfl, bigLe hz, _, _, rfl, rfl, _, rfl, (by rw [decide_eq_true (show (j : Int) < (z.length : Int) by omega)]; exact q)⟩
    refine ⟨alnum c, ?_, fun e => ?_, fun e => ?_⟩
    · refine ans_and t1 ?_
      by_cases hl : letter c = true
      · have : alnum c = true := by unfold alnum; rw [hl]; rfl
        rw [this]
        exact ans_or1 (fun Q q => ⟨_, rfl, _, rfl, z, j, c, rfl, rfl, bigLe hz, hc, c, LET, rfl, rfl, _, rfl, (by rw [show decide (c ∈ LET.cps.toList) = true from hl]; exact q)⟩)
      · have hl' : letter c = false := Bool.eq_false_iff.mpr hl
        have : alnum c = digit c := by unfold alnum; rw [hl', Bool.false_or]
        rw [this]
        exact ans_or (fun Q q => ⟨_, rfl, _, rfl, z, j, c, rfl, rfl, bigLe hz, hc, c, LET, rfl, rfl, _, rfl, (by rw [show decide (c ∈ LET.cps.toList) = false from hl']; exact q)⟩)
          (fun Q q => ⟨_, rfl, _, rfl, z, j, c, rfl, rfl, bigLe hz, hc, c, DIG, rfl, rfl, _, rfl, q⟩)
    · refine ⟨_, rfl, _, _, rfl, rfl, z.length - (j + 1), by omega, j + 1, rfl, rfl, by omega, by omega, rfl, ?_⟩
      rw [hrun, hd, runLen_hit e]
      omega
    · refine ⟨_, rfl, _, rfl, _, _, rfl, rfl, _, _, rfl, ?_⟩
      rw [hd, runLen_miss e] at hrun
      rw [hrun] at q
      by_cases hm : j = i
      · subst hm
        rw [if_pos (by omega)]
        rw [show j + max 1 (j - j + 0) = j + 1 by omega] at q
        exact q
      · rw [if_neg (by omega)]
        rw [show i + max 1 (j - i + 0) = j by omega] at q
        exact q
  · have hj' : j = z.length := by omega
    refine ⟨false, ans_and0 (fun Q q => ⟨_, rfl, _, rfl, z, rfl, bigLe hz, _, _, rfl, rfl, _, rfl, (by rw [decide_eq_false (show ¬ (j : Int) < (z.length : Int) by omega)]; exact q)⟩), fun e => (by cases e), fun _ => ?_⟩
    refine ⟨_, rfl, _, rfl, _, _, rfl, rfl, _, _, rfl, ?_⟩
    have e0 : (tl z).drop j = [] := List.drop_eq_nil_of_le (by rw [← len_tl]; omega)
    rw [e0] at hrun
    rw [hrun] at q
    rw [if_neg (by omega)]
    rw [show i + max 1 (j - i + runLen []) = j by show i + max 1 (j - i + 0) = j; omega] at q
    exact q
theorem sc_tokens_of : FnScope ["text", "found", "at", "end"] ["text"] (defScope s_tokens_of) := ⟨rfl, rfl, rfl, by decide +kernel, rfl, by decide +kernel, by decide +kernel⟩
theorem ok_tokens_of (T : Txt K mg a) : FnOk P w K mg base CX0 3 a.f_tokens_of a.f_tokens_of_d ["text"] spToks := by
  refine T.F_tokens_of.ok sc_tokens_of (fun vs H Q E h => ?_) (fun cdv A outer s H vs Q E hr h => ?_)
  · obtain ⟨z, rfl, _⟩ := h
    rfl
  obtain ⟨z, rfl, hz, q⟩ := h
  refine ⟨_, (pss_cons (ps_set (i := 1) sc_tokens_of.nd rfl (Or.inl rfl) (pe_lst pa_nil))
    (pss_cons (ps_set (i := 2) sc_tokens_of.nd rfl (Or.inl rfl) pe_int)
    (pss_cons (ps_while PassesOwn.never (pt_cmpR op_lt (pv 2) (pe_callB call_len_str (by rfl) T.len PySem.boot_len (pa_cons (pv 0) pa_nil)) (nomark _))
      (pss_one (ps_if (pt_cmpR op_in_sign (pe_ix ix_str (pv 0) (pv 2) (fun _ _ => rfl)) (pe_gs rfl T.g_BLANKS) (by rfl))
        (pss_one (ps_aug (i := 2) sc_tokens_of.nd rfl (Or.inl rfl) pe_int ip_add))
        (pss_cons (ps_set (i := 3) sc_tokens_of.nd rfl (Or.inl rfl) (pe_call (ok_run_end T) (hr.mono (by decide)) (by rfl) T.g_run_end T.F_run_end.kp T.b_run_end .nil pass0 (pa_cons (pv 0) (pa_cons (pv 2) pa_nil))))
        (pss_cons (ps_expr (pe_bm PySem.F.plainAttrs_list PySem.F.slot_list_append PySem.F.type_list_append mt_append (pv 1) (pa_cons (pe_tup (pa_cons (pe_call (ok_kind_of T) (hr.mono (by decide)) (by rfl) T.g_kind_of T.F_kind_of.kp T.b_kind_of .nil pass0 (pa_cons (pe_slice sl_str (pv 0) (po_some (pv 2)) (po_some (pv 3))) pa_nil)) (pa_cons (pe_slice sl_str (pv 0) (po_some (pv 2)) (po_some (pv 3))) (pa_cons (pv 2) pa_nil)))) pa_nil)))
        (pss_one (ps_set (i := 2) sc_tokens_of.nd rfl (Or.inl rfl) (pv 3))))))))
    (pss_cons (ps_expr (pe_bm PySem.F.plainAttrs_list PySem.F.slot_list_append PySem.F.type_list_append mt_append (pv 1) (pa_cons (pe_tup (pa_cons (pe_gs rfl T.g_END) (pa_cons pe_str (pa_cons (pe_callB call_len_str (by rfl) T.len PySem.boot_len (pa_cons (pv 0) pa_nil)) pa_nil)))) pa_nil)))
    (pss_one (ps_ret (pv 1))))))), ?_⟩
  refine ⟨Nat.zero_le _, fun L hL => ?_⟩
  dsimp only [gName]
  refine st_seq (st_set (fun Q q => q) (st_seq (while_ans (fun m σ H' => ∃ (p : Nat) (as : List Addr) (pre : List Tok3) (v3 : Option V), σ = [some (.str z), some (.ref L), some (.int p), v3] ∧ Same H H' ∧ p ≤ z.length ∧ m = z.length - p ∧
      H' L = some (.lst (as.map V.ref)) ∧ Rep H' as pre ∧ as.length ≤ p ∧ pre ++ toksL ((tl z).drop p) p = toksL (tl z) 0)
    z.length ⟨0, [], [], none, rfl, same_upd hL, Nat.zero_le _, rfl, upd_same, trivial, Nat.le_refl _, rfl⟩ ?_)))
  rintro m σ H' ⟨p, as, pre, v3, rfl, s1, hp, rfl, hLa, hR, hlen, hpre⟩
  have hz' : z.length ≤ 1000000 := hz
  by_cases hlt : p < z.length
  · refine ⟨true, (fun Q q => ⟨_, rfl, _, rfl, z, rfl, bigLe hz, _, _, rfl, rfl, _, rfl, (by rw [decide_eq_true (show (p : Int) < (z.length : Int) by omega)]; exact q)⟩), fun _ => ?_, fun e => (by cases e)⟩
    obtain ⟨c, hc, hd⟩ := atI_tl hlt
    refine st_ite (b := blank c) (fun Q q => ⟨_, rfl, _, rfl, z, p, c, rfl, rfl, bigLe hz, hc, c, _, rfl, rfl, _, rfl, q⟩) (fun e => ?_) (fun e => ?_)
    · refine ⟨_, rfl, _, _, rfl, rfl, z.length - (p + 1), by omega, p + 1, as, pre, v3, rfl, s1, by omega, rfl, hLa, hR, by omega, ?_⟩
      rw [← hpre, hd, toksL_blank e]
    · refine ⟨_, rfl, _, rfl, z, p, rfl, hz, hlt, ?_⟩
      have hk : max 1 (runLen ((tl z).drop p)) ≤ z.length - p := by
        have h1 := runLen_le ((tl z).drop p)
        rw [List.length_drop, ← len_tl] at h1
        omega
      have hcut : cutS z (some (p : Int)) (some ((p + max 1 (runLen ((tl z).drop p)) : Nat) : Int)) = ⟨((c :: (tl z).drop (p + 1)).take (max 1 (runLen (c :: (tl z).drop (p + 1))))).toArray⟩ := by
        rw [cutS_nat z (by omega) (by omega), ← hd, Nat.add_sub_cancel_left]
      have hbig : Big (cutS z (some (p : Int)) (some ((p + max 1 (runLen ((tl z).drop p)) : Nat) : Int))) := Nat.le_trans (cutS_len _ _ _) hz
      have hne : tl (cutS z (some (p : Int)) (some ((p + max 1 (runLen ((tl z).drop p)) : Nat) : Int))) ≠ [] := by
        rw [hcut]
        show (c :: (tl z).drop (p + 1)).take (max 1 (runLen (c :: (tl z).drop (p + 1)))) ≠ []
        intro e
        have := congrArg List.length e
        rw [List.length_take, List.length_cons] at this
        simp at this
      refine ⟨_, rfl, .inl ⟨rfl, _, SqL.of hLa⟩, _, rfl, _, rfl, _, rfl, _, rfl, _, rfl, z, rfl, bigLe hz, _, rfl, hbig, hne, fun H1 s2 => ?_⟩
      refine ⟨_, rfl, _, rfl, _, rfl, _, rfl, _, rfl, z, rfl, bigLe hz, _, rfl, (by show 3 ≤ sizeLine; decide), fun t ht => ?_⟩
      have htL : t ≠ L := fun e => by
        rw [e, s2 _ _ hLa] at ht
        cases ht
      refine ⟨L, _, _, rfl, rfl, (by rw [upd_ne htL.symm]; exact s2 _ _ hLa), (by rw [List.length_map]; exact bigLine (by omega)), ?_⟩
      refine ⟨_, rfl, z.length - (p + max 1 (runLen ((tl z).drop p))), by omega, p + max 1 (runLen ((tl z).drop p)), as ++ [t], pre ++ [(kindOf (cutS z (some (p : Int)) (some ((p + max 1 (runLen ((tl z).drop p)) : Nat) : Int))), cutS z (some (p : Int)) (some ((p + max 1 (runLen ((tl z).drop p)) : Nat) : Int)), p)], _, rfl, ?_, by omega, rfl, ?_, ?_, ?_, ?_⟩
      · exact same_mut (same_mut (s1.trans s2) (s1.free (s2.free ht))) hL
      · rw [upd_same, List.map_append]
        rfl
      · have r1 : Rep (upd H1 t (.tup (tok (kindOf (cutS z (some (p : Int)) (some ((p + max 1 (runLen ((tl z).drop p)) : Nat) : Int))), cutS z (some (p : Int)) (some ((p + max 1 (runLen ((tl z).drop p)) : Nat) : Int)), p)))) (as ++ [t]) (pre ++ [(kindOf (cutS z (some (p : Int)) (some ((p + max 1 (runLen ((tl z).drop p)) : Nat) : Int))), cutS z (some (p : Int)) (some ((p + max 1 (runLen ((tl z).drop p)) : Nat) : Int)), p)]) :=
          Rep.app upd_same ((hR.same s2).same (same_upd ht))
        exact Rep.off (L := L) (xs := as.map V.ref) (by rw [upd_ne htL.symm]; exact s2 _ _ hLa) r1
      · rw [List.length_append]
        show as.length + 1 ≤ _
        omega
      · rw [← hpre, List.append_assoc, hcut, hd, toksL_tok e]
        congr 1
        rw [← hd, List.drop_drop]
        rfl
  · have hp' : p = z.length := by omega
    refine ⟨false, (fun Q q => ⟨_, rfl, _, rfl, z, rfl, bigLe hz, _, _, rfl, rfl, _, rfl, (by rw [decide_eq_false (show ¬ (p : Int) < (z.length : Int) by omega)]; exact q)⟩), fun e => (by cases e), fun _ => ?_⟩
    refine ⟨_, rfl, .inl ⟨rfl, _, SqL.of hLa⟩, _, rfl, z, rfl, bigLe hz, (by show 3 ≤ sizeLine; decide), fun t ht => ?_⟩
    have htL : t ≠ L := fun e => by
      rw [e, hLa] at ht
      cases ht
    refine ⟨L, _, _, rfl, rfl, (by rw [upd_ne htL.symm]; exact hLa), (by rw [List.length_map]; exact bigLine (by omega)), ?_⟩
    have e0 : (tl z).drop p = [] := List.drop_eq_nil_of_le (by rw [← len_tl]; omega)
    rw [e0, toksL_nil, List.append_nil] at hpre
    refine ⟨_, rfl, q _ L (as ++ [t]) (same_mut (same_mut s1 (s1.free ht)) hL) hL ?_ ?_⟩
    · rw [upd_same, List.map_append]
      rfl
    · unfold toks
      rw [← hpre]
      exact Rep.off (L := L) (xs := as.map V.ref) (by rw [upd_ne htL.symm]; exact hLa) (Rep.app (t := ("END", "", z.length)) upd_same (hR.same (same_upd ht)))
theorem toksF_len : ∀ (n : Nat) (cs : List Nat) (p : Nat), (toksF n cs p).length ≤ cs.length
  | 0, cs, p => by simp [toksF]
  | n + 1, [], p => by simp [toksF]
  | n + 1, c :: r, p => by
    have h1 := toksF_len n r (p + 1)
    have h2 := toksF_len n ((c :: r).drop (max 1 (runLen (c :: r)))) (p + max 1 (runLen (c :: r)))
    rw [List.length_drop, List.length_cons] at h2
    show (if blank c = true then toksF n r (p + 1) else _ :: toksF n _ _).length ≤ r.length + 1
    by_cases hb : blank c = true
    · rw [if_pos hb]
      omega
    · rw [if_neg hb, List.length_cons]
      omega
theorem toks_len (z : Str) : (toks z).length ≤ z.length + 1 := by
  unfold toks toksL
  rw [List.length_append]
  have := toksF_len (tl z).length (tl z) 0
  rw [← len_tl] at this
  rw [← len_tl]
  show _ + 1 ≤ _
  omega
theorem sc_Tokens___init__ : FnScope ["self", "text"] ["self", "text"] (defScope s_Tokens___init__) := ⟨rfl, rfl, rfl, by decide +kernel, rfl, by decide +kernel, by decide +kernel⟩
theorem ok_Tokens___init__ (T : Txt K mg a) : FnOk P w K mg base CX0 4 a.f_Tokens___init__ a.f_Tokens___init___d ["self", "text"] (spInit a.c_Tokens) := by
  refine T.F_Tokens___init__.ok sc_Tokens___init__ (fun vs H Q E h => ?_) (fun cdv A outer s H vs Q E hr h => ?_)
  · obtain ⟨o, dx, z, rfl, _⟩ := h
    rfl
  obtain ⟨o, dx, z, rfl, ho, hz, q⟩ := h
  refine ⟨_, (pss_cons (ps_fld (pv 0) (pe_call (ok_tokens_of T) (hr.mono (by decide)) (by rfl) T.g_tokens_of T.F_tokens_of.kp T.b_tokens_of .nil pass0 (pa_cons (pv 1) pa_nil)) rfl)
    (pss_one (ps_fld (pv 0) pe_int rfl))), ?_⟩
  refine ⟨_, rfl, z, rfl, hz, fun H1 L as s1 nL hL hR => ?_⟩
  have ho1 := s1 _ _ ho
  have hoL : o ≠ L := ne_of_none ho nL
  refine ⟨_, rfl, o, a.c_Tokens, dx, [], rfl, ho1, T.cl_Tokens, T.n_Tokens_found, (by show 0 < 1000; decide), _, rfl, o, a.c_Tokens, dx, _, rfl, upd_same, T.cl_Tokens, T.n_Tokens_taken, (by show 1 < 1000; decide), ?_⟩
  refine q _ L ⟨dx, as, upd_same, ?_, ?_, Nat.zero_le _, ?_⟩ nL (fun b x e hb => ?_)
  · rw [upd_ne hoL.symm, upd_ne hoL.symm]
    exact hL
  · exact Rep.offI (C := a.c_Tokens) (dx := dx) upd_same (Rep.offI ho1 hR)
  · have := toks_len z
    have hz' : z.length ≤ 1000000 := hz
    omega
  · rw [upd_ne hb, upd_ne hb]
    exact s1 _ _ e
theorem sc_Tokens_kind_ahead : FnScope ["self", "further"] ["self", "further"] (defScope s_Tokens_kind_ahead) := ⟨rfl, rfl, rfl, by decide +kernel, rfl, by decide +kernel, by decide +kernel⟩
theorem ok_Tokens_kind_ahead (T : Txt K mg a) : FnOk P w K mg base CX0 1 a.f_Tokens_kind_ahead a.f_Tokens_kind_ahead_d ["self", "further"] (spAhead a.c_Tokens) := by
  refine T.F_Tokens_kind_ahead.ok sc_Tokens_kind_ahead (fun vs H Q E h => ?_) (fun cdv A outer s H vs Q E hr h => ?_)
  · obtain ⟨o, L, f, ts, i, t, rfl, _⟩ := h
    rfl
  obtain ⟨o, L, f, ts, i, t, rfl, ⟨dx, as, ho, hL, hR, hi, hl⟩, ht, q⟩ := h
  refine ⟨_, PSs.nox (pss_one (ps_ret (pe_ix ix_tup (pe_ix ix_list (pe_fld (pv 0) rfl) (pe_op op_add (pe_fld (pv 0) rfl) (pv 1)) (fun _ _ => rfl)) pe_int (fun _ _ => rfl)))), ?_⟩
  obtain ⟨b, hb, hb2⟩ := hR.get ht
  refine ⟨_, rfl, o, a.c_Tokens, dx, _, _, rfl, ho, T.cl_Tokens, T.n_Tokens_found, tf_found _ _, _, rfl, o, a.c_Tokens, dx, _, _, rfl, ho, T.cl_Tokens, T.n_Tokens_taken, tf_taken _ _, _, rfl, _, _, rfl, rfl, L, _, _, _, rfl, rfl, SqL.of hL, at_of (j := i + f) (by omega) hb, b, _, _, _, rfl, rfl, SqT.of hb2, atI_nat (j := 0) rfl, q⟩
theorem sc_Tokens_take : FnScope ["self", "kind"] ["self", "kind"] (defScope s_Tokens_take) := ⟨rfl, rfl, rfl, by decide +kernel, rfl, by decide +kernel, by decide +kernel⟩
theorem ok_Tokens_take (T : Txt K mg a) : FnOk P w K mg base CX0 2 a.f_Tokens_take a.f_Tokens_take_d ["self", "kind"] (spTake a.c_Tokens) := by
  refine T.F_Tokens_take.ok sc_Tokens_take (fun vs H Q E h => ?_) (fun cdv A outer s H vs Q E hr h => ?_)
  · obtain ⟨o, L, ts, i, t, rfl, _⟩ := h
    rfl
  obtain ⟨o, L, ts, i, t, rfl, hT, ht, q⟩ := h
  obtain ⟨dx, as, ho, hL, hR, hi, hl⟩ := id hT
  obtain ⟨ds_Tokens_kind_ahead, v_Tokens_kind_ahead, b_Tokens_kind_ahead⟩ := T.b_Tokens_kind_ahead
  refine ⟨_, (pss_cons (ps_if (pt_cmpR op_ne (pe_meth0 (pv 0) T.cl_Tokens T.m_Tokens_kind_ahead (ok_Tokens_kind_ahead T) (hr.mono (by decide)) b_Tokens_kind_ahead v_Tokens_kind_ahead pass0) (pv 1) (nomark _))
      (pss_one ps_never)
      pss_nil)
    (pss_cons (ps_fldaug (pv 0) pe_int in_add)
    (pss_one (ps_ret (pe_ix ix_tup (pe_ix ix_list (pe_fld (pv 0) rfl) (pe_op op_sub (pe_fld (pv 0) rfl) pe_int) (fun _ _ => rfl)) pe_int (fun _ _ => rfl)))))), ?_⟩
  have hi' : i < ts.length := (List.getElem?_eq_some_iff.mp ht).1
  refine ⟨_, rfl, o, dx, _, rfl, ho, tf_no _ _ (by decide +kernel) (by decide +kernel), o, L, 0, ts, i, t, rfl, hT, ht, _, rfl, rfl, _, rfl, iteNS rfl ?_⟩
  refine ⟨_, rfl, o, a.c_Tokens, dx, _, _, rfl, ho, T.cl_Tokens, T.n_Tokens_taken, tf_taken _ _, _, _, rfl, rfl, _, _, ho, (by rw [tf_eq]; show 2 < 1000; decide), ?_⟩
  have e1 : putF "taken" (V.int ((i : Int) + 1)) (tf L i) = tf L (i + 1) := tf_put L i (i + 1)
  obtain ⟨b, hb, hb2⟩ := hR.get ht
  have ho1 : (upd H o (.ins a.c_Tokens dx (putF "taken" (V.int ((i : Int) + 1)) (tf L i)))) o = some (.ins a.c_Tokens dx (tf L (i + 1))) := by rw [upd_same, e1]
  have hTm : TkAt a.c_Tokens (upd H o (.ins a.c_Tokens dx (putF "taken" (V.int ((i : Int) + 1)) (tf L i)))) o L ts (i + 1) := by
    rw [e1]
    exact TkAt.move ho hL hR (by omega) hl
  have hb3 : (upd H o (.ins a.c_Tokens dx (putF "taken" (V.int ((i : Int) + 1)) (tf L i)))) b = some (.tup (tok t)) := by
    rw [upd_ne (ne_of hb2 ho (by intro z; cases z))]
    exact hb2
  have hL3 : (upd H o (.ins a.c_Tokens dx (putF "taken" (V.int ((i : Int) + 1)) (tf L i)))) L = some (.lst (as.map V.ref)) := by
    rw [upd_ne (ne_of hL ho (by intro z; cases z))]
    exact hL
  refine ⟨_, rfl, o, a.c_Tokens, dx, _, _, rfl, ho1, T.cl_Tokens, T.n_Tokens_found, tf_found _ _, _, rfl, o, a.c_Tokens, dx, _, _, rfl, ho1, T.cl_Tokens, T.n_Tokens_taken, tf_taken _ _, _, _, rfl, rfl, L, _, _, _, rfl, rfl, SqL.of hL3, at_of (j := i) (by omega) hb, b, _, _, _, rfl, rfl, SqT.of hb3, atI_nat (j := 1) rfl, ?_⟩
  exact q _ hTm fun b hb => upd_ne hb
theorem sc_Tokens_skip : FnScope ["self", "kind"] ["self", "kind"] (defScope s_Tokens_skip) := ⟨rfl, rfl, rfl, by decide +kernel, rfl, by decide +kernel, by decide +kernel⟩
theorem ok_Tokens_skip (T : Txt K mg a) : FnOk P w K mg base CX0 2 a.f_Tokens_skip a.f_Tokens_skip_d ["self", "kind"] (spSkip a.c_Tokens) := by
  refine T.F_Tokens_skip.ok sc_Tokens_skip (fun vs H Q E h => ?_) (fun cdv A outer s H vs Q E hr h => ?_)
  · obtain ⟨o, L, k, ts, i, t, rfl, _⟩ := h
    rfl
  obtain ⟨o, L, k, ts, i, t, rfl, hT, ht, q1, q2⟩ := h
  obtain ⟨dx, as, ho, hL, hR, hi, hl⟩ := id hT
  obtain ⟨ds_Tokens_kind_ahead, v_Tokens_kind_ahead, b_Tokens_kind_ahead⟩ := T.b_Tokens_kind_ahead
  refine ⟨_, (pss_cons (ps_if (pt_cmpR op_ne (pe_meth0 (pv 0) T.cl_Tokens T.m_Tokens_kind_ahead (ok_Tokens_kind_ahead T) (hr.mono (by decide)) b_Tokens_kind_ahead v_Tokens_kind_ahead pass0) (pv 1) (nomark _))
      (pss_one (ps_ret pe_bl))
      pss_nil)
    (pss_cons (ps_fldaug (pv 0) pe_int in_add)
    (pss_one (ps_ret pe_bl)))), ?_⟩
  have hi' : i < ts.length := (List.getElem?_eq_some_iff.mp ht).1
  refine ⟨_, rfl, o, dx, _, rfl, ho, tf_no _ _ (by decide +kernel) (by decide +kernel), o, L, 0, ts, i, t, rfl, hT, ht, _, rfl, rfl, _, rfl, ite2 (fun e => ?_) (fun e => ?_)⟩
  · exact q2 fun h => by
      rw [h, decide_eq_true rfl] at e
      cases e
  · have hk : t.1 = k := by
      by_cases h : t.1 = k
      · exact h
      · exact absurd (by rw [decide_eq_false (fun e => h (V.str.inj e))]; rfl) e
    refine ⟨_, rfl, o, a.c_Tokens, dx, _, _, rfl, ho, T.cl_Tokens, T.n_Tokens_taken, tf_taken _ _, _, _, rfl, rfl, _, _, ho, (by rw [tf_eq]; show 2 < 1000; decide), ?_⟩
    have e1 : putF "taken" (V.int ((i : Int) + 1)) (tf L i) = tf L (i + 1) := tf_put L i (i + 1)
    have hTm : TkAt a.c_Tokens (upd H o (.ins a.c_Tokens dx (putF "taken" (V.int ((i : Int) + 1)) (tf L i)))) o L ts (i + 1) := by
      rw [e1]
      exact TkAt.move ho hL hR (by omega) hl
    exact q1 hk _ hTm fun b hb => upd_ne hb
end
end K1
namespace K1
open PySem PySem.Spec PyProof.Rows L2 TL
/-- the i-th token is of this kind and text -/
def At (ts : List Tok3) (i : Nat) (k p : Str) : Prop := ∃ pos, ts[i]? = some (k, p, pos)
/-- all but o stands -/
def Ext (o : Addr) (H H' : Hp) : Prop := ∀ b x, H b = some x → b ≠ o → H' b = some x
theorem Ext.refl (o : Addr) (H : Hp) : Ext o H H := fun _ _ h _ => h
theorem Ext.trans {o : Addr} {H H1 H2 : Hp} (a : Ext o H H1) (b : Ext o H1 H2) : Ext o H H2 := fun c x h n => b c x (a c x h n) n
theorem Ext.of {o : Addr} {H H1 : Hp} (s : Same H H1) : Ext o H H1 := fun c x h _ => s c x h
theorem Ext.but {o : Addr} {H H1 : Hp} (s : But o H H1) : Ext o H H1 := fun c x h n => by
  rw [s c n]
  exact h
theorem Ext.mut {o : Addr} {H H1 : Hp} {p : Addr} {u : HO} (s : Ext o H H1) (h : H p = none) : Ext o H (upd H1 p u) := fun b x e n => by
  rw [upd_ne (ne_of_none e h)]
  exact s _ _ e n
theorem Ext.free {o : Addr} {H H' : Hp} (e : Ext o H H') {l : Addr} (h : H' l = none) (n : l ≠ o) : H l = none := by
  cases q : H l with
  | none => rfl
  | some x =>
    rw [e l x q n] at h
    cases h
theorem TkAt.no {C : Addr} {H : Hp} {o L b : Addr} {ts : List Tok3} {i : Nat} (h : TkAt C H o L ts i) (hb : H b = none) : b ≠ o ∧ b ≠ L := by
  obtain ⟨dx, as, e1, e2, _⟩ := h
  exact ⟨(ne_of_none e1 hb).symm, (ne_of_none e2 hb).symm⟩
/-- numbers as they are written -/
structure Good (d : Str) (n : Int) : Prop where
  int : PySem.intText? d = some n
  len : d.length ≤ 12
  lo : 0 ≤ n
  hi : n < 1000000000000
theorem nu_nm : ¬ ("NUMBER" : Str) = "NAME" := by decide +kernel
inductive Tm3 where
  | nm (v : Str)
  | nu (d : Str) (n : Int)
  | pr (d : Str) (n : Int) (v : Str)
def Tm3.size : Tm3 → Nat
  | .nm _ => 1
  | .nu _ _ => 1
  | .pr _ _ _ => 3
def Tm3.val : Tm3 → Int
  | .nm _ => 1
  | .nu _ n => n
  | .pr _ n _ => n
def Tm3.name : Tm3 → Option Str
  | .nm v => some v
  | .nu _ _ => none
  | .pr _ _ v => some v
def nameV : Option Str → V
  | none => .non
  | some v => .str v
def TmAt (ts : List Tok3) (i : Nat) : Tm3 → Prop
  | .nm v => At ts i "NAME" v
  | .nu d n => Good d n ∧ At ts i "NUMBER" d ∧ ∃ k p, At ts (i + 1) k p ∧ k ≠ "*"
  | .pr d n v => Good d n ∧ At ts i "NUMBER" d ∧ At ts (i + 1) "*" "*" ∧ At ts (i + 2) "NAME" v
theorem TmAt.val {ts : List Tok3} {i : Nat} {t : Tm3} (h : TmAt ts i t) : 0 ≤ t.val ∧ t.val < 1000000000000 := by
  cases t with
  | nm v => exact ⟨by show (0 : Int) ≤ 1; decide, by show (1 : Int) < 1000000000000; decide⟩
  | nu d n => exact ⟨h.1.lo, h.1.hi⟩
  | pr d n v => exact ⟨h.1.lo, h.1.hi⟩
theorem TmAt.kind {ts : List Tok3} {i : Nat} {t : Tm3} (h : TmAt ts i t) : ∃ k p, At ts i k p ∧ (k = "NAME" ∨ k = "NUMBER") := by
  cases t with
  | nm v => exact ⟨_, _, h, .inl rfl⟩
  | nu d n => exact ⟨_, _, h.2.1, .inr rfl⟩
  | pr d n v => exact ⟨_, _, h.2.1, .inr rfl⟩
def spDecl (C : Addr) : Sp := fun vs H Q _ => ∃ (o L : Addr) (kw : Str) (ts : List Tok3) (i : Nat), vs = [.ref o, .str kw] ∧ TkAt C H o L ts i ∧
  ((∃ k p, At ts i k p ∧ k ≠ kw ∧ ∀ H' p, Ext o H H' → TkAt C H' o L ts i → H' p = some (.tup []) → Q (.ref p) H') ∨
   (∃ (kp : Str) (ns : List Str), At ts i kw kp ∧ 0 < ns.length ∧ ns.length ≤ 1000 ∧ (∀ j v, ns[j]? = some v → At ts (i + 1 + j) "NAME" v) ∧ (∃ k p, At ts (i + 1 + ns.length) k p ∧ k ≠ "NAME") ∧
     ∀ H' p, Ext o H H' → TkAt C H' o L ts (i + 1 + ns.length) → H' p = some (.tup (ns.map V.str)) → Q (.ref p) H'))
def spNum (C : Addr) : Sp := fun vs H Q _ => ∃ (o L : Addr) (ts : List Tok3) (i : Nat) (d : Str) (n : Int), vs = [.ref o] ∧ TkAt C H o L ts i ∧ At ts i "NUMBER" d ∧ Good d n ∧
  ∀ H', But o H H' → TkAt C H' o L ts (i + 1) → Q (.int n) H'
def spTerm (C : Addr) : Sp := fun vs H Q _ => ∃ (o L : Addr) (ts : List Tok3) (i : Nat) (t : Tm3), vs = [.ref o] ∧ TkAt C H o L ts i ∧ TmAt ts i t ∧
  ∀ H' p, Ext o H H' → TkAt C H' o L ts (i + t.size) → H' p = some (.tup [nameV t.name, .int t.val]) → Q (.ref p) H'
def spSign (C : Addr) : Sp := fun vs H Q _ => ∃ (o L : Addr) (ts : List Tok3) (i : Nat) (k p : Str), vs = [.ref o] ∧ TkAt C H o L ts i ∧ At ts i k p ∧
  (k = "+" → ∀ H', But o H H' → TkAt C H' o L ts (i + 1) → Q (.int 1) H') ∧ (k = "-" → ∀ H', But o H H' → TkAt C H' o L ts (i + 1) → Q (.int (-1)) H') ∧ (k ≠ "+" → k ≠ "-" → Q (.int 0) H)
section
variable {P : Program} {w : World} {K : PySem.W.Frag} {mg : Str → Option Value} {base : Heap} {a : Ads}
theorem sc_read_number : FnScope ["tokens", "digits"] ["tokens"] (defScope s_read_number) := ⟨rfl, rfl, rfl, by decide +kernel, rfl, by decide +kernel, by decide +kernel⟩
theorem ok_read_number (T : Txt K mg a) : FnOk P w K mg base CX0 3 a.f_read_number a.f_read_number_d ["tokens"] (spNum a.c_Tokens) := by
  refine T.F_read_number.ok sc_read_number (fun vs H Q E h => ?_) (fun cdv A outer s H vs Q E hr h => ?_)
  · obtain ⟨o, L, ts, i, d, n, rfl, _⟩ := h
    rfl
  obtain ⟨o, L, ts, i, d, n, rfl, hT, ⟨pos, ht⟩, g, q⟩ := h
  obtain ⟨dx, as, ho, _⟩ := id hT
  refine ⟨_, (pss_cons (ps_set (i := 1) sc_read_number.nd rfl (Or.inl rfl) (pe_meth (pv 0) T.cl_Tokens T.m_Tokens_take (ok_Tokens_take T) (hr.mono (by decide)) T.b_Tokens_take .nil pass0 (pa_cons (pe_gs rfl T.g_NUMBER) pa_nil)))
    (pss_cons (ps_if (pt_cmpR op_gt (pe_callB call_len_str (by rfl) T.len PySem.boot_len (pa_cons (pv 1) pa_nil)) (pe_gi rfl T.g_MOST_DIGITS) (nomark _))
      (pss_one ps_never)
      pss_nil)
    (pss_one (ps_ret (pe_callTy call_int_str (by rfl) T.int (by decide +kernel) (pa_cons (pv 1) pa_nil)))))), ?_⟩
  refine ⟨_, rfl, o, dx, _, rfl, ho, tf_no _ _ (by decide +kernel) (by decide +kernel), o, L, ts, i, _, rfl, hT, ht, fun H1 hT1 b1 => ?_⟩
  have hd := g.len
  refine ⟨_, rfl, d, rfl, bigLe (by omega), _, _, rfl, rfl, _, rfl, ite2 (fun e => ?_) (fun e => ?_)⟩
  · have := of_decide_eq_true e
    omega
  · exact ⟨_, rfl, d, n, rfl, g.int, by omega, q H1 b1 hT1⟩
theorem sc_read_term : FnScope ["tokens", "number"] ["tokens"] (defScope s_read_term) := ⟨rfl, rfl, rfl, by decide +kernel, rfl, by decide +kernel, by decide +kernel⟩
theorem ok_read_term (T : Txt K mg a) : FnOk P w K mg base CX0 4 a.f_read_term a.f_read_term_d ["tokens"] (spTerm a.c_Tokens) := by
  refine T.F_read_term.ok sc_read_term (fun vs H Q E h => ?_) (fun cdv A outer s H vs Q E hr h => ?_)
  · obtain ⟨o, L, ts, i, t, rfl, _⟩ := h
    rfl
  obtain ⟨o, L, ts, i, t, rfl, hT, ht, q⟩ := h
  obtain ⟨ds_Tokens_kind_ahead, v_Tokens_kind_ahead, b_Tokens_kind_ahead⟩ := T.b_Tokens_kind_ahead
  obtain ⟨dx, as, ho, _⟩ := id hT
  refine ⟨_, (pss_cons (ps_if (pt_cmpR op_eq (pe_meth0 (pv 0) T.cl_Tokens T.m_Tokens_kind_ahead (ok_Tokens_kind_ahead T) (hr.mono (by decide)) b_Tokens_kind_ahead v_Tokens_kind_ahead pass0) (pe_gs rfl T.g_NAME) (nomark _))
      (pss_one (ps_ret (pe_tup (pa_cons (pe_meth (pv 0) T.cl_Tokens T.m_Tokens_take (ok_Tokens_take T) (hr.mono (by decide)) T.b_Tokens_take .nil pass0 (pa_cons (pe_gs rfl T.g_NAME) pa_nil)) (pa_cons pe_int pa_nil)))))
      pss_nil)
    (pss_cons (ps_set (i := 1) sc_read_term.nd rfl (Or.inl rfl) (pe_call (ok_read_number T) (hr.mono (by decide)) (by rfl) T.g_read_number T.F_read_number.kp T.b_read_number .nil pass0 (pa_cons (pv 0) pa_nil)))
    (pss_cons (ps_if (pt_val (pe_meth (pv 0) T.cl_Tokens T.m_Tokens_skip (ok_Tokens_skip T) (hr.mono (by decide)) T.b_Tokens_skip .nil pass0 (pa_cons pe_str pa_nil)))
      (pss_one (ps_ret (pe_tup (pa_cons (pe_meth (pv 0) T.cl_Tokens T.m_Tokens_take (ok_Tokens_take T) (hr.mono (by decide)) T.b_Tokens_take .nil pass0 (pa_cons (pe_gs rfl T.g_NAME) pa_nil)) (pa_cons (pv 1) pa_nil)))))
      pss_nil)
    (pss_one (ps_ret (pe_tup (pa_cons pe_non (pa_cons (pv 1) pa_nil)))))))), ?_⟩
  have nA : (tf L i).lookup ("kind_ahead" : Str) = none := tf_no _ _ (by decide +kernel) (by decide +kernel)
  have nT : ∀ j, (tf L j).lookup ("take" : Str) = none := fun j => tf_no _ _ (by decide +kernel) (by decide +kernel)
  have nS : ∀ j, (tf L j).lookup ("skip" : Str) = none := fun j => tf_no _ _ (by decide +kernel) (by decide +kernel)
  cases t with
  | nm v =>
    obtain ⟨pos, hp⟩ := ht
    refine ⟨_, rfl, o, dx, _, rfl, ho, nA, o, L, 0, ts, i, _, rfl, hT, hp, rfl, _, rfl, ite2 (fun e => ?_) (fun e => absurd (decide_eq_true rfl) e)⟩
    refine ⟨_, rfl, o, dx, _, rfl, ho, nT _, o, L, ts, i, _, rfl, hT, hp, fun H1 hT1 b1 => ⟨(by show 2 ≤ sizeLine; decide), fun p np => ?_⟩⟩
    exact q _ p ((Ext.but b1).trans (Ext.of (same_upd np))) (hT1.same (same_upd np)) upd_same
  | nu d n =>
    obtain ⟨g, ⟨pos, hp⟩, k, p, ⟨pos2, hk⟩, hn⟩ := ht
    refine ⟨_, rfl, o, dx, _, rfl, ho, nA, o, L, 0, ts, i, _, rfl, hT, hp, rfl, _, rfl, ite2 (fun e => absurd (V.str.inj (of_decide_eq_true e)) nu_nm) (fun e => ?_)⟩
    refine ⟨_, rfl, o, L, ts, i, d, n, rfl, hT, ⟨pos, hp⟩, g, fun H1 b1 hT1 => ?_⟩
    obtain ⟨dx1, as1, ho1, _⟩ := id hT1
    refine ⟨_, rfl, o, dx1, _, rfl, ho1, nS _, o, L, _, ts, i + 1, _, rfl, hT1, hk, fun e => absurd e hn, fun _ => ⟨_, rfl, iteF ?_⟩⟩
    refine ⟨_, rfl, (by show 2 ≤ sizeLine; decide), fun p np => ?_⟩
    exact q _ p ((Ext.but b1).trans (Ext.of (same_upd np))) (hT1.same (same_upd np)) upd_same
  | pr d n v =>
    obtain ⟨g, ⟨pos, hp⟩, ⟨pos2, hk⟩, ⟨pos3, hv⟩⟩ := ht
    refine ⟨_, rfl, o, dx, _, rfl, ho, nA, o, L, 0, ts, i, _, rfl, hT, hp, rfl, _, rfl, ite2 (fun e => absurd (V.str.inj (of_decide_eq_true e)) nu_nm) (fun e => ?_)⟩
    refine ⟨_, rfl, o, L, ts, i, d, n, rfl, hT, ⟨pos, hp⟩, g, fun H1 b1 hT1 => ?_⟩
    obtain ⟨dx1, as1, ho1, _⟩ := id hT1
    refine ⟨_, rfl, o, dx1, _, rfl, ho1, nS _, o, L, _, ts, i + 1, _, rfl, hT1, hk, fun e H2 hT2 b2 => ⟨_, rfl, iteT ?_⟩, fun e => absurd rfl e⟩
    obtain ⟨dx2, as2, ho2, _⟩ := id hT2
    refine ⟨_, rfl, o, dx2, _, rfl, ho2, nT _, o, L, ts, i + 2, _, rfl, hT2, hv, fun H3 hT3 b3 => ⟨_, rfl, (by show 2 ≤ sizeLine; decide), fun p np => ?_⟩⟩
    exact q _ p ((((Ext.but b1).trans (Ext.but b2)).trans (Ext.but b3)).trans (Ext.of (same_upd np))) (hT3.same (same_upd np)) upd_same
theorem sc_read_sign : FnScope ["tokens"] ["tokens"] (defScope s_read_sign) := ⟨rfl, rfl, rfl, by decide +kernel, rfl, by decide +kernel, by decide +kernel⟩
theorem ok_read_sign (T : Txt K mg a) : FnOk P w K mg base CX0 3 a.f_read_sign a.f_read_sign_d ["tokens"] (spSign a.c_Tokens) := by
  refine T.F_read_sign.ok sc_read_sign (fun vs H Q E h => ?_) (fun cdv A outer s H vs Q E hr h => ?_)
  · obtain ⟨o, L, ts, i, k, p, rfl, _⟩ := h
    rfl
  obtain ⟨o, L, ts, i, k, p, rfl, hT, ⟨pos, ht⟩, q1, q2, q3⟩ := h
  obtain ⟨dx, as, ho, _⟩ := id hT
  refine ⟨_, (pss_cons (ps_if (pt_val (pe_meth (pv 0) T.cl_Tokens T.m_Tokens_skip (ok_Tokens_skip T) (hr.mono (by decide)) T.b_Tokens_skip .nil pass0 (pa_cons pe_str pa_nil)))
      (pss_one (ps_ret pe_int))
      pss_nil)
    (pss_one (ps_ret (pe_ifExp (pt_val (pe_meth (pv 0) T.cl_Tokens T.m_Tokens_skip (ok_Tokens_skip T) (hr.mono (by decide)) T.b_Tokens_skip .nil pass0 (pa_cons pe_str pa_nil))) (pe_un un_neg pe_int) pe_int)))), ?_⟩
  have nS : ∀ j, (tf L j).lookup ("skip" : Str) = none := fun j => tf_no _ _ (by decide +kernel) (by decide +kernel)
  refine ⟨_, rfl, o, dx, _, rfl, ho, nS _, o, L, _, ts, i, _, rfl, hT, ht, fun e H1 hT1 b1 => ⟨_, rfl, iteT (q1 e H1 b1 hT1)⟩, fun e1 => ⟨_, rfl, iteF ?_⟩⟩
  refine ⟨_, rfl, o, dx, _, rfl, ho, nS _, o, L, _, ts, i, _, rfl, hT, ht, fun e H1 hT1 b1 => ⟨_, rfl, iteT ?_⟩, fun e2 => ⟨_, rfl, iteF (q3 e1 e2)⟩⟩
  exact ⟨_, rfl, q2 e H1 b1 hT1⟩
theorem sc_read_declared : FnScope ["tokens", "keyword", "names"] ["tokens", "keyword"] (defScope s_read_declared) := ⟨rfl, rfl, rfl, by decide +kernel, rfl, by decide +kernel, by decide +kernel⟩
theorem ok_read_declared (T : Txt K mg a) : FnOk P w K mg base CX0 3 a.f_read_declared a.f_read_declared_d ["tokens", "keyword"] (spDecl a.c_Tokens) := by
  refine T.F_read_declared.ok sc_read_declared (fun vs H Q E h => ?_) (fun cdv A outer s H vs Q E hr h => ?_)
  · obtain ⟨o, L, kw, ts, i, rfl, _⟩ := h
    rfl
  obtain ⟨o, L, kw, ts, i, rfl, hT, h⟩ := h
  obtain ⟨ds_Tokens_kind_ahead, v_Tokens_kind_ahead, b_Tokens_kind_ahead⟩ := T.b_Tokens_kind_ahead
  obtain ⟨dx, as, ho, _⟩ := id hT
  have nA : ∀ j, (tf L j).lookup ("kind_ahead" : Str) = none := fun j => tf_no _ _ (by decide +kernel) (by decide +kernel)
  have nT : ∀ j, (tf L j).lookup ("take" : Str) = none := fun j => tf_no _ _ (by decide +kernel) (by decide +kernel)
  have nS : ∀ j, (tf L j).lookup ("skip" : Str) = none := fun j => tf_no _ _ (by decide +kernel) (by decide +kernel)
  refine ⟨_, (pss_cons (ps_if (pt_not (pt_val (pe_meth (pv 0) T.cl_Tokens T.m_Tokens_skip (ok_Tokens_skip T) (hr.mono (by decide)) T.b_Tokens_skip .nil pass0 (pa_cons (pv 1) pa_nil))))
      (pss_one (ps_ret (pe_tup pa_nil)))
      pss_nil)
    (pss_cons (ps_set (i := 2) sc_read_declared.nd rfl (Or.inl rfl) (pe_lst (pa_cons (pe_meth (pv 0) T.cl_Tokens T.m_Tokens_take (ok_Tokens_take T) (hr.mono (by decide)) T.b_Tokens_take .nil pass0 (pa_cons (pe_gs rfl T.g_NAME) pa_nil)) pa_nil)))
    (pss_cons (ps_while PassesOwn.never (pt_cmpR op_eq (pe_meth0 (pv 0) T.cl_Tokens T.m_Tokens_kind_ahead (ok_Tokens_kind_ahead T) (hr.mono (by decide)) b_Tokens_kind_ahead v_Tokens_kind_ahead pass0) (pe_gs rfl T.g_NAME) (nomark _))
      (pss_one (ps_expr (pe_bm PySem.F.plainAttrs_list PySem.F.slot_list_append PySem.F.type_list_append mt_append (pv 2) (pa_cons (pe_meth (pv 0) T.cl_Tokens T.m_Tokens_take (ok_Tokens_take T) (hr.mono (by decide)) T.b_Tokens_take .nil pass0 (pa_cons (pe_gs rfl T.g_NAME) pa_nil)) pa_nil)))))
    (pss_one (ps_ret (pe_callTy call_tuple_of (by rfl) T.tuple (by decide +kernel) (pa_cons (pv 2) pa_nil))))))), ?_⟩
  rcases h with ⟨k, p, ⟨pos, ht⟩, hn, q⟩ | ⟨kp, ns, ⟨pos, ht⟩, h0, h1000, hns, ⟨k, p, ⟨pos2, he⟩, hn⟩, q⟩
  · refine ⟨_, rfl, o, dx, _, rfl, ho, nS _, _, rfl, o, L, kw, ts, i, _, rfl, hT, ht, fun e => absurd e hn, fun _ => ⟨_, rfl, iteT ?_⟩⟩
    refine ⟨(by show 0 ≤ sizeLine; decide), fun p np => ?_⟩
    exact q _ p (Ext.of (same_upd np)) (hT.same (same_upd np)) upd_same
  · refine ⟨_, rfl, o, dx, _, rfl, ho, nS _, _, rfl, o, L, kw, ts, i, _, rfl, hT, ht, fun _ H1 hT1 b1 => ⟨_, rfl, iteF ?_⟩, fun e => absurd rfl e⟩
    obtain ⟨v0, hv0⟩ : ∃ v0, ns[0]? = some v0 := ⟨ns[0], List.getElem?_eq_getElem h0⟩
    obtain ⟨dx1, as1, ho1, _⟩ := id hT1
    obtain ⟨pos0, ht0⟩ := hns 0 v0 hv0
    refine ⟨_, rfl, o, dx1, _, rfl, ho1, nT _, o, L, ts, i + 1, _, rfl, hT1, ht0, fun H2 hT2 b2 => ⟨(by show 1 ≤ sizeLine; decide), fun N nN => ?_⟩⟩
    have hNoL := hT2.no nN
    have x2 : Ext o H H2 := (Ext.but b1).trans (Ext.but b2)
    have nN0 : H N = none := x2.free nN hNoL.1
    dsimp only [gName]
    refine st_seq (while_ans (fun m σ H' => ∃ j : Nat, σ = [some (.ref o), some (.str kw), some (.ref N)] ∧ Ext o H H' ∧ TkAt a.c_Tokens H' o L ts (i + 1 + j) ∧ 1 ≤ j ∧ j ≤ ns.length ∧ m = ns.length - j ∧ H' N = some (.lst ((ns.take j).map V.str)))
      (ns.length - 1) ⟨1, rfl, x2.trans (Ext.of (same_upd nN)), hT2.same (same_upd nN), Nat.le_refl _, h0, rfl, ?_⟩ ?_)
    · rw [upd_same]
      cases ns with
      | nil => simp at h0
      | cons x r =>
        have e : x = v0 := Option.some.inj hv0
        rw [e]
        rfl
    rintro m σ H' ⟨j, rfl, x3, hT3, h1, hj, rfl, hN⟩
    obtain ⟨dx3, as3, ho3, _⟩ := id hT3
    by_cases hlt : j < ns.length
    · obtain ⟨v, hv⟩ : ∃ v, ns[j]? = some v := ⟨ns[j], List.getElem?_eq_getElem hlt⟩
      obtain ⟨posj, htj⟩ := hns j v hv
      refine ⟨true, (fun Q q => ⟨_, rfl, o, dx3, _, rfl, ho3, nA _, o, L, 0, ts, i + 1 + j, _, rfl, hT3, htj, rfl, _, rfl, (by rw [decide_eq_true rfl]; exact q)⟩), fun _ => ?_, fun e => (by cases e)⟩
      refine ⟨_, rfl, .inl ⟨rfl, _, SqL.of hN⟩, _, rfl, o, dx3, _, rfl, ho3, nT _, o, L, ts, i + 1 + j, _, rfl, hT3, htj, fun H4 hT4 b4 => ?_⟩
      have hN4 : H4 N = some (.lst ((ns.take j).map V.str)) := by
        rw [b4 N hNoL.1]
        exact hN
      refine ⟨N, _, _, rfl, rfl, hN4, ?_, ns.length - (j + 1), by omega, j + 1, rfl, (x3.trans (Ext.but b4)).mut nN0, hT4.off hN4 (fun _ z => by cases z) (fun _ _ _ z => by cases z) hNoL.2, by omega, by omega, rfl, ?_⟩
      · rw [List.length_map, List.length_take]
        exact bigLine (by omega)
      · rw [upd_same, List.take_add_one, hv, List.map_append]
        rfl
    · have ej : j = ns.length := by omega
      subst ej
      refine ⟨false, (fun Q q => ⟨_, rfl, o, dx3, _, rfl, ho3, nA _, o, L, 0, ts, i + 1 + ns.length, _, rfl, hT3, he, rfl, _, rfl, (by rw [decide_eq_false (fun z => hn (V.str.inj z))]; exact q)⟩), fun e => (by cases e), fun _ => ?_⟩
      rw [List.take_length] at hN
      refine ⟨_, rfl, N, _, rfl, .inl ⟨SqL.of hN, fun p np => ?_⟩⟩
      exact q _ p (x3.trans (Ext.of (same_upd np))) (hT3.same (same_upd np)) upd_same
end
end K1
namespace K1
open PySem PySem.Spec PyProof.Rows L2 TL
/-! ### sums -/
abbrev Item := Bool × Tm3
def sgn (b : Bool) : Int := if b = true then -1 else 1
def contrib (x : Item) : Int := sgn x.1 * x.2.val
def nsum (o : Option Str) (l : List Item) : Int := (l.map fun x => if x.2.name = o then contrib x else 0).sum
theorem nsum_app (o : Option Str) (l : List Item) (x : Item) : nsum o (l ++ [x]) = nsum o l + if x.2.name = o then contrib x else 0 := by
  unfold nsum
  rw [List.map_append, List.sum_append]
  simp
theorem nsum_none {o : Option Str} : ∀ {l : List Item}, (∀ x ∈ l, ¬ x.2.name = o) → nsum o l = 0
  | [], _ => rfl
  | x :: r, h => by
    unfold nsum
    rw [List.map_cons, List.sum_cons, if_neg (h x List.mem_cons_self)]
    have := nsum_none (o := o) (l := r) fun y hy => h y (List.mem_cons_of_mem _ hy)
    unfold nsum at this
    rw [this]
    rfl
def RestAt (ts : List Tok3) : Nat → List Item → Prop
  | j, [] => ∃ k p, At ts j k p ∧ k ≠ "+" ∧ k ≠ "-"
  | j, (b, t) :: r => (∃ p, At ts j (if b = true then "-" else "+") p) ∧ TmAt ts (j + 1) t ∧ RestAt ts (j + 1 + t.size) r
def endR : Nat → List Item → Nat
  | j, [] => j
  | j, (_, t) :: r => endR (j + 1 + t.size) r
def ExprAt (ts : List Tok3) (i : Nat) (b : Bool) (t : Tm3) (r : List Item) : Prop := if b = true then (∃ p, At ts i "-" p) ∧ TmAt ts (i + 1) t ∧ RestAt ts (i + 1 + t.size) r else TmAt ts i t ∧ RestAt ts (i + t.size) r
def endE (i : Nat) (b : Bool) (t : Tm3) (r : List Item) : Nat := if b = true then endR (i + 1 + t.size) r else endR (i + t.size) r
/-- names and their sums, as new pairs -/
def RepP (H : Hp) : List Addr → List (Str × Int) → Prop
  | [], [] => True
  | a :: as, t :: ts => H a = some (.tup [.str t.1, .int t.2]) ∧ RepP H as ts
  | _, _ => False
theorem RepP.same {H H' : Hp} (s : Same H H') : ∀ {as : List Addr} {ts : List (Str × Int)}, RepP H as ts → RepP H' as ts
  | [], [], _ => trivial
  | _ :: _, _ :: _, h => ⟨s _ _ h.1, RepP.same s h.2⟩
  | [], _ :: _, h => h.elim
  | _ :: _, [], h => h.elim
theorem RepP.app {H : Hp} {a : Addr} {t : Str × Int} (ha : H a = some (.tup [.str t.1, .int t.2])) : ∀ {as : List Addr} {ts : List (Str × Int)}, RepP H as ts → RepP H (as ++ [a]) (ts ++ [t])
  | [], [], _ => ⟨ha, trivial⟩
  | _ :: _, _ :: _, h => ⟨h.1, RepP.app ha h.2⟩
  | [], _ :: _, h => h.elim
  | _ :: _, [], h => h.elim
theorem RepP.offX {H : Hp} {L : Addr} {u o : HO} (hL : H L = some u) (hu : ∀ xs, u ≠ .tup xs) : ∀ {as : List Addr} {ts : List (Str × Int)}, RepP H as ts → RepP (upd H L o) as ts
  | [], [], _ => trivial
  | _ :: _, _ :: _, h => ⟨by rw [upd_ne (ne_of h.1 hL (fun z => hu _ z.symm))]; exact h.1, RepP.offX hL hu h.2⟩
  | [], _ :: _, h => h.elim
  | _ :: _, [], h => h.elim
theorem RepP.len {H : Hp} : ∀ {as : List Addr} {ts : List (Str × Int)}, RepP H as ts → as.length = ts.length
  | [], [], _ => rfl
  | _ :: _, _ :: _, h => by rw [List.length_cons, List.length_cons, RepP.len h.2]
  | [], _ :: _, h => h.elim
  | _ :: _, [], h => h.elim
def termsOf (ys : List Str) (l : List Item) : List (Str × Int) := (ys.filter fun y => !decide (V.int (nsum (some y) l) = V.int 0)).map fun y => (y, nsum (some y) l)
theorem termsOf_yes {y : Str} {l : List Item} (e : (!decide (V.int (nsum (some y) l) = V.int 0)) = true) : termsOf [y] l = [(y, nsum (some y) l)] := by
  unfold termsOf
  rw [List.filter_cons_of_pos (p := fun y => !decide (V.int (nsum (some y) l) = V.int 0)) (a := y) (l := []) e]
  rfl
theorem termsOf_no {y : Str} {l : List Item} (e : ¬ (!decide (V.int (nsum (some y) l) = V.int 0)) = true) : termsOf [y] l = [] := by
  unfold termsOf
  rw [List.filter_cons_of_neg (p := fun y => !decide (V.int (nsum (some y) l) = V.int 0)) (a := y) (l := []) e]
  rfl
/-- the dict of the sums so far -/
structure DictOk (H : Hp) (D : Addr) (l : List Item) (kvs : List (Key × V)) (ks : List Str) : Prop where
  at_ : H D = some (.dK kvs)
  keys : kvs.map (·.1) = ks.map Sum.inr
  nd : ks.Nodup
  val : ∀ v, valV kvs (Sum.inr v) = if v ∈ ks then some (.int (nsum (some v) l)) else none
  mem : ∀ v, v ∈ ks ↔ ∃ x ∈ l, x.2.name = some v
  len : ks.length ≤ l.length
theorem putK_keys (kvs : List (Key × V)) (k : Key) (v : V) : (putK kvs k v).map (·.1) = if (valV kvs k).isSome = true then kvs.map (·.1) else kvs.map (·.1) ++ [k] := by
  unfold putK
  rw [valV_any]
  by_cases h : (valV kvs k).isSome = true
  · rw [if_pos h, if_pos h, List.map_map]
    congr 1
    funext kv
    by_cases e : kv.1 = k
    · simp [e]
    · simp [e]
  · rw [if_neg h, if_neg h, List.map_append]
    rfl
theorem DictOk.get {H : Hp} {D : Addr} {l : List Item} {kvs : List (Key × V)} {ks : List Str} (d : DictOk H D l kvs ks) (v : Str) : (valV kvs (Sum.inr v)).getD (.int 0) = .int (nsum (some v) l) := by
  rw [d.val v]
  by_cases h : v ∈ ks
  · rw [if_pos h]
    rfl
  · rw [if_neg h, nsum_none fun x hx e => h ((d.mem v).mpr ⟨x, hx, e⟩)]
    rfl
theorem DictOk.put {H : Hp} {D : Addr} {l : List Item} {kvs : List (Key × V)} {ks : List Str} (d : DictOk H D l kvs ks) {x : Item} {v : Str} (hx : x.2.name = some v) :
    DictOk (upd H D (.dK (putK kvs (Sum.inr v) (.int (nsum (some v) l + contrib x))))) D (l ++ [x]) (putK kvs (Sum.inr v) (.int (nsum (some v) l + contrib x))) (if v ∈ ks then ks else ks ++ [v]) := by
  have hs : (valV kvs (Sum.inr v)).isSome = decide (v ∈ ks) := by
    rw [d.val v]
    by_cases h : v ∈ ks
    · rw [if_pos h, decide_eq_true h]; rfl
    · rw [if_neg h, decide_eq_false h]; rfl
  refine ⟨upd_same, ?_, ?_, fun u => ?_, fun u => ?_, ?_⟩
  · rw [putK_keys, hs, d.keys]
    by_cases h : v ∈ ks
    · rw [if_pos h, if_pos (decide_eq_true h)]
    · rw [if_neg h, if_neg (by rw [decide_eq_false h]; exact Bool.false_ne_true), List.map_append]
      rfl
  · by_cases h : v ∈ ks
    · rw [if_pos h]
      exact d.nd
    · rw [if_neg h]
      exact List.nodup_append.mpr ⟨d.nd, by simp, fun y hy z hz => by
        rw [List.mem_singleton.mp hz]
        exact fun e => h (e ▸ hy)⟩
  · rw [valV_put, nsum_app, hx]
    by_cases e : u = v
    · subst e
      rw [if_pos rfl, if_pos rfl, if_pos]
      by_cases h : u ∈ ks
      · rw [if_pos h]
        exact h
      · rw [if_neg h]
        exact List.mem_append_right _ (List.mem_singleton.mpr rfl)
    · rw [if_neg (fun q => e (Sum.inr.inj q)), if_neg (fun q => e (Option.some.inj q).symm), Int.add_zero, d.val u]
      by_cases h : v ∈ ks
      · rw [if_pos h]
      · rw [if_neg h]
        by_cases hu : u ∈ ks
        · rw [if_pos hu, if_pos (List.mem_append_left _ hu)]
        · rw [if_neg hu, if_neg (fun q => (List.mem_append.mp q).elim hu fun z => e (List.mem_singleton.mp z))]
  · have e1 : (∃ y ∈ l ++ [x], y.2.name = some u) ↔ (∃ y ∈ l, y.2.name = some u) ∨ u = v := by
      constructor
      · rintro ⟨y, hy, e⟩
        rcases List.mem_append.mp hy with hy | hy
        · exact .inl ⟨y, hy, e⟩
        · rw [List.mem_singleton.mp hy, hx] at e
          exact .inr (Option.some.inj e).symm
      · rintro (⟨y, hy, e⟩ | rfl)
        · exact ⟨y, List.mem_append_left _ hy, e⟩
        · exact ⟨x, List.mem_append_right _ (List.mem_singleton.mpr rfl), hx⟩
    rw [e1, ← d.mem u]
    by_cases h : v ∈ ks
    · rw [if_pos h]
      exact ⟨.inl, fun q => q.elim id fun z => z ▸ h⟩
    · rw [if_neg h, List.mem_append, List.mem_singleton]
  · rw [List.length_append]
    have := d.len
    by_cases h : v ∈ ks
    · rw [if_pos h]
      omega
    · rw [if_neg h, List.length_append]
      show ks.length + 1 ≤ l.length + 1
      omega
theorem DictOk.more {H : Hp} {D : Addr} {l : List Item} {kvs : List (Key × V)} {ks : List Str} (d : DictOk H D l kvs ks) {x : Item} (hx : x.2.name = none) : DictOk H D (l ++ [x]) kvs ks := by
  refine ⟨d.at_, d.keys, d.nd, fun u => ?_, fun u => ?_, ?_⟩
  · rw [d.val u, nsum_app, hx, if_neg (show ¬ (none : Option Str) = some u from fun z => by cases z), Int.add_zero]
  · rw [d.mem u]
    constructor
    · rintro ⟨y, hy, e⟩
      exact ⟨y, List.mem_append_left _ hy, e⟩
    · rintro ⟨y, hy, e⟩
      rcases List.mem_append.mp hy with hy | hy
      · exact ⟨y, hy, e⟩
      · rw [List.mem_singleton.mp hy, hx] at e
        cases e
  · rw [List.length_append]
    exact Nat.le_trans d.len (Nat.le_add_right _ _)
def spExpr (C : Addr) : Sp := fun vs H Q _ => ∃ (o L : Addr) (ts : List Tok3) (i : Nat) (b : Bool) (t : Tm3) (r : List Item), vs = [.ref o] ∧ TkAt C H o L ts i ∧ ExprAt ts i b t r ∧ r.length < 60 ∧
  ∀ (H' : Hp) (p p2 : Addr) (as : List Addr) (ks ys : List Str), Ext o H H' → TkAt C H' o L ts (endE i b t r) → H' p = some (.tup [.int (nsum none ((b, t) :: r)), .ref p2]) → H' p2 = some (.tup (as.map V.ref)) → RepP H' as (termsOf ys ((b, t) :: r)) →
    ys.Perm ks → sortedS ys = true → ks.Nodup → (∀ v, v ∈ ks ↔ ∃ x ∈ (b, t) :: r, x.2.name = some v) → Q (.ref p) H'
section
variable {P : Program} {w : World} {K : PySem.W.Frag} {mg : Str → Option Value} {base : Heap} {a : Ads}
theorem sc_read_expression : FnScope ["tokens", "constant", "factors", "sign", "terms", "name", "number"] ["tokens"] (defScope s_read_expression) := ⟨rfl, rfl, rfl, by decide +kernel, rfl, by decide +kernel, by decide +kernel⟩
theorem ok_read_expression (T : Txt K mg a) : FnOk P w K mg base CX0 5 a.f_read_expression a.f_read_expression_d ["tokens"] (spExpr a.c_Tokens) := by
  refine T.F_read_expression.ok sc_read_expression (fun vs H Q E h => ?_) (fun cdv A outer s H vs Q E hr h => ?_)
  · obtain ⟨o, L, ts, i, b, t, r, rfl, _⟩ := h
    rfl
  obtain ⟨o, L, ts, i, b, t, r, rfl, hT, hE, hlen, q⟩ := h
  have nS : ∀ j, (tf L j).lookup ("skip" : Str) = none := fun j => tf_no _ _ (by decide +kernel) (by decide +kernel)
  refine ⟨_, (pss_cons (ps_set (i := 1) sc_read_expression.nd rfl (Or.inl rfl) pe_int)
    (pss_cons (ps_set (i := 2) sc_read_expression.nd rfl (Or.inr rfl) pe_dnewK)
    (pss_cons (ps_set (i := 3) sc_read_expression.nd rfl (Or.inl rfl) (pe_ifExp (pt_val (pe_meth (pv 0) T.cl_Tokens T.m_Tokens_skip (ok_Tokens_skip T) (hr.mono (by decide)) T.b_Tokens_skip .nil pass0 (pa_cons pe_str pa_nil))) (pe_un un_neg pe_int) pe_int))
    (pss_cons (ps_while PassesOwn.never (pt_cmpR op_ne (pv 3) pe_int (nomark _))
      (pss_cons (ps_asg (pe_call (ok_read_term T) (hr.mono (by decide)) (by rfl) T.g_read_term T.F_read_term.kp T.b_read_term .nil pass0 (pa_cons (pv 0) pa_nil)) (pg_tup (by rfl) (pgs_cons (pg_name (i := 5) sc_read_expression.nd rfl (Or.inl rfl)) (pgs_cons (pg_name (i := 6) sc_read_expression.nd rfl (Or.inl rfl)) pgs_nil))))
      (pss_cons (ps_if (pt_cmpR op_isN (pv 5) pe_non (nomark _))
        (pss_one (ps_aug (i := 1) sc_read_expression.nd rfl (Or.inl rfl) (pe_op op_mul (pv 3) (pv 6)) ip_add))
        (pss_one (ps_dput (hu_of hr) (pv 2) (pv 5) (pe_op op_add (pe_dget2 (hu_of hr) (pv 2) (pv 5) pe_int ⟨rfl, rfl, rfl, rfl⟩) (pe_op op_mul (pv 3) (pv 6))) rfl)))
      (pss_one (ps_set (i := 3) sc_read_expression.nd rfl (Or.inl rfl) (pe_call (ok_read_sign T) (hr.mono (by decide)) (by rfl) T.g_read_sign T.F_read_sign.kp T.b_read_sign .nil pass0 (pa_cons (pv 0) pa_nil)))))))
    (pss_cons (ps_setLc (i := 4) (own := [("name", 5)]) (g := gName 5) (tt := _) (by rfl) sc_read_expression.nd rfl rfl (sw_true rfl rfl rfl (by decide +kernel)) (pi_list (pe_callB (call_sortedD rfl) (by rfl) T.sorted (by decide +kernel) (pa_cons (pv 2) pa_nil))) (blkOk_by (own := [("name", 5)]) (N := ["tokens", "constant", "factors", "sign", "terms", "name", "number"]) (sc := defScope s_read_expression) (by decide +kernel)) (fun _ _ _ _ _ => pg_name (i := 5) sc_read_expression.nd rfl (Or.inl rfl)) (fun _ _ _ _ _ => (pts_one (pt_cmpR op_ne (pe_dget (hu_of hr) (pv 2) (pv 5) (fun _ _ => rfl)) pe_int (nomark _)))) (fun _ _ _ _ _ => (pe_tup (pa_cons (pv 5) (pa_cons (pe_dget (hu_of hr) (pv 2) (pv 5) (fun _ _ => rfl)) pa_nil)))))
    (pss_one (ps_ret (pe_tup (pa_cons (pv 1) (pa_cons (pe_callTy call_tuple_of (by rfl) T.tuple (by decide +kernel) (pa_cons (pv 4) pa_nil)) pa_nil)))))))))), ?_⟩
  refine st_seq (st_set (fun Q q => q) ?_)
  intro D hD
  dsimp only [gName]
  have hDo := hT.no hD
  have hT0 := hT.same (same_upd (o := .dK []) hD)
  obtain ⟨dx, as, ho, _⟩ := id hT0
  refine st_seq (st_setH (PV := fun v H0 => v = .int (sgn b) ∧ Ext o H H0 ∧ DictOk H0 D [] [] [] ∧ ∃ j, TkAt a.c_Tokens H0 o L ts j ∧ TmAt ts j t ∧ RestAt ts (j + t.size) r ∧ endR (j + t.size) r = endE i b t r) (fun Q' q' => ?_) ?_)
  · have dOk : ∀ H0, H0 D = some (.dK []) → DictOk H0 D [] [] [] := fun H0 h => ⟨h, rfl, List.nodup_nil, fun v => by simp [valV_nil], fun v => by simp, Nat.le_refl _⟩
    cases b with
    | true =>
      obtain ⟨⟨p, pos, hp⟩, h1, h2⟩ := (show (∃ p, At ts i "-" p) ∧ TmAt ts (i + 1) t ∧ RestAt ts (i + 1 + t.size) r from hE)
      refine ⟨_, rfl, o, dx, _, rfl, ho, nS _, o, L, _, ts, i, _, rfl, hT0, hp, fun _ H1 hT1 b1 => ⟨_, rfl, iteT ⟨_, rfl, ?_⟩⟩, fun e => absurd rfl e⟩
      exact q' _ _ ⟨rfl, (Ext.of (same_upd hD)).trans (Ext.but b1), dOk _ (by rw [b1 D hDo.1]; exact upd_same), i + 1, hT1, h1, h2, rfl⟩
    | false =>
      obtain ⟨h1, h2⟩ := (show TmAt ts i t ∧ RestAt ts (i + t.size) r from hE)
      obtain ⟨k, p, ⟨pos, hp⟩, hk⟩ := h1.kind
      have hn : ¬ k = "-" := by
        rcases hk with rfl | rfl
        · decide +kernel
        · decide +kernel
      refine ⟨_, rfl, o, dx, _, rfl, ho, nS _, o, L, _, ts, i, _, rfl, hT0, hp, fun e => absurd e hn, fun _ => ⟨_, rfl, iteF ?_⟩⟩
      exact q' _ _ ⟨rfl, Ext.of (same_upd hD), dOk _ upd_same, i, hT0, h1, h2, rfl⟩
  rintro _ H0 ⟨rfl, x0, d0, j0, hTj, hm0, hr0, he0⟩
  dsimp only [gName]
  have nD0 : H D = none := hD
  refine st_seq (while_ans (fun m σ H' => ∃ (dn : List Item) (kvs : List (Key × V)) (ks : List Str) (sg : Int) (v5 v6 : Option V), σ = [some (.ref o), some (.int (nsum none dn)), some (.ref D), some (.int sg), none, v5, v6] ∧ Ext o H H' ∧ DictOk H' D dn kvs ks ∧
      ((∃ b' t' r' j, sg = sgn b' ∧ TkAt a.c_Tokens H' o L ts j ∧ TmAt ts j t' ∧ RestAt ts (j + t'.size) r' ∧ (b, t) :: r = dn ++ (b', t') :: r' ∧ m = r'.length + 1 ∧ endR (j + t'.size) r' = endE i b t r) ∨
       (sg = 0 ∧ (b, t) :: r = dn ∧ m = 0 ∧ TkAt a.c_Tokens H' o L ts (endE i b t r))))
    (r.length + 1) ⟨[], [], [], sgn b, none, none, rfl, x0, d0, .inl ⟨b, t, r, j0, rfl, hTj, hm0, hr0, rfl, rfl, he0⟩⟩ ?_)
  rintro m σ H' ⟨dn, kvs, ks, sg, v5, v6, rfl, x1, d1, h⟩
  rcases h with ⟨b', t', r', j, rfl, hTj, hm, hrr, hall, rfl, hend⟩ | ⟨rfl, hall, rfl, hTj⟩
  · have hs0 : ¬ sgn b' = 0 := by
      unfold sgn
      cases b'
      · decide
      · decide
    refine ⟨true, (fun Q q => ⟨_, rfl, rfl, _, rfl, (by rw [decide_eq_false (fun z => hs0 (V.int.inj z))]; exact q)⟩), fun _ => ?_, fun e => (by cases e)⟩
    -- name, number = read_term(tokens)
    refine ⟨_, rfl, o, L, ts, j, t', rfl, hTj, hm, fun H1 p x2 hT2 hp => ?_⟩
    have d2 : DictOk H1 D dn kvs ks := ⟨x2 _ _ d1.at_ hDo.1, d1.keys, d1.nd, d1.val, d1.mem, d1.len⟩
    refine ⟨p, _, rfl, .inl (.inl hp), rfl, nameV t'.name, [.int t'.val], rfl, .int t'.val, [], rfl, rfl, ?_⟩
    have hsb : -(2 ^ 64) < sgn b' ∧ sgn b' < 2 ^ 64 := by
      unfold sgn
      cases b'
      · decide
      · decide
    have hlen2 : dn.length < 64 := by
      have := congrArg List.length hall
      rw [List.length_append, List.length_cons, List.length_cons] at this
      omega
    -- what follows the sums: the next sign
    have sign : ∀ (H2 : Hp) (kvs2 : List (Key × V)) (ks2 : List Str), Ext o H H2 → DictOk H2 D (dn ++ [(b', t')]) kvs2 ks2 → TkAt a.c_Tokens H2 o L ts (j + t'.size) →
        tAsg (tCall (spSign a.c_Tokens) [] E0 (tCons (tVar 0) tNil)) (gName 3) { rt := Q, nx := fun σ' H' => ∃ m', m' < r'.length + 1 ∧ ∃ (dn : List Item) (kvs : List (Key × V)) (ks : List Str) (sg : Int) (v5 v6 : Option V), σ' = [some (.ref o), some (.int (nsum none dn)), some (.ref D), some (.int sg), none, v5, v6] ∧ Ext o H H' ∧ DictOk H' D dn kvs ks ∧
          ((∃ b' t' r' j, sg = sgn b' ∧ TkAt a.c_Tokens H' o L ts j ∧ TmAt ts j t' ∧ RestAt ts (j + t'.size) r' ∧ (b, t) :: r = dn ++ (b', t') :: r' ∧ m' = r'.length + 1 ∧ endR (j + t'.size) r' = endE i b t r) ∨
           (sg = 0 ∧ (b, t) :: r = dn ∧ m' = 0 ∧ TkAt a.c_Tokens H' o L ts (endE i b t r))) }
        [some (.ref o), some (.int (nsum none (dn ++ [(b', t')]))), some (.ref D), some (.int (sgn b')), none, some (nameV t'.name), some (.int t'.val)] H2 := by
      intro H2 kvs2 ks2 x3 d3 hT3
      have dB : ∀ H3, But o H2 H3 → DictOk H3 D (dn ++ [(b', t')]) kvs2 ks2 := fun H3 b3 => ⟨by rw [b3 D hDo.1]; exact d3.at_, d3.keys, d3.nd, d3.val, d3.mem, d3.len⟩
      cases r' with
      | nil =>
        obtain ⟨k, p, hk, n1, n2⟩ := hrr
        refine ⟨_, rfl, o, L, ts, j + t'.size, k, p, rfl, hT3, hk, fun e => absurd e n1, fun e => absurd e n2, fun _ _ => ?_⟩
        refine ⟨0, by omega, dn ++ [(b', t')], kvs2, ks2, 0, _, _, rfl, x3, d3, .inr ⟨rfl, hall, rfl, ?_⟩⟩
        rw [← hend]
        exact hT3
      | cons y r'' =>
        obtain ⟨b2, t2⟩ := y
        obtain ⟨⟨p, hk⟩, hm2, hr2⟩ := hrr
        have fin : ∀ H3, But o H2 H3 → TkAt a.c_Tokens H3 o L ts (j + t'.size + 1) → ∃ m', m' < ((b2, t2) :: r'').length + 1 ∧ ∃ (dn' : List Item) (kvs : List (Key × V)) (ks : List Str) (sg : Int) (v5 v6 : Option V), [some (.ref o), some (.int (nsum none (dn ++ [(b', t')]))), some (.ref D), some (V.int (sgn b2)), none, some (nameV t'.name), some (.int t'.val)] = [some (.ref o), some (.int (nsum none dn')), some (.ref D), some (.int sg), none, v5, v6] ∧ Ext o H H3 ∧ DictOk H3 D dn' kvs ks ∧
          ((∃ b' t' r' j, sg = sgn b' ∧ TkAt a.c_Tokens H3 o L ts j ∧ TmAt ts j t' ∧ RestAt ts (j + t'.size) r' ∧ (b, t) :: r = dn' ++ (b', t') :: r' ∧ m' = r'.length + 1 ∧ endR (j + t'.size) r' = endE i b t r) ∨
           (sg = 0 ∧ (b, t) :: r = dn' ∧ m' = 0 ∧ TkAt a.c_Tokens H3 o L ts (endE i b t r))) := fun H3 b3 hT4 =>
          ⟨r''.length + 1, by rw [List.length_cons]; omega, dn ++ [(b', t')], kvs2, ks2, sgn b2, _, _, rfl, x3.trans (Ext.but b3), dB _ b3, .inl ⟨b2, t2, r'', j + t'.size + 1, rfl, hT4, hm2, hr2, by rw [hall, List.append_assoc]; rfl, rfl, hend⟩⟩
        refine ⟨_, rfl, o, L, ts, j + t'.size, _, p, rfl, hT3, hk, fun e H3 b3 hT4 => ?_, fun e H3 b3 hT4 => ?_, fun n1 n2 => ?_⟩
        · have : b2 = false := by
            cases b2
            · rfl
            · exact absurd e (by decide +kernel)
          subst this
          exact fin H3 b3 hT4
        · have : b2 = true := by
            cases b2
            · exact absurd e (by decide +kernel)
            · rfl
          subst this
          exact fin H3 b3 hT4
        · cases b2
          · exact absurd rfl n1
          · exact absurd rfl n2
    cases hnm : t'.name with
    | none =>
      have hc : nsum none (dn ++ [(b', t')]) = nsum none dn + sgn b' * t'.val := by
        rw [nsum_app, hnm, if_pos rfl]
        rfl
      refine ⟨_, rfl, rfl, _, rfl, ite2 (fun _ => ?_) (fun e => absurd (decide_eq_true rfl) e)⟩
      refine ⟨_, rfl, _, rfl, _, rfl, _, _, rfl, rfl, .inl hsb, _, _, rfl, rfl, ?_⟩
      have := sign H1 kvs ks (x1.trans x2) (d2.more hnm) hT2
      rw [hc, hnm] at this
      exact this
    | some v =>
      have hc : nsum none (dn ++ [(b', t')]) = nsum none dn := by
        rw [nsum_app, hnm, if_neg (show ¬ (some v : Option Str) = none from fun z => by cases z), Int.add_zero]
      refine ⟨_, rfl, rfl, _, rfl, ite2 (fun e => by cases of_decide_eq_true e) (fun _ => ?_)⟩
      have hk2 : kvs.length < sizeLine := by
        have h1 := congrArg List.length d2.keys
        rw [List.length_map, List.length_map] at h1
        have := d2.len
        exact bigLine (by omega)
      refine ⟨_, rfl, D, rfl, .inl ⟨kvs, .inl d2.at_⟩, _, rfl, valV kvs (Sum.inr v), DGet.k (k := Sum.inr v) d2.at_, _, rfl, _, rfl, _, _, rfl, rfl, .inl hsb, nsum (some v) dn, _, d2.get v, rfl, _, rfl, _, rfl, D, _, rfl, DPut.k (k := Sum.inr v) d2.at_ hk2, ?_⟩
      have := sign _ _ _ ((x1.trans x2).mut nD0) (d2.put (x := (b', t')) hnm) (hT2.off d2.at_ (fun _ z => by cases z) (fun _ _ _ z => by cases z) hDo.2)
      rw [hc, hnm] at this
      exact this
  · -- the end: the sorted sums
    refine ⟨false, (fun Q q => ⟨_, rfl, rfl, _, rfl, (by rw [decide_eq_true rfl]; exact q)⟩), fun e => (by cases e), fun _ => ?_⟩
    subst hall
    have hk64 : ks.length < 64 := by
      have := d1.len
      rw [List.length_cons] at this
      omega
    have nz : ∀ v, v ∈ ks → valV kvs (Sum.inr v) = some (.int (nsum (some v) ((b, t) :: r))) := fun v hv => by rw [d1.val v, if_pos hv]
    refine ⟨_, rfl, D, kvs, ks, rfl, .inl d1.at_, d1.keys, hk64, fun ys p hperm hsort np => ⟨p, rfl, ⟨_, SqL.of upd_same⟩, fun M nM => ?_⟩⟩
    have hpM : p ≠ M := ne_of_none upd_same nM
    have sp : Same H' (upd H' p (.lst (ys.map V.str))) := same_upd np
    have nM' : H' M = none := sp.free nM
    have hyl : ys.length < 64 := by
      rw [hperm.length_eq]
      exact hk64
    refine lc_list (K := K) (a := p) (xs := ys.map V.str) (fun i H2 => Same H' H2 ∧ H2 p = some (.lst (ys.map V.str)) ∧ ∃ as : List Addr, H2 M = some (.lst (as.map V.ref)) ∧ as.length ≤ i ∧ RepP H2 as (termsOf (ys.take i) ((b, t) :: r)))
      ⟨sp.trans (same_upd nM), by rw [upd_ne hpM]; exact upd_same, [], upd_same, Nat.le_refl _, trivial⟩ (fun i H2 _ hh => SqL.of hh.2.1) ?_ ?_
    · rintro i' x H2 hi ⟨s2, hp2, as2, hM2, hal, hR2⟩
      obtain ⟨y, hy, rfl⟩ : ∃ y, ys[i']? = some y ∧ x = V.str y := by
        rw [List.getElem?_map] at hi
        cases e : ys[i']? with
        | none => rw [e] at hi; cases hi
        | some y => rw [e] at hi; exact ⟨y, rfl, (Option.some.inj hi).symm⟩
      have hyk : y ∈ ks := hperm.subset (List.mem_of_getElem? hy)
      have hil : i' < ys.length := (List.getElem?_eq_some_iff.mp hy).1
      have hD2 := s2 _ _ d1.at_
      have g1 : DGet H2 D (.str y) (some (.int (nsum (some y) ((b, t) :: r)))) := by
        have := DGet.k (k := Sum.inr y) hD2
        rw [nz y hyk] at this
        exact this
      have et : termsOf (ys.take (i' + 1)) ((b, t) :: r) = termsOf (ys.take i') ((b, t) :: r) ++ termsOf [y] ((b, t) :: r) := by
        unfold termsOf
        rw [List.take_add_one, hy, List.filter_append, List.map_append]
        rfl
      refine ⟨rfl, _, rfl, _, rfl, D, _, rfl, g1, rfl, _, rfl, ite2 (fun e => ?_) (fun e => ?_)⟩
      · refine ⟨_, rfl, _, rfl, _, rfl, D, _, rfl, g1, (by show 2 ≤ sizeLine; decide), fun q1 nq => ?_⟩
        have hMq : M ≠ q1 := ne_of_none hM2 nq
        have hpq : p ≠ q1 := ne_of_none hp2 nq
        refine ⟨_, by rw [upd_ne hMq]; exact hM2, by rw [List.length_map]; exact bigLine (by omega), ?_, ?_, as2 ++ [q1], ?_, ?_, ?_⟩
        · exact same_mut (s2.trans (same_upd nq)) nM'
        · rw [upd_ne hpM, upd_ne hpq]
          exact hp2
        · rw [upd_same, List.map_append]
          rfl
        · rw [List.length_append]
          show as2.length + 1 ≤ i' + 1
          omega
        · rw [et, termsOf_yes e]
          exact RepP.offX (u := .lst (as2.map V.ref)) (by rw [upd_ne hMq]; exact hM2) (fun _ z => by cases z) (RepP.app (t := (y, nsum (some y) ((b, t) :: r))) upd_same (hR2.same (same_upd nq)))
      · refine ⟨s2, hp2, as2, hM2, by omega, ?_⟩
        rw [et, termsOf_no e, List.append_nil]
        exact hR2
    · rintro H2 ⟨s2, hp2, as2, hM2, hal, hR2⟩
      rw [List.length_map, List.take_length] at hR2
      refine ⟨_, rfl, _, rfl, M, _, rfl, .inl ⟨SqL.of hM2, fun p2 n2 => ⟨(by show 2 ≤ sizeLine; decide), fun p3 n3 => ?_⟩⟩⟩
      have s3 := (same_upd (o := .tup (as2.map V.ref)) n2)
      have s4 := (same_upd (o := .tup [.int (nsum none ((b, t) :: r)), .ref p2]) n3)
      exact q _ p3 p2 as2 ks ys (x1.trans (Ext.of ((s2.trans s3).trans s4))) (((hTj.same s2).same s3).same s4) upd_same (s4 _ _ upd_same) ((hR2.same s3).same s4) hperm hsort d1.nd d1.mem
end
end K1
namespace K1
open PySem PySem.Spec PyProof.Rows L2 TL
/-- a tree of globals and one keep -/
structure TreeAt (H : Hp) (p : Addr) (ns : List Str) (c : Int) (l : List (Str × Int)) : Prop where
  ex : ∃ (pv pk ps pf pe pt : Addr) (as : List Addr), H p = some (.tup [.ref pv, .ref pk, .ref ps, .ref pf]) ∧ H pv = some (.tup (ns.map V.str)) ∧ H pk = some (.tup []) ∧ H ps = some (.tup [.ref pe]) ∧ H pf = some (.tup []) ∧
    H pe = some (.tup [.int c, .ref pt]) ∧ H pt = some (.tup (as.map V.ref)) ∧ RepP H as l
theorem TreeAt.same {H H' : Hp} {p : Addr} {ns : List Str} {c : Int} {l : List (Str × Int)} (h : TreeAt H p ns c l) (s : Same H H') : TreeAt H' p ns c l := by
  obtain ⟨pv, pk, ps, pf, pe, pt, as, h1, h2, h3, h4, h5, h6, h7, h8⟩ := h
  exact ⟨pv, pk, ps, pf, pe, pt, as, s _ _ h1, s _ _ h2, s _ _ h3, s _ _ h4, s _ _ h5, s _ _ h6, s _ _ h7, h8.same s⟩
def spNever : Sp := fun _ _ _ _ => False
def spParse : Sp := fun vs H Q _ => ∃ (z : Str) (ns : List Str) (b : Bool) (t : Tm3) (r : List Item) (k1 k2 k3 : Str), vs = [.str z] ∧ Big z ∧ At (toks z) 0 "globals" k1 ∧ 0 < ns.length ∧ ns.length ≤ 1000 ∧ (∀ j v, ns[j]? = some v → At (toks z) (1 + j) "NAME" v) ∧
  At (toks z) (1 + ns.length) "keep" k2 ∧ ExprAt (toks z) (2 + ns.length) b t r ∧ At (toks z) (endE (2 + ns.length) b t r) "END" k3 ∧ r.length < 60 ∧
  ∀ (H' : Hp) (p : Addr) (ks ys : List Str), Same H H' → TreeAt H' p ns (nsum none ((b, t) :: r)) (termsOf ys ((b, t) :: r)) →
    ys.Perm ks → sortedS ys = true → ks.Nodup → (∀ v, v ∈ ks ↔ ∃ x ∈ (b, t) :: r, x.2.name = some v) → Q (.ref p) H'
section
variable {P : Program} {w : World} {K : PySem.W.Frag} {mg : Str → Option Value} {base : Heap} {a : Ads}
theorem ok_read_function (T : Txt K mg a) : FnOk P w K mg base CX0 1 a.f_read_function a.f_read_function_d ["tokens"] spNever := ⟨fun _ _ _ _ h => h.elim, fun _ _ _ _ _ _ _ _ _ _ _ _ _ h => h.elim⟩
theorem keep_kinds : ¬ ("keep" : Str) = "kinds" := by decide +kernel
theorem keep_name : ("keep" : Str) ≠ "NAME" := by decide +kernel
theorem end_keep : ¬ ("END" : Str) = "keep" := by decide +kernel
theorem end_def : ¬ ("END" : Str) = "def" := by decide +kernel
theorem sc_parse : FnScope ["text", "tokens", "variables", "kinds", "keeps", "functions"] ["text"] (defScope s_parse) := ⟨rfl, rfl, rfl, by decide +kernel, rfl, by decide +kernel, by decide +kernel⟩
theorem ok_parse (T : Txt K mg a) : FnOk P w K mg base CX0 7 a.f_parse a.f_parse_d ["text"] spParse := by
  refine T.F_parse.ok sc_parse (fun vs H Q E h => ?_) (fun cdv A outer s H vs Q E hr h => ?_)
  · obtain ⟨z, ns, b, t, r, k1, k2, k3, rfl, _⟩ := h
    rfl
  obtain ⟨z, ns, b, t, r, k1, k2, k3, rfl, hz, ⟨pos1, a1⟩, hn0, hn1, hns, ⟨pos2, a2⟩, aE, ⟨pos3, a3⟩, hrl, q⟩ := h
  have nS : ∀ L j, (tf L j).lookup ("skip" : Str) = none := fun L j => tf_no _ _ (by decide +kernel) (by decide +kernel)
  have nT : ∀ L j, (tf L j).lookup ("take" : Str) = none := fun L j => tf_no _ _ (by decide +kernel) (by decide +kernel)
  refine ⟨_, (pss_cons (ps_if (pt_not (pt_val (pe_callB call_isi (by rfl) T.isinstance (by decide +kernel) (pa_cons (pv 0) (pa_cons (pe_bltn (v := .ty "str") (by rfl) T.str (by decide +kernel) rfl) pa_nil)))))
      (pss_one ps_never)
      pss_nil)
    (pss_cons (ps_set (i := 1) sc_parse.nd rfl (Or.inl rfl) (pe_make T.mk_Tokens (ok_Tokens___init__ T) (hr.mono (by decide)) (by rfl) T.mg_Tokens T.b_Tokens___init__ .nil pass0 (pa_cons (pv 0) pa_nil)))
    (pss_cons (ps_set (i := 2) sc_parse.nd rfl (Or.inl rfl) (pe_call (ok_read_declared T) (hr.mono (by decide)) (by rfl) T.g_read_declared T.F_read_declared.kp T.b_read_declared .nil pass0 (pa_cons (pv 1) (pa_cons pe_str pa_nil))))
    (pss_cons (ps_set (i := 3) sc_parse.nd rfl (Or.inl rfl) (pe_call (ok_read_declared T) (hr.mono (by decide)) (by rfl) T.g_read_declared T.F_read_declared.kp T.b_read_declared .nil pass0 (pa_cons (pv 1) (pa_cons pe_str pa_nil))))
    (pss_cons (ps_set (i := 4) sc_parse.nd rfl (Or.inl rfl) (pe_lst pa_nil))
    (pss_cons (ps_while PassesOwn.never (pt_val (pe_meth (pv 1) T.cl_Tokens T.m_Tokens_skip (ok_Tokens_skip T) (hr.mono (by decide)) T.b_Tokens_skip .nil pass0 (pa_cons pe_str pa_nil)))
      (pss_one (ps_expr (pe_bm PySem.F.plainAttrs_list PySem.F.slot_list_append PySem.F.type_list_append mt_append (pv 4) (pa_cons (pe_call (ok_read_expression T) (hr.mono (by decide)) (by rfl) T.g_read_expression T.F_read_expression.kp T.b_read_expression .nil pass0 (pa_cons (pv 1) pa_nil)) pa_nil)))))
    (pss_cons (ps_set (i := 5) sc_parse.nd rfl (Or.inl rfl) (pe_lst pa_nil))
    (pss_cons (ps_while PassesOwn.never (pt_val (pe_meth (pv 1) T.cl_Tokens T.m_Tokens_skip (ok_Tokens_skip T) (hr.mono (by decide)) T.b_Tokens_skip .nil pass0 (pa_cons pe_str pa_nil)))
      (pss_one (ps_expr (pe_bm PySem.F.plainAttrs_list PySem.F.slot_list_append PySem.F.type_list_append mt_append (pv 5) (pa_cons (pe_call (ok_read_function T) (hr.mono (by decide)) (by rfl) T.g_read_function T.F_read_function.kp T.b_read_function .nil pass0 (pa_cons (pv 1) pa_nil)) pa_nil)))))
    (pss_cons (ps_expr (pe_meth (pv 1) T.cl_Tokens T.m_Tokens_take (ok_Tokens_take T) (hr.mono (by decide)) T.b_Tokens_take .nil pass0 (pa_cons (pe_gs rfl T.g_END) pa_nil)))
    (pss_one (ps_ret (pe_tup (pa_cons (pv 2) (pa_cons (pv 3) (pa_cons (pe_callTy call_tuple_of (by rfl) T.tuple (by decide +kernel) (pa_cons (pv 4) pa_nil)) (pa_cons (pe_callTy call_tuple_of (by rfl) T.tuple (by decide +kernel) (pa_cons (pv 5) pa_nil)) pa_nil)))))))))))))))), ?_⟩
  refine ⟨_, rfl, _, _, _, _, true, rfl, .ty "str", .base (.str z), kit_ty (by decide +kernel), true, rfl, iteF ?_⟩
  -- tokens = Tokens(text)
  refine ⟨_, rfl, fun o dx ho0 hdx hne => ⟨o, dx, z, rfl, upd_same, hz, fun H1 L hT1 nL k1' => ⟨rfl, ?_⟩⟩⟩
  have s1 : Same H H1 := Same.made ho0 hdx k1'
  have sx : ∀ {H'}, Ext o H1 H' → Same H H' := fun {H'} x b y e => x b y (s1 b y e) (ne_of_none e ho0)
  -- the globals
  refine ⟨_, rfl, o, L, _, toks z, 0, rfl, hT1, .inr ⟨k1, ns, ⟨pos1, a1⟩, hn0, hn1, fun j v e => by rw [Nat.zero_add]; exact hns j v e, ⟨"keep", k2, ⟨pos2, by rw [Nat.zero_add]; exact a2⟩, keep_name⟩, fun H2 p2 x2 hT2 hp2 => ?_⟩⟩
  -- no kinds
  have hT2' : TkAt a.c_Tokens H2 o L (toks z) (1 + ns.length) := by
    rw [Nat.zero_add] at hT2
    exact hT2
  refine ⟨_, rfl, o, L, _, toks z, 1 + ns.length, rfl, hT2', .inl ⟨"keep", k2, ⟨pos2, a2⟩, keep_kinds, fun H3 p3 x3 hT3 hp3 => ?_⟩⟩
  have hp2o : p2 ≠ o := by
    obtain ⟨_, _, e1, _⟩ := hT2
    exact ne_of hp2 e1 (by intro z; cases z)
  have hp23 := x3 _ _ hp2 hp2o
  refine ⟨Nat.zero_le _, fun N nN => ?_⟩
  have hNo := hT3.no nN
  have x13 : Ext o H1 H3 := x2.trans x3
  have nN1 : H1 N = none := x13.free nN hNo.1
  dsimp only [gName]
  -- while tokens.skip('keep')
  have hp3o : p3 ≠ o := by
    obtain ⟨_, _, e1, _⟩ := hT3
    exact ne_of hp3 e1 (by intro z; cases z)
  refine st_seq ⟨fun m σ H' => ∃ _ : Unit, σ = [some (.str z), some (.ref o), some (.ref p2), some (.ref p3), some (.ref N), none] ∧ Ext o H1 H' ∧ H' p2 = some (.tup (ns.map V.str)) ∧ H' p3 = some (.tup []) ∧
      ((m = 1 ∧ H' N = some (.lst []) ∧ TkAt a.c_Tokens H' o L (toks z) (1 + ns.length)) ∨
       (m = 0 ∧ TkAt a.c_Tokens H' o L (toks z) (endE (2 + ns.length) b t r) ∧ ∃ (pe pt : Addr) (as : List Addr) (ks ys : List Str), H' N = some (.lst [.ref pe]) ∧ H' pe = some (.tup [.int (nsum none ((b, t) :: r)), .ref pt]) ∧ H' pt = some (.tup (as.map V.ref)) ∧ RepP H' as (termsOf ys ((b, t) :: r)) ∧
         ys.Perm ks ∧ sortedS ys = true ∧ ks.Nodup ∧ (∀ v, v ∈ ks ↔ ∃ x ∈ (b, t) :: r, x.2.name = some v))),
    ⟨1, (), rfl, x13.trans (Ext.of (same_upd nN)), same_upd nN _ _ hp23, same_upd nN _ _ hp3, .inl ⟨rfl, upd_same, hT3.same (same_upd nN)⟩⟩, ?_⟩
  rintro m σ H' ⟨_, rfl, x4, hv, hk, ⟨rfl, hN, hT4⟩ | ⟨rfl, hT4, pe, pt, as, ks, ys, hN, hpe, hpt, hR, hperm, hsort, hnd, hmem⟩⟩
  · obtain ⟨dx4, as4, ho4, _⟩ := id hT4
    refine ⟨_, rfl, o, dx4, _, rfl, ho4, nS _ _, o, L, _, toks z, 1 + ns.length, _, rfl, hT4, a2, fun _ H5 hT5 b5 => ⟨_, rfl, iteT ?_⟩, fun e => absurd rfl e⟩
    refine ⟨_, fun σ' H' h => h, ?_⟩
    have hN5 : H5 N = some (.lst []) := by
      rw [b5 N hNo.1]
      exact hN
    have aE' : ExprAt (toks z) (1 + ns.length + 1) b t r := by
      rw [show 1 + ns.length + 1 = 2 + ns.length by omega]
      exact aE
    refine ⟨_, rfl, .inl ⟨rfl, _, SqL.of hN5⟩, _, rfl, o, L, toks z, 1 + ns.length + 1, b, t, r, rfl, hT5, aE', hrl, fun H6 pe pt as ks ys x6 hT6 hpe hpt hR hperm hsort hnd hmem => ?_⟩
    have hN6 := x6 _ _ hN5 hNo.1
    have np : ∀ q u, H6 q = some (.tup u) → q ≠ N := fun q u e => ne_of e hN6 (by intro z; cases z)
    refine ⟨N, _, _, rfl, rfl, hN6, (by show 0 < sizeLine; decide), ?_⟩
    have hv6 : H6 p2 = some (.tup (ns.map V.str)) := x6 _ _ (by rw [b5 p2 hp2o]; exact hv) hp2o
    have hk6 : H6 p3 = some (.tup []) := x6 _ _ (by rw [b5 p3 hp3o]; exact hk) hp3o
    refine ⟨0, by omega, (), rfl, ((x4.trans (Ext.but b5)).trans x6).mut nN1, by rw [upd_ne (np _ _ hv6)]; exact hv6, by rw [upd_ne (np _ _ hk6)]; exact hk6, .inr ⟨rfl, ?_, pe, pt, as, ks, ys, upd_same, by rw [upd_ne (np _ _ hpe)]; exact hpe, by rw [upd_ne (np _ _ hpt)]; exact hpt, hR.offX hN6 (fun _ z => by cases z), hperm, hsort, hnd, hmem⟩⟩
    rw [show 1 + ns.length + 1 = 2 + ns.length by omega] at hT6
    exact hT6.off hN6 (fun _ z => by cases z) (fun _ _ _ z => by cases z) hNo.2
  · obtain ⟨dx4, as4, ho4, _⟩ := id hT4
    refine ⟨_, rfl, o, dx4, _, rfl, ho4, nS _ _, o, L, _, toks z, _, _, rfl, hT4, a3, fun e => absurd e end_keep, fun _ => ⟨_, rfl, iteF ?_⟩⟩
    -- functions = []
    refine ⟨Nat.zero_le _, fun F nF => ?_⟩
    dsimp only [gName]
    have sF := same_upd (o := .lst []) nF
    have hT5 := hT4.same sF
    obtain ⟨dx5, as5, ho5, _⟩ := id hT5
    refine st_seq ⟨fun m σ H5 => σ = [some (.str z), some (.ref o), some (.ref p2), some (.ref p3), some (.ref N), some (.ref F)] ∧ H5 = upd H' F (.lst []), ⟨0, rfl, rfl⟩, ?_⟩
    rintro m σ _ ⟨rfl, rfl⟩
    refine ⟨_, rfl, o, dx5, _, rfl, ho5, nS _ _, o, L, _, toks z, _, _, rfl, hT5, a3, fun e => absurd e end_def, fun _ => ⟨_, rfl, iteF ?_⟩⟩
    -- tokens.take(END)
    refine ⟨_, rfl, o, dx5, _, rfl, ho5, nT _ _, o, L, toks z, _, _, rfl, hT5, a3, fun H6 hT6 b6 => ?_⟩
    have nt : ∀ q u, (upd H' F (.lst [])) q = some (.tup u) → H6 q = some (.tup u) := fun q u e => by
      rw [b6 q (ne_of e ho5 (by intro z; cases z))]
      exact e
    have nl : ∀ q u, q ≠ o → (upd H' F (.lst [])) q = some u → H6 q = some u := fun q u n e => by
      rw [b6 q n]
      exact e
    have hNF : N ≠ F := ne_of_none hN nF
    have hF6 : H6 F = some (.lst []) := nl _ _ (hT4.no nF).1 upd_same
    have hN6 : H6 N = some (.lst [.ref pe]) := nl _ _ hNo.1 (sF _ _ hN)
    refine ⟨_, rfl, _, rfl, _, rfl, N, _, rfl, .inl ⟨SqL.of hN6, fun p7 n7 => ?_⟩⟩
    have s7 := same_upd (o := .tup [.ref pe]) n7
    refine ⟨_, rfl, F, _, rfl, .inl ⟨SqL.of (s7 _ _ hF6), fun p8 n8 => ⟨(by show 4 ≤ sizeLine; decide), fun p9 n9 => ?_⟩⟩⟩
    have s8 := same_upd (o := .tup []) n8
    have s9 := same_upd (o := .tup [.ref p2, .ref p3, .ref p7, .ref p8]) n9
    have s79 : Same H6 _ := (s7.trans s8).trans s9
    have st : ∀ {as : List Addr} {l : List (Str × Int)}, RepP (upd H' F (.lst [])) as l → RepP H6 as l := by
      intro as
      induction as with
      | nil =>
        intro l h
        cases l with
        | nil => exact trivial
        | cons _ _ => exact h.elim
      | cons x xs ih =>
        intro l h
        cases l with
        | nil => exact h.elim
        | cons y ys => exact ⟨nt _ _ h.1, ih h.2⟩
    exact q _ p9 ks ys ((sx ((x4.trans (Ext.of sF)).trans (Ext.but b6))).trans s79)
      ⟨p2, p3, p7, p8, pe, pt, as, upd_same, s79 _ _ (nt _ _ (sF _ _ hv)), s79 _ _ (nt _ _ (sF _ _ hk)), (s8.trans s9) _ _ upd_same, s9 _ _ upd_same, s79 _ _ (nt _ _ (sF _ _ hpe)), s79 _ _ (nt _ _ (sF _ _ hpt)), (st (hR.same sF)).same s79⟩
      hperm hsort hnd hmem
end
end K1
namespace K1
open PySem PySem.Spec PyProof.Rows L2 TL
/-! ### texts of numbers and terms -/
def ab (i : Int) : Int := if i < 0 then -i else i
def numT (i : Int) : Str := Str.ofString (toString i)
theorem ab_nat (i : Int) : ab i = ((i.natAbs : Nat) : Int) := by
  unfold ab
  split <;> omega
theorem numT_len {i : Int} (h0 : 0 ≤ i) (h : i < 1000000000000000000) : (numT i).length ≤ 18 := by
  obtain ⟨n, rfl⟩ : ∃ n : Nat, i = (n : Int) := ⟨i.toNat, by omega⟩
  unfold numT
  rw [len_tl, tl_num]
  exact numL_len (by decide) (by have e : (10 : Nat) ^ 18 = 1000000000000000000 := by decide
                                 rw [e]; omega)
theorem log_ok {i : Int} (h0 : 0 ≤ i) (h : i < 1000000000000000000) : i.natAbs.log2 < 1920 := by
  by_cases hz : i.natAbs = 0
  · rw [hz]
    decide
  · have e : (2 : Nat) ^ 60 = 1152921504606846976 := by decide
    have := (Nat.log2_lt (n := i.natAbs) (k := 60) hz).mpr (by rw [e]; omega)
    omega
def termT (v : Str) (f : Int) : Str := if decide (V.int (ab f) = V.int 1) = true then v else numT (ab f) ++ "*" ++ v
def Mid (f : Int) : Prop := -1000000000000000000 < f ∧ f < 1000000000000000000
theorem ab_mid {f : Int} (h : Mid f) : 0 ≤ ab f ∧ ab f < 1000000000000000000 := by
  unfold Mid at h
  unfold ab
  split <;> omega
theorem star_len : (Str.ofString "*").length = 1 := by decide +kernel
theorem termT_len {v : Str} {f : Int} (h : Mid f) : (termT v f).length ≤ v.length + 19 := by
  obtain ⟨h0, h1⟩ := ab_mid h
  have := numT_len h0 h1
  unfold termT
  split
  · omega
  · rw [Str.length_append, Str.length_append, star_len]
    omega
def spTermT : Sp := fun vs H Q _ => ∃ (v : Str) (f : Int), vs = [.str v, .int f] ∧ v.length ≤ 1000 ∧ Mid f ∧ Q (.str (termT v f)) H
def partsOf (c : Int) (l : List (Str × Int)) : List (Int × Str) := l.map (fun p => (p.2, termT p.1 p.2)) ++ if ((!decide (V.int c = V.int 0)) || l.isEmpty) = true then [(c, numT (ab c))] else []
def stepT (text : Str) (p : Int × Str) : Str := if decide (V.str text = V.str (Str.ofString "")) = true then (if decide (p.1 < 0) = true then Str.ofString "-" ++ p.2 else p.2) else text ++ (if decide (p.1 < 0) = true then Str.ofString " - " else Str.ofString " + ") ++ p.2
def sumT (c : Int) (l : List (Str × Int)) : Str := (partsOf c l).foldl stepT (Str.ofString "")
def RepQ (H : Hp) : List Addr → List (Int × Str) → Prop
  | [], [] => True
  | a :: as, t :: ts => H a = some (.tup [.int t.1, .str t.2]) ∧ RepQ H as ts
  | _, _ => False
theorem RepQ.same {H H' : Hp} (s : Same H H') : ∀ {as : List Addr} {ts : List (Int × Str)}, RepQ H as ts → RepQ H' as ts
  | [], [], _ => trivial
  | _ :: _, _ :: _, h => ⟨s _ _ h.1, RepQ.same s h.2⟩
  | [], _ :: _, h => h.elim
  | _ :: _, [], h => h.elim
theorem RepQ.app {H : Hp} {a : Addr} {t : Int × Str} (ha : H a = some (.tup [.int t.1, .str t.2])) : ∀ {as : List Addr} {ts : List (Int × Str)}, RepQ H as ts → RepQ H (as ++ [a]) (ts ++ [t])
  | [], [], _ => ⟨ha, trivial⟩
  | _ :: _, _ :: _, h => ⟨h.1, RepQ.app ha h.2⟩
  | [], _ :: _, h => h.elim
  | _ :: _, [], h => h.elim
theorem RepQ.offX {H : Hp} {L : Addr} {u o : HO} (hL : H L = some u) (hu : ∀ xs, u ≠ .tup xs) : ∀ {as : List Addr} {ts : List (Int × Str)}, RepQ H as ts → RepQ (upd H L o) as ts
  | [], [], _ => trivial
  | _ :: _, _ :: _, h => ⟨by rw [upd_ne (ne_of h.1 hL (fun z => hu _ z.symm))]; exact h.1, RepQ.offX hL hu h.2⟩
  | [], _ :: _, h => h.elim
  | _ :: _, [], h => h.elim
theorem RepQ.len {H : Hp} : ∀ {as : List Addr} {ts : List (Int × Str)}, RepQ H as ts → as.length = ts.length
  | [], [], _ => rfl
  | _ :: _, _ :: _, h => by rw [List.length_cons, List.length_cons, RepQ.len h.2]
  | [], _ :: _, h => h.elim
  | _ :: _, [], h => h.elim
theorem RepQ.get {H : Hp} : ∀ {as : List Addr} {ts : List (Int × Str)} {j : Nat} {x : V}, RepQ H as ts → (as.map V.ref)[j]? = some x → ∃ a t, x = .ref a ∧ ts[j]? = some t ∧ H a = some (.tup [.int t.1, .str t.2])
  | [], [], j, t, _, h => by simp at h
  | a :: _, t :: _, 0, x, h, e => ⟨a, t, (Option.some.inj e).symm, rfl, h.1⟩
  | _ :: as, _ :: ts, j + 1, x, h, e => RepQ.get (as := as) (ts := ts) (j := j) h.2 e
  | [], _ :: _, _, _, h, _ => h.elim
  | _ :: _, [], _, _, h, _ => h.elim
theorem RepP.get {H : Hp} : ∀ {as : List Addr} {ts : List (Str × Int)} {j : Nat} {x : V}, RepP H as ts → (as.map V.ref)[j]? = some x → ∃ a t, x = .ref a ∧ ts[j]? = some t ∧ H a = some (.tup [.str t.1, .int t.2])
  | [], [], j, t, _, h => by simp at h
  | a :: _, t :: _, 0, x, h, e => ⟨a, t, (Option.some.inj e).symm, rfl, h.1⟩
  | _ :: as, _ :: ts, j + 1, x, h, e => RepP.get (as := as) (ts := ts) (j := j) h.2 e
  | [], _ :: _, _, _, h, _ => h.elim
  | _ :: _, [], _, _, h, _ => h.elim
/-- names and sums of bounded size -/
def Fine (l : List (Str × Int)) : Prop := ∀ p ∈ l, p.1.length ≤ 1000 ∧ Mid p.2
def spSum : Sp := fun vs H Q _ => ∃ (p pt : Addr) (as : List Addr) (c : Int) (l : List (Str × Int)), vs = [.ref p] ∧ H p = some (.tup [.int c, .ref pt]) ∧ H pt = some (.tup (as.map V.ref)) ∧ RepP H as l ∧ l.length ≤ 60 ∧ Mid c ∧ Fine l ∧
  ∀ H', Same H H' → (sumT c l).length ≤ 100000 → Q (.str (sumT c l)) H'
theorem step_len {text : Str} {p : Int × Str} : (stepT text p).length ≤ text.length + p.2.length + 3 := by
  unfold stepT
  split
  · split
    · rw [Str.length_append, show (Str.ofString "-").length = 1 from by decide +kernel]
      omega
    · omega
  · split
    · rw [Str.length_append, Str.length_append, show (Str.ofString " - ").length = 3 from by decide +kernel]
      omega
    · rw [Str.length_append, Str.length_append, show (Str.ofString " + ").length = 3 from by decide +kernel]
      omega
theorem fold_len {m : Nat} : ∀ (ps : List (Int × Str)) (text : Str), (∀ p ∈ ps, p.2.length ≤ m) → (ps.foldl stepT text).length ≤ text.length + ps.length * (m + 3)
  | [], text, _ => by simp
  | p :: r, text, h => by
    have h1 := fold_len r (stepT text p) fun q hq => h q (List.mem_cons_of_mem _ hq)
    have h2 := step_len (text := text) (p := p)
    have h3 := h p List.mem_cons_self
    rw [List.foldl_cons, List.length_cons, Nat.add_mul]
    omega
theorem if_drop {c : TT} {te : TE} {D : Ends} {σ : L2.St} {H : Hp} {b : Bool} (PV : Hp → Prop) (h : Ans c σ H b) (h1 : b = true → ValH te σ H (fun _ H' => PV H')) (h2 : b = false → PV H) (q : ∀ H', PV H' → D.nx σ H') : tIfS c (tDrop te) tNext D σ H := by
  cases b with
  | true => exact st_yes h (h1 rfl _ fun _ H' p => q H' p)
  | false => exact st_no h (q H (h2 rfl))
theorem ans_or2 {t u : TT} {σ : L2.St} {H : Hp} {b1 b2 : Bool} (h1 : Ans t σ H b1) (h2 : Ans u σ H b2) : Ans (tOr t u) σ H (b1 || b2) := by
  cases b1 with
  | true => exact ans_or1 h1
  | false => exact ans_or h1 h2
section
variable {P : Program} {w : World} {K : PySem.W.Frag} {mg : Str → Option Value} {base : Heap} {a : Ads}
theorem sc_shown_term : FnScope ["name", "factor"] ["name", "factor"] (defScope s_shown_term) := ⟨rfl, rfl, rfl, by decide +kernel, rfl, by decide +kernel, by decide +kernel⟩
theorem ok_shown_term (T : Txt K mg a) : FnOk P w K mg base CX0 1 a.f_shown_term a.f_shown_term_d ["name", "factor"] spTermT := by
  refine T.F_shown_term.ok sc_shown_term (fun vs H Q E h => ?_) (fun cdv A outer s H vs Q E hr h => ?_)
  · obtain ⟨v, f, rfl, _⟩ := h
    rfl
  obtain ⟨v, f, rfl, hv, hf, q⟩ := h
  refine ⟨_, (pss_cons (ps_if (pt_cmpR op_eq (pe_callB call_abs (by rfl) T.abs (by decide +kernel) (pa_cons (pv 1) pa_nil)) pe_int (nomark _))
      (pss_one (ps_ret (pv 0)))
      pss_nil)
    (pss_one (ps_ret (pe_op op_add_str (pe_op op_add_str (pe_callTy call_str_int (by rfl) T.str (by decide +kernel) (pa_cons (pe_callB call_abs (by rfl) T.abs (by decide +kernel) (pa_cons (pv 1) pa_nil)) pa_nil)) pe_str) (pv 0))))), ?_⟩
  obtain ⟨h0, h1⟩ := ab_mid hf
  have hl := numT_len h0 h1
  refine st_seq (st_ite (b := decide (V.int (ab f) = V.int 1)) (fun Q q => ⟨_, rfl, f, rfl, rfl, _, rfl, q⟩) (fun e => ⟨_, rfl, ?_⟩) (fun e => ?_))
  · unfold termT at q
    rw [if_pos e] at q
    exact q
  · unfold termT at q
    rw [if_neg (by rw [e]; exact Bool.false_ne_true)] at q
    refine ⟨_, rfl, f, rfl, ab f, rfl, log_ok h0 h1, numT (ab f), _, rfl, rfl, bigLe (by rw [star_len]; omega), _, rfl, _, _, rfl, rfl, bigLe (by rw [Str.length_append, star_len]; omega), q⟩
theorem sc_shown_sum : FnScope ["expression", "parts", "text", "constant", "terms", "number", "shown", "name", "factor"] ["expression"] (defScope s_shown_sum) := ⟨rfl, rfl, rfl, by decide +kernel, rfl, by decide +kernel, by decide +kernel⟩
theorem ok_shown_sum (T : Txt K mg a) : FnOk P w K mg base CX0 2 a.f_shown_sum a.f_shown_sum_d ["expression"] spSum := by
  refine T.F_shown_sum.ok sc_shown_sum (fun vs H Q E h => ?_) (fun cdv A outer s H vs Q E hr h => ?_)
  · obtain ⟨p, pt, as, c, l, rfl, _⟩ := h
    rfl
  obtain ⟨p, pt, as, c, l, rfl, hp, hpt, hR, hl, hc, hF, q⟩ := h
  refine ⟨_, (pss_cons (ps_asg (pv 0) (pg_tup (by rfl) (pgs_cons (pg_name (i := 3) sc_shown_sum.nd rfl (Or.inl rfl)) (pgs_cons (pg_name (i := 4) sc_shown_sum.nd rfl (Or.inl rfl)) pgs_nil))))
    (pss_cons (ps_setLc (i := 1) (own := [("name", 7), ("factor", 8)]) (g := gTup K 2 (gCons (gName 7) (gCons (gName 8) gNil))) (tt := tYes) (by rfl) sc_shown_sum.nd rfl rfl (sw_true rfl rfl rfl (by decide +kernel)) (pi_tup (pv 4)) (blkOk_by (own := [("name", 7), ("factor", 8)]) (N := ["expression", "parts", "text", "constant", "terms", "number", "shown", "name", "factor"]) (sc := defScope s_shown_sum) (by decide +kernel)) (fun _ _ _ _ _ => pg_tup (by rfl) (pgs_cons (pg_name (i := 7) sc_shown_sum.nd rfl (Or.inl rfl)) (pgs_cons (pg_name (i := 8) sc_shown_sum.nd rfl (Or.inl rfl)) pgs_nil))) (fun _ _ _ _ _ => pts_nil) (fun _ _ _ _ _ => (pe_tup (pa_cons (pv 8) (pa_cons (pe_call (ok_shown_term T) (hr.mono (by decide)) (by rfl) T.g_shown_term T.F_shown_term.kp T.b_shown_term .nil pass0 (pa_cons (pv 7) (pa_cons (pv 8) pa_nil))) pa_nil)))))
    (pss_cons (ps_if (PW.pt (pw_or (pt_cmpR op_ne (pv 3) pe_int (nomark _)) (pw_or1 (pt_not (pt_truth (pv 4) (by intro _; rfl))))))
      (pss_one (ps_expr (pe_bm PySem.F.plainAttrs_list PySem.F.slot_list_append PySem.F.type_list_append mt_append (pv 1) (pa_cons (pe_tup (pa_cons (pv 3) (pa_cons (pe_callTy call_str_int (by rfl) T.str (by decide +kernel) (pa_cons (pe_callB call_abs (by rfl) T.abs (by decide +kernel) (pa_cons (pv 3) pa_nil)) pa_nil)) pa_nil))) pa_nil))))
      pss_nil)
    (pss_cons (ps_set (i := 2) sc_shown_sum.nd rfl (Or.inl rfl) pe_str)
    (pss_cons (ps_for PassesOwn.never rfl (pi_list (pv 1)) (pg_tup (by rfl) (pgs_cons (pg_name (i := 5) sc_shown_sum.nd rfl (Or.inl rfl)) (pgs_cons (pg_name (i := 6) sc_shown_sum.nd rfl (Or.inl rfl)) pgs_nil)))
      (pss_one (ps_if (pt_cmpR op_eq (pv 2) pe_str (nomark _))
        (pss_one (ps_set (i := 2) sc_shown_sum.nd rfl (Or.inl rfl) (pe_ifExp (pt_cmpR op_lt (pv 5) pe_int (nomark _)) (pe_op op_add_str pe_str (pv 6)) (pv 6))))
        (pss_one (ps_set (i := 2) sc_shown_sum.nd rfl (Or.inl rfl) (pe_op op_add_str (pe_op op_add_str (pv 2) (pe_ifExp (pt_cmpR op_lt (pv 5) pe_int (nomark _)) pe_str pe_str)) (pv 6)))))))
    (pss_one (ps_ret (pv 2)))))))), ?_⟩
  refine ⟨_, rfl, p, _, rfl, .inl (.inl hp), rfl, .int c, [.ref pt], rfl, .ref pt, [], rfl, rfl, ?_⟩
  have hal : as.length = l.length := hR.len
  refine ⟨_, rfl, pt, rfl, ⟨_, .inl (.inl hpt)⟩, fun D hD => ?_⟩
  refine lc_tup (K := K) (a := pt) (xs := as.map V.ref) (fun i H2 => Same H H2 ∧ ∃ bs : List Addr, H2 D = some (.lst (bs.map V.ref)) ∧ bs.length ≤ i ∧ RepQ H2 bs ((l.take i).map fun p => (p.2, termT p.1 p.2)))
    ⟨same_upd hD, [], upd_same, Nat.le_refl _, trivial⟩ (fun i H2 _ hh => .inl (.inl (hh.1 _ _ hpt))) ?_ ?_
  · rintro i x H2 hi ⟨s2, bs, hD2, hbl, hQ⟩
    obtain ⟨a1, t1, rfl, ht1, ha1⟩ := (hR.same s2).get hi
    have hil : i < l.length := (List.getElem?_eq_some_iff.mp ht1).1
    obtain ⟨hv, hm⟩ := hF t1 (List.mem_of_getElem? ht1)
    refine ⟨a1, _, rfl, .inl (.inl ha1), rfl, .str t1.1, [.int t1.2], rfl, .int t1.2, [], rfl, rfl, rfl, ?_⟩
    refine ⟨_, rfl, _, rfl, _, rfl, t1.1, t1.2, rfl, hv, hm, (by show 2 ≤ sizeLine; decide), fun q1 nq => ?_⟩
    have hDq : D ≠ q1 := ne_of_none hD2 nq
    refine ⟨_, by rw [upd_ne hDq]; exact hD2, by rw [List.length_map]; exact bigLine (by omega), same_mut (s2.trans (same_upd nq)) hD, bs ++ [q1], ?_, ?_, ?_⟩
    · rw [upd_same, List.map_append]
      rfl
    · rw [List.length_append]
      show bs.length + 1 ≤ i + 1
      omega
    · rw [List.take_add_one, ht1, List.map_append]
      exact RepQ.offX (u := .lst (bs.map V.ref)) (by rw [upd_ne hDq]; exact hD2) (fun _ z => by cases z) (RepQ.app (t := (t1.2, termT t1.1 t1.2)) upd_same (hQ.same (same_upd nq)))
  rintro H2 ⟨s2, bs, hD2, hbl, hQ⟩
  rw [List.length_map, hal, List.take_length] at hQ
  rw [List.length_map, hal] at hbl
  dsimp only [gName]
  obtain ⟨h0, h1⟩ := ab_mid hc
  refine st_seq (if_drop (b := (!decide (V.int c = V.int 0)) || l.isEmpty) (fun H3 => Same H H3 ∧ ∃ bs : List Addr, H3 D = some (.lst (bs.map V.ref)) ∧ RepQ H3 bs (partsOf c l)) (ans_or2 (fun Q q => ⟨_, rfl, rfl, _, rfl, q⟩) (fun Q q => ⟨_, rfl, !(as.map V.ref).isEmpty, .inr (.inl ⟨_, .inl (.inl (s2 _ _ hpt)), rfl⟩), (by
      have e : (!!(as.map V.ref).isEmpty) = l.isEmpty := by
        rw [Bool.not_not]
        cases as with
        | nil =>
          cases l with
          | nil => rfl
          | cons _ _ => simp at hal
        | cons _ _ =>
          cases l with
          | nil => simp at hal
          | cons _ _ => rfl
      show Q (!!(as.map V.ref).isEmpty) H2
      rw [e]
      exact q)⟩)) (fun e Q' q' => ?_) (fun e => ⟨s2, bs, hD2, ?_⟩) ?_)
  · refine ⟨_, rfl, .inl ⟨rfl, _, SqL.of hD2⟩, _, rfl, _, rfl, c, rfl, ab c, rfl, log_ok h0 h1, (by show 2 ≤ sizeLine; decide), fun q1 nq => ?_⟩
    have hDq : D ≠ q1 := ne_of_none hD2 nq
    refine ⟨D, _, _, rfl, rfl, by rw [upd_ne hDq]; exact hD2, by rw [List.length_map]; exact bigLine (by omega), ?_⟩
    refine q' _ _ ⟨same_mut (s2.trans (same_upd nq)) hD, bs ++ [q1], ?_, ?_⟩
    · rw [upd_same, List.map_append]
      rfl
    · unfold partsOf
      rw [if_pos e]
      exact RepQ.offX (u := .lst (bs.map V.ref)) (by rw [upd_ne hDq]; exact hD2) (fun _ z => by cases z) (RepQ.app (t := (c, numT (ab c))) upd_same (hQ.same (same_upd nq)))
  · unfold partsOf
    rw [if_neg (by rw [e]; exact Bool.false_ne_true), List.append_nil]
    exact hQ
  rintro H3 ⟨s3, bs3, hD3, hQ3⟩
  have hpl : (partsOf c l).length ≤ 61 := by
    unfold partsOf
    rw [List.length_append, List.length_map]
    split
    · show l.length + 1 ≤ 61
      omega
    · show l.length + 0 ≤ 61
      omega
  have hps : ∀ p ∈ partsOf c l, p.2.length ≤ 1019 := by
    intro p hp
    unfold partsOf at hp
    rcases List.mem_append.mp hp with hp | hp
    · obtain ⟨y, hy, rfl⟩ := List.mem_map.mp hp
      obtain ⟨hv, hm⟩ := hF y hy
      have := termT_len (v := y.1) hm
      show (termT y.1 y.2).length ≤ 1019
      omega
    · split at hp
      · rw [List.mem_singleton.mp hp]
        have := numT_len h0 h1
        show (numT (ab c)).length ≤ 1019
        omega
      · cases hp
  have flen : ∀ i, (((partsOf c l).take i).foldl stepT (Str.ofString "")).length ≤ 70000 := by
    intro i
    have h1 := fold_len (m := 1019) ((partsOf c l).take i) (Str.ofString "") fun p hp => hps p (List.mem_of_mem_take hp)
    rw [show (Str.ofString "").length = 0 from by decide +kernel, List.length_take] at h1
    have h2 : min i (partsOf c l).length * (1019 + 3) ≤ 61 * (1019 + 3) := Nat.mul_le_mul_right _ (by omega)
    omega
  dsimp only [gName]
  refine st_seq (st_set (fun Q q => q) ?_)
  dsimp only [gName]
  have hbl3 : bs3.length = (partsOf c l).length := hQ3.len
  refine st_seq ⟨_, rfl, D, rfl, ⟨_, SqL.of hD3⟩, for_list (K := K) (a := D) (xs := bs3.map V.ref) (fun i σ H' => ∃ v5 v6 : Option V, σ = [some (.ref p), some (.ref D), some (.str (((partsOf c l).take i).foldl stepT (Str.ofString ""))), some (.int c), some (.ref pt), v5, v6, none, none] ∧ H' = H3)
    ⟨none, none, rfl, rfl⟩ (fun i σ H' _ ⟨_, _, _, e⟩ => by rw [e]; exact SqL.of hD3) ?_ ?_⟩
  · rintro i x σ H' hi ⟨v5, v6, rfl, rfl⟩
    obtain ⟨a1, t1, rfl, ht1, ha1⟩ := hQ3.get hi
    have hpt1 := hps t1 (List.mem_of_getElem? ht1)
    have et : (partsOf c l).take (i + 1) = (partsOf c l).take i ++ [t1] := by
      rw [List.take_add_one, ht1]
      rfl
    have hfl := flen i
    have fin : ∀ z, z = stepT (((partsOf c l).take i).foldl stepT (Str.ofString "")) t1 → ∃ v5 v6 : Option V, [some (.ref p), some (.ref D), some (.str z), some (.int c), some (.ref pt), some (.int t1.1), some (.str t1.2), none, none] = [some (.ref p), some (.ref D), some (.str (((partsOf c l).take (i + 1)).foldl stepT (Str.ofString ""))), some (.int c), some (.ref pt), v5, v6, none, none] ∧ H' = H' := by
      rintro _ rfl
      refine ⟨some (.int t1.1), some (.str t1.2), ?_, rfl⟩
      rw [et, List.foldl_append]
      rfl
    generalize ((partsOf c l).take i).foldl stepT (Str.ofString "") = tx at hfl fin ⊢
    refine ⟨a1, _, rfl, .inl (.inl ha1), rfl, .int t1.1, [.str t1.2], rfl, .str t1.2, [], rfl, rfl, ?_⟩
    refine st_ite (b := decide (V.str tx = V.str (Str.ofString ""))) (fun Q q => ⟨_, rfl, rfl, _, rfl, q⟩) (fun e => ?_) (fun e => ?_)
    · refine ⟨_, rfl, _, _, rfl, rfl, _, rfl, ite2 (fun e2 => ?_) (fun e2 => ?_)⟩
      · refine ⟨_, rfl, _, _, rfl, rfl, bigLe (by rw [show (Str.ofString "-").length = 1 from by decide +kernel]; omega), fin _ ?_⟩
        unfold stepT
        rw [if_pos e, if_pos e2]
      · refine ⟨_, rfl, fin _ ?_⟩
        unfold stepT
        rw [if_pos e, if_neg e2]
    · have en : ¬ decide (V.str tx = V.str (Str.ofString "")) = true := by rw [e]; exact Bool.false_ne_true
      refine ⟨_, rfl, _, rfl, _, _, rfl, rfl, _, rfl, ite2 (fun e2 => ?_) (fun e2 => ?_)⟩
      · refine ⟨_, _, rfl, rfl, bigLe (by rw [show (Str.ofString " - ").length = 3 from by decide +kernel]; omega), _, rfl, _, _, rfl, rfl, bigLe (by rw [Str.length_append, show (Str.ofString " - ").length = 3 from by decide +kernel]; omega), fin _ ?_⟩
        unfold stepT
        rw [if_neg en, if_pos e2]
      · refine ⟨_, _, rfl, rfl, bigLe (by rw [show (Str.ofString " + ").length = 3 from by decide +kernel]; omega), _, rfl, _, _, rfl, rfl, bigLe (by rw [Str.length_append, show (Str.ofString " + ").length = 3 from by decide +kernel]; omega), fin _ ?_⟩
        unfold stepT
        rw [if_neg en, if_neg e2]
  · rintro σ H' ⟨v5, v6, rfl, rfl⟩
    rw [List.length_map, hbl3, List.take_length]
    have := flen (partsOf c l).length
    rw [List.take_length] at this
    exact ⟨_, rfl, q _ s3 (by unfold sumT; omega)⟩
theorem ok_shown_params (T : Txt K mg a) : FnOk P w K mg base CX0 1 a.f_shown_params a.f_shown_params_d ["params"] spNever := ⟨fun _ _ _ _ h => h.elim, fun _ _ _ _ _ _ _ _ _ _ _ _ _ h => h.elim⟩
theorem ok_block_lines (T : Txt K mg a) : FnOk P w K mg base CX0 1 a.f_block_lines a.f_block_lines_d ["parts", "indent"] spNever := ⟨fun _ _ _ _ h => h.elim, fun _ _ _ _ _ _ _ _ _ _ _ _ _ h => h.elim⟩
def showT (ns : List Str) (c : Int) (l : List (Str × Int)) : Str := Txt.join (Str.ofString "") [Str.ofString "globals " ++ Txt.join (Str.ofString " ") ns ++ Str.ofString "\n", Str.ofString "keep " ++ sumT c l ++ Str.ofString "\n"]
def spShow : Sp := fun vs H Q _ => ∃ (p : Addr) (ns : List Str) (c : Int) (l : List (Str × Int)), vs = [.ref p] ∧ TreeAt H p ns c l ∧ ns ≠ [] ∧ (ns.map (·.length)).sum + ns.length ≤ 100000 ∧ (Txt.join (Str.ofString " ") ns).length ≤ 200000 ∧ l.length ≤ 60 ∧ Mid c ∧ Fine l ∧ ∀ H', Same H H' → Q (.str (showT ns c l)) H'
theorem sc_show : FnScope ["tree", "lines", "keep", "variables", "kinds", "keeps", "functions", "name", "params", "block", "line"] ["tree"] (defScope s_show) := ⟨rfl, rfl, rfl, by decide +kernel, rfl, by decide +kernel, by decide +kernel⟩
theorem ok_show (T : Txt K mg a) : FnOk P w K mg base CX0 3 a.f_show a.f_show_d ["tree"] spShow := by
  refine T.F_show.ok sc_show (fun vs H Q E h => ?_) (fun cdv A outer s H vs Q E hr h => ?_)
  · obtain ⟨p, ns, c, l, rfl, _⟩ := h
    rfl
  obtain ⟨p, ns, c, l, rfl, ⟨pvv, pk, ps, pf, pe, pt, as, h1, h2, h3, h4, h5, h6, h7, h8⟩, hne, hsz, hjl, hl, hc, hF, q⟩ := h
  refine ⟨_, (pss_cons (ps_asg (pv 0) (pg_tup (by rfl) (pgs_cons (pg_name (i := 3) sc_show.nd rfl (Or.inl rfl)) (pgs_cons (pg_name (i := 4) sc_show.nd rfl (Or.inl rfl)) (pgs_cons (pg_name (i := 5) sc_show.nd rfl (Or.inl rfl)) (pgs_cons (pg_name (i := 6) sc_show.nd rfl (Or.inl rfl)) pgs_nil))))))
    (pss_cons (ps_set (i := 1) sc_show.nd rfl (Or.inl rfl) (pe_lst pa_nil))
    (pss_cons (ps_if (pt_truth (pv 3) (by intro _; rfl))
      (pss_one (ps_expr (pe_bm PySem.F.plainAttrs_list PySem.F.slot_list_append PySem.F.type_list_append mt_append (pv 1) (pa_cons (pe_op op_add_str pe_str (pe_join pe_str (pv 3))) pa_nil))))
      pss_nil)
    (pss_cons (ps_if (pt_truth (pv 4) (by intro _; rfl))
      (pss_one (ps_expr (pe_bm PySem.F.plainAttrs_list PySem.F.slot_list_append PySem.F.type_list_append mt_append (pv 1) (pa_cons (pe_op op_add_str pe_str (pe_join pe_str (pv 4))) pa_nil))))
      pss_nil)
    (pss_cons (ps_for PassesOwn.never rfl (pi_tup (pv 5)) (pg_name (i := 2) sc_show.nd rfl (Or.inl rfl))
      (pss_one (ps_expr (pe_bm PySem.F.plainAttrs_list PySem.F.slot_list_append PySem.F.type_list_append mt_append (pv 1) (pa_cons (pe_op op_add_str pe_str (pe_call (ok_shown_sum T) (hr.mono (by decide)) (by rfl) T.g_shown_sum T.F_shown_sum.kp T.b_shown_sum .nil pass0 (pa_cons (pv 2) pa_nil))) pa_nil)))))
    (pss_cons (ps_for PassesOwn.never rfl (pi_tup (pv 6)) (pg_tup (by rfl) (pgs_cons (pg_name (i := 7) sc_show.nd rfl (Or.inl rfl)) (pgs_cons (pg_name (i := 8) sc_show.nd rfl (Or.inl rfl)) (pgs_cons (pg_name (i := 9) sc_show.nd rfl (Or.inl rfl)) pgs_nil))))
      (pss_one (ps_expr (pe_bm PySem.F.plainAttrs_list PySem.F.slot_list_extend PySem.F.type_list_extend mt_extend (pv 1) (pa_cons (pe_call (ok_block_lines T) (hr.mono (by decide)) (by rfl) T.g_block_lines T.F_block_lines.kp T.b_block_lines .nil pass0 (pa_cons (pe_lst (pa_cons (pe_tup (pa_cons (pe_op op_add_str (pe_op op_add_str pe_str (pv 7)) (pe_call (ok_shown_params T) (hr.mono (by decide)) (by rfl) T.g_shown_params T.F_shown_params.kp T.b_shown_params .nil pass0 (pa_cons (pv 8) pa_nil))) (pa_cons (pv 9) pa_nil))) pa_nil)) (pa_cons pe_str pa_nil))) pa_nil)))))
    (pss_one (ps_ret (pe_join pe_str (pe_lc (own := [("line", 10)]) (g := gName 10) (tt := tYes) (by rfl) sc_show.nd (pi_list (pv 1)) (blkOk_by (own := [("line", 10)]) (N := ["tree", "lines", "keep", "variables", "kinds", "keeps", "functions", "name", "params", "block", "line"]) (sc := defScope s_show) (by decide +kernel)) (fun _ _ _ _ _ => pg_name (i := 10) sc_show.nd rfl (Or.inl rfl)) (fun _ _ _ _ _ => pts_nil) (fun _ _ _ _ _ => (pe_op op_add_str (pv 10) pe_str)))))))))))), ?_⟩
  refine ⟨_, rfl, p, _, rfl, .inl (.inl h1), rfl, .ref pvv, _, rfl, .ref pk, _, rfl, .ref ps, _, rfl, .ref pf, [], rfl, rfl, ?_⟩
  refine ⟨Nat.zero_le _, fun D hD => ?_⟩
  have s1 := same_upd (o := .lst []) hD
  dsimp only [gName]
  have ene : (!(ns.map V.str).isEmpty) = true := by
    cases ns with
    | nil => exact absurd rfl hne
    | cons _ _ => rfl
  -- the globals
  refine st_seq (st_yes (fun Q q => ⟨_, rfl, true, .inr (.inl ⟨_, .inl (.inl (s1 _ _ h2)), ene.symm⟩), q⟩) ?_)
  have g8 : (Str.ofString "globals ").length = 8 := by decide +kernel
  refine ⟨_, rfl, .inl ⟨rfl, _, SqL.of upd_same⟩, ⟨_, rfl⟩, _, rfl, Str.ofString " ", pvv, ns, rfl, rfl, .inr (.inl (.inl (s1 _ _ h2))), (by rw [show (Str.ofString " ").length = 1 from by decide +kernel]; omega), _, _, rfl, rfl, bigLe (by rw [g8]; omega), D, _, _, rfl, rfl, upd_same, (by show 0 < sizeLine; decide), ?_⟩
  generalize hg : Str.ofString "globals " ++ Txt.join (Str.ofString " ") ns = gt
  have hgl : gt.length ≤ 200008 := by
    rw [← hg, Str.length_append, g8]
    omega
  have s2 : Same H (upd (upd H D (.lst [])) D (.lst ([] ++ [.str gt]))) := same_mut s1 hD
  have hD2 : (upd (upd H D (.lst [])) D (.lst ([] ++ [.str gt]))) D = some (.lst [.str gt]) := upd_same
  generalize (upd (upd H D (.lst [])) D (.lst ([] ++ [.str gt]))) = H2 at s2 hD2 ⊢
  dsimp only [gName]
  -- no kinds
  refine st_seq (st_no (fun Q q => ⟨_, rfl, false, .inr (.inl ⟨_, .inl (.inl (s2 _ _ h3)), rfl⟩), q⟩) ?_)
  dsimp only [gName, tNext]
  -- the keep
  refine st_seq ⟨_, rfl, ps, rfl, ⟨_, .inl (.inl (s2 _ _ h4))⟩, for_tup (K := K) (a := ps) (xs := [.ref pe]) (fun i σ H' => ∃ v2 : Option V, σ = [some (.ref p), some (.ref D), v2, some (.ref pvv), some (.ref pk), some (.ref ps), some (.ref pf), none, none, none, none] ∧ Same H H' ∧ (i = 0 → H' D = some (.lst [.str gt])) ∧ (i = 1 → H' D = some (.lst [.str gt, .str (Str.ofString "keep " ++ sumT c l)]) ∧ (sumT c l).length ≤ 100000))
    ⟨none, rfl, s2, fun _ => hD2, fun e => by cases e⟩ (fun i σ H' _ ⟨_, _, s', _⟩ => .inl (.inl (s' _ _ h4))) ?_ ?_⟩
  · rintro i x σ H' hi ⟨v2, rfl, s', e0, _⟩
    have ei : i = 0 := by
      have := (List.getElem?_eq_some_iff.mp hi).1
      simp at this
      exact this
    subst ei
    have ex : V.ref pe = x := Option.some.inj hi
    subst ex
    have hD' := e0 rfl
    have k5 : (Str.ofString "keep ").length = 5 := by decide +kernel
    refine ⟨_, rfl, .inl ⟨rfl, _, SqL.of hD'⟩, _, rfl, pe, pt, as, c, l, rfl, s' _ _ h6, s' _ _ h7, h8.same s', hl, hc, hF, fun H3 s3 hsl => ⟨_, _, rfl, rfl, bigLe (by rw [k5]; omega), D, _, _, rfl, rfl, s3 _ _ hD', (by show 1 < sizeLine; decide), ?_⟩⟩
    exact ⟨some (.ref pe), rfl, same_mut (s'.trans s3) hD, (fun e => by cases e), fun _ => ⟨upd_same, hsl⟩⟩
  rintro σ H3 ⟨v2, rfl, s3, _, e1⟩
  obtain ⟨hD3, hsl⟩ := e1 rfl
  -- no functions
  refine st_seq ⟨_, rfl, pf, rfl, ⟨_, .inl (.inl (s3 _ _ h5))⟩, for_tup (K := K) (a := pf) (xs := []) (fun i σ H' => σ = [some (.ref p), some (.ref D), v2, some (.ref pvv), some (.ref pk), some (.ref ps), some (.ref pf), none, none, none, none] ∧ H' = H3)
    ⟨rfl, rfl⟩ (fun i σ H' _ ⟨_, e⟩ => by rw [e]; exact .inl (.inl (s3 _ _ h5))) (fun i x σ H' hi _ => by simp at hi) ?_⟩
  rintro σ H3 ⟨rfl, rfl⟩
  -- the lines
  have n1 : (Str.ofString "\n").length = 1 := by decide +kernel
  have k5 : (Str.ofString "keep ").length = 5 := by decide +kernel
  generalize hk : Str.ofString "keep " ++ sumT c l = kt at hD3
  have hkl : kt.length ≤ 100005 := by
    rw [← hk, Str.length_append, k5]
    omega
  refine ⟨⟨_, rfl⟩, _, rfl, D, rfl, ⟨_, SqL.of hD3⟩, fun M hM => ?_⟩
  have hDM : D ≠ M := ne_of_none hD3 hM
  refine lc_list (K := K) (a := D) (xs := [.str gt, .str kt]) (fun i H' => Same H3 H' ∧ H' D = some (.lst [.str gt, .str kt]) ∧ H' M = some (.lst (([.str (gt ++ Str.ofString "\n"), .str (kt ++ Str.ofString "\n")] : List V).take i)))
    ⟨same_upd hM, by rw [upd_ne hDM]; exact hD3, upd_same⟩ (fun i H' _ hh => SqL.of hh.2.1) ?_ ?_
  · rintro i x H' hi ⟨s4, hD4, hM4⟩
    match i, hi with
    | 0, hi =>
      have ex : V.str gt = x := Option.some.inj hi
      subst ex
      exact ⟨rfl, _, rfl, _, _, rfl, rfl, bigLe (by rw [n1]; omega), _, hM4, (by show 0 < sizeLine; decide), same_mut s4 hM, by rw [upd_ne hDM]; exact hD4, upd_same⟩
    | 1, hi =>
      have ex : V.str kt = x := Option.some.inj hi
      subst ex
      exact ⟨rfl, _, rfl, _, _, rfl, rfl, bigLe (by rw [n1]; omega), _, hM4, (by show 1 < sizeLine; decide), same_mut s4 hM, by rw [upd_ne hDM]; exact hD4, upd_same⟩
    | i + 2, hi => simp at hi
  · rintro H' ⟨s4, hD4, hM4⟩
    refine ⟨Str.ofString "", M, [gt ++ Str.ofString "\n", kt ++ Str.ofString "\n"], rfl, rfl, .inl (SqL.of hM4), ?_, ?_⟩
    · simp only [List.map_cons, List.map_nil, List.sum_cons, List.sum_nil, List.length_cons, List.length_nil]
      rw [Str.length_append, Str.length_append, n1, show (Str.ofString "").length = 0 from by decide +kernel]
      omega
    · have := q H' (s3.trans s4)
      unfold showT at this
      rw [hg, hk] at this
      exact this
end
end K1
namespace K1
open PySem PySem.Spec PyProof.Rows L2 TL
/-- a pool at p, its cells at l, at most n draws so far -/
structure PoolAt (H : Hp) (p l : Addr) (n : Int) : Prop where
  ne : p ≠ l
  ex : ∃ (cs : List Int) (ix cnt seed ph : Int), H p = some (.lst [.ref l, .int ix, .int cnt, .int seed, .int ph, .int 30]) ∧ H l = some (.lst (cs.map V.int)) ∧
    0 ≤ ix ∧ 0 ≤ cnt ∧ cnt ≤ n ∧ 0 ≤ seed ∧ seed < 2147483647 ∧ cs.length ≤ 63
theorem PoolAt.keep {H H' : Hp} {p l : Addr} {n : Int} (P : PoolAt H p l n) (hp : H' p = H p) (hl : H' l = H l) : PoolAt H' p l n := by
  obtain ⟨ne, cs, ix, cnt, seed, ph, h1, h2, r⟩ := P
  exact ⟨ne, cs, ix, cnt, seed, ph, by rw [hp]; exact h1, by rw [hl]; exact h2, r⟩
theorem PoolAt.same {H H' : Hp} {p l : Addr} {n : Int} (P : PoolAt H p l n) (s : Same H H') : PoolAt H' p l n := by
  obtain ⟨ne, cs, ix, cnt, seed, ph, h1, h2, r⟩ := P
  exact ⟨ne, cs, ix, cnt, seed, ph, s _ _ h1, s _ _ h2, r⟩
def spPool (K : PySem.W.Frag) : Sp := fun vs H Q _ => ∃ (a : Addr) (ns : List Int), vs = [.ref a] ∧ SqL K H a (ns.map V.int) ∧ ns.length ≤ 63 ∧
  ∀ H' p l, Same H H' → H p = none → H l = none → PoolAt H' p l 0 → Q (.ref p) H'
def spMixed : Sp := fun vs H Q _ => ∃ (a c m : Int), vs = [.int a, .int c, .int m] ∧ 0 ≤ a ∧ a < 2147483647 ∧ 0 ≤ c ∧ c ≤ 1099511627776 ∧ 0 < m ∧
  ∀ r : Int, 0 ≤ r → r < m → Q (.int r) H
def spDraw : Sp := fun vs H Q _ => ∃ (p l : Addr) (n m : Int), vs = [.ref p, .int m] ∧ PoolAt H p l n ∧ n < 1099511627776 ∧ 0 < m ∧ m.natAbs.log2 < 9000 ∧
  ∀ (r : Int) (H' : Hp), 0 ≤ r → r < m → PoolAt H' p l (n + 1) → (∀ b, b ≠ p → b ≠ l → H' b = H b) → Q (.int r) H'
theorem ixN_at {n j : Nat} (hj : j < n) : ixN n (j : Int) = some j := by
  unfold ixN
  rw [if_pos (by omega), if_pos (by omega)]
  exact congrArg some (by omega)
section
variable {P : Program} {w : World} {K : PySem.W.Frag} {mg : Str → Option Value} {base : Heap} {a : Ads}
theorem sc__law_mixed : FnScope ["_law_number", "_law_count", "_law_many"] ["_law_number", "_law_count", "_law_many"] (defScope s__law_mixed) := ⟨rfl, rfl, rfl, by decide +kernel, rfl, by decide +kernel, by decide +kernel⟩
theorem ok__law_mixed (T : Txt K mg a) : FnOk P w K mg base CX0 1 a.f__law_mixed a.f__law_mixed_d ["_law_number", "_law_count", "_law_many"] spMixed := by
  refine T.F__law_mixed.ok sc__law_mixed (fun vs H Q E h => ?_) (fun cdv A outer s H vs Q E hr h => ?_)
  · obtain ⟨x, c, m, rfl, _⟩ := h
    rfl
  obtain ⟨x, c, m, rfl, ha0, ha1, hc0, hc1, hm, q⟩ := h
  refine ⟨_, (pss_one (ps_ret (pe_op op_mod (pe_op op_fdiv (pe_callTy call_int1 (by rfl) T.int (by decide +kernel) (pa_cons (pe_op op_mod (pe_op op_pow (pe_callTy call_int1 (by rfl) T.int (by decide +kernel) (pa_cons (pe_op op_add (pv 0) (pe_op op_mul pe_int (pv 1))) pa_nil)) pe_int) pe_int) pa_nil)) pe_int) (pv 2)))), ?_⟩
  refine ⟨_, rfl, _, rfl, _, _, rfl, rfl, .inl ⟨by decide, by decide⟩, _, _, rfl, rfl, .inl ⟨_, rfl, ?_⟩⟩
  refine ⟨_, _, rfl, rfl, ⟨by decide, by decide, by omega⟩, _, _, rfl, rfl, (by show (0 : Int) < 2147483647; decide), .inl ⟨_, rfl, ?_⟩⟩
  refine ⟨_, _, rfl, rfl, ⟨by decide, by decide⟩, _, rfl, _, _, rfl, rfl, hm, ?_⟩
  exact q _ (Int.emod_nonneg _ (by omega)) (Int.emod_lt_of_pos _ hm)
theorem sc__law_pool : FnScope ["_law_script", "_law_cells", "_law_seed", "_law_cell"] ["_law_script"] (defScope s__law_pool) := ⟨rfl, rfl, rfl, by decide +kernel, rfl, by decide +kernel, by decide +kernel⟩
theorem ok__law_pool (T : Txt K mg a) : FnOk P w K mg base CX0 1 a.f__law_pool a.f__law_pool_d ["_law_script"] (spPool K) := by
  refine T.F__law_pool.ok sc__law_pool (fun vs H Q E h => ?_) (fun cdv A outer s H vs Q E hr h => ?_)
  · obtain ⟨a, ns, rfl, _⟩ := h
    rfl
  obtain ⟨a, ns, rfl, hS, hlen, q⟩ := h
  refine ⟨_, (pss_cons (ps_setLc (i := 1) (own := [("_law_cell", 3)]) (g := gName 3) (tt := tYes) (by rfl) sc__law_pool.nd rfl rfl (sw_true rfl rfl rfl (by decide +kernel)) (pi_list (pe_slice sl_list (pv 0) po_none (po_some pe_int))) (blkOk_by (own := [("_law_cell", 3)]) (N := ["_law_script", "_law_cells", "_law_seed", "_law_cell"]) (sc := defScope s__law_pool) (by decide +kernel)) (fun _ _ _ _ _ => pg_name (i := 3) sc__law_pool.nd rfl (Or.inl rfl)) (fun _ _ _ _ _ => pts_nil) (fun _ _ _ _ _ => (pe_callTy call_int1 (by rfl) T.int (by decide +kernel) (pa_cons (pv 3) pa_nil))))
    (pss_cons (ps_set (i := 2) sc__law_pool.nd rfl (Or.inl rfl) pe_int)
    (pss_cons (ps_for PassesOwn.never rfl (pi_list (pv 1)) (pg_name (i := 3) sc__law_pool.nd rfl (Or.inl rfl))
      (pss_one (ps_set (i := 2) sc__law_pool.nd rfl (Or.inl rfl) (pe_op op_mod (pe_callTy call_int1 (by rfl) T.int (by decide +kernel) (pa_cons (pe_op op_add (pe_op op_mul (pv 2) pe_int) (pv 3)) pa_nil)) pe_int))))
    (pss_one (ps_ret (pe_lst (pa_cons (pv 1) (pa_cons pe_int (pa_cons pe_int (pa_cons (pv 2) (pa_cons pe_int (pa_cons pe_int pa_nil)))))))))))), ?_⟩
  have ecut : cutV (ns.map V.int) none (some 63) = ns.map V.int := by
    unfold cutV
    rw [show HT.sIx (ns.map V.int).length (ns.map V.int).length (some 63) = min 63 (ns.map V.int).length from HT.sIx_nat _ _ 63, HT.sIx_none, List.length_map]
    show (ns.map V.int).take (min 63 ns.length - 0) = ns.map V.int
    exact List.take_of_length_le (by rw [List.length_map]; omega)
  refine ⟨_, rfl, 63, rfl, a, _, rfl, hS, fun c hc => ?_⟩
  have s1 : Same H (upd H c (.lst (cutV (ns.map V.int) none (some 63)))) := same_upd hc
  refine ⟨c, rfl, ⟨_, SqL.of upd_same⟩, fun D hD => ?_⟩
  have hcD : c ≠ D := ne_of_none upd_same hD
  refine lc_list (K := K) (a := c) (xs := ns.map V.int) (fun i H' => Same H H' ∧ H' c = some (.lst (ns.map V.int)) ∧ H' D = some (.lst ((ns.take i).map V.int))) ⟨s1.trans (same_upd hD), ?_, upd_same⟩ (fun i H' _ hh => SqL.of hh.2.1) ?_ ?_
  · rw [upd_ne hcD, upd_same, ecut]
  · rintro i x H' hi ⟨s2, hc2, hD2⟩
    obtain ⟨z, hz, rfl⟩ : ∃ z, ns[i]? = some z ∧ x = V.int z := by
      rw [List.getElem?_map] at hi
      cases e : ns[i]? with
      | none => rw [e] at hi; cases hi
      | some z => rw [e] at hi; exact ⟨z, rfl, (Option.some.inj hi).symm⟩
    have hil : i < ns.length := (List.getElem?_eq_some_iff.mp hz).1
    refine ⟨rfl, _, rfl, .inl ⟨_, rfl, _, hD2, ?_, ?_, ?_, ?_⟩⟩
    · rw [List.length_map, List.length_take]
      exact Nat.lt_of_le_of_lt (Nat.min_le_left _ _) (small1000 (by omega))
    · intro b o e
      rw [upd_ne (ne_of_none e (s1.free hD))]
      exact s2 _ _ e
    · rw [upd_ne hcD]; exact hc2
    · rw [upd_same, List.take_add_one, hz, List.map_append]; rfl
  · rintro H1 ⟨s2, hc2, hD2⟩
    rw [List.length_map, List.take_length] at hD2
    refine ⟨_, rfl, D, rfl, ⟨_, SqL.of hD2⟩, for_list (K := K) (a := D) (xs := ns.map V.int) (fun i σ H' => ∃ (v : Option V) (sd : Int), σ = [some (.ref a), some (.ref D), some (.int sd), v] ∧ H' = H1 ∧ 0 ≤ sd ∧ sd < 2147483647)
      ⟨none, 11, rfl, rfl, by decide, by decide⟩ (fun i σ H' _ ⟨_, _, _, e, _⟩ => by rw [e]; exact SqL.of hD2) ?_ ?_⟩
    · rintro i x σ H' hi ⟨v, sd, rfl, rfl, h0, h1⟩
      obtain ⟨z, hz, rfl⟩ : ∃ z, ns[i]? = some z ∧ x = V.int z := by
        rw [List.getElem?_map] at hi
        cases e : ns[i]? with
        | none => rw [e] at hi; cases hi
        | some z => rw [e] at hi; exact ⟨z, rfl, (Option.some.inj hi).symm⟩
      refine ⟨_, rfl, _, _, rfl, rfl, .inl ⟨by omega, by omega⟩, _, rfl, _, _, rfl, rfl, .inl ⟨_, rfl, _, _, rfl, rfl, (by show (0 : Int) < 2147483647; decide), ?_⟩⟩
      exact ⟨_, _, rfl, rfl, Int.emod_nonneg _ (by decide), Int.emod_lt_of_pos _ (by decide)⟩
    · rintro σ H' ⟨v, sd, rfl, rfl, h0, h1⟩
      refine ⟨_, rfl, _, rfl, (by show 6 ≤ sizeLine; decide), fun p hp => ?_⟩
      have hpD : D ≠ p := ne_of_none hD2 hp
      refine q _ p D (s2.trans (same_upd hp)) (s2.free hp) (s1.free hD) ⟨fun e => hpD e.symm, ns, 0, 0, sd, 0, upd_same, by rw [upd_ne hpD]; exact hD2, by decide, by decide, by decide, h0, h1, hlen⟩
theorem sc__law_draw : FnScope ["_law_pool_here", "_law_many", "_law_at", "_law_cells", "_law_cell"] ["_law_pool_here", "_law_many"] (defScope s__law_draw) := ⟨rfl, rfl, rfl, by decide +kernel, rfl, by decide +kernel, by decide +kernel⟩
theorem ok__law_draw (T : Txt K mg a) : FnOk P w K mg base CX0 2 a.f__law_draw a.f__law_draw_d ["_law_pool_here", "_law_many"] spDraw := by
  refine T.F__law_draw.ok sc__law_draw (fun vs H Q E h => ?_) (fun cdv A outer s H vs Q E hr h => ?_)
  · obtain ⟨p, l, n, m, rfl, _⟩ := h
    rfl
  obtain ⟨p, l, n, m, rfl, ⟨ne, cs, ix, cnt, seed, ph, h1, h2, hix, hc0, hcn, hs0, hs1, hlen⟩, hn, hm, hml, q⟩ := h
  refine ⟨_, (pss_cons (ps_asg (pe_op op_add (pe_ix ix_list (pv 0) pe_int (fun _ _ => rfl)) pe_int) (pg_sub (pv 0) pe_int set_list))
    (pss_cons (ps_if (pt_cmpR op_ge (pe_ix ix_list (pv 0) pe_int (fun _ _ => rfl)) (pe_callB call_len_seq (by rfl) T.len PySem.boot_len (pa_cons (pe_ix ix_list (pv 0) pe_int (fun _ _ => rfl)) pa_nil)) (nomark _))
      (pss_one (ps_ret (pe_call (ok__law_mixed T) (hr.mono (by decide)) (by rfl) T.g__law_mixed T.F__law_mixed.kp T.b__law_mixed .nil pass0 (pa_cons (pe_ix ix_list (pv 0) pe_int (fun _ _ => rfl)) (pa_cons (pe_ix ix_list (pv 0) pe_int (fun _ _ => rfl)) (pa_cons (pv 1) pa_nil))))))
      pss_nil)
    (pss_cons (ps_set (i := 2) sc__law_draw.nd rfl (Or.inl rfl) (pe_ix ix_list (pv 0) pe_int (fun _ _ => rfl)))
    (pss_cons (ps_set (i := 3) sc__law_draw.nd rfl (Or.inl rfl) (pe_ix ix_list (pv 0) pe_int (fun _ _ => rfl)))
    (pss_cons (ps_set (i := 4) sc__law_draw.nd rfl (Or.inl rfl) (pe_ix ix_list (pv 3) (pv 2) (fun _ _ => rfl)))
    (pss_cons (ps_if (PW.pt (pw_and (pt_cmpR op_ne (pe_ix ix_list (pv 0) pe_int (fun _ _ => rfl)) pe_int (nomark _)) (pw_and1 (pt_cmpR op_lt (pv 4) (pe_op op_pow pe_int pe_int) (nomark _)))))
      (pss_cons (ps_asg (pe_op op_add (pe_ix ix_list (pv 0) pe_int (fun _ _ => rfl)) pe_int) (pg_sub (pv 0) pe_int set_list))
      (pss_cons (ps_if (pt_cmpR op_eq (pe_ix ix_list (pv 0) pe_int (fun _ _ => rfl)) pe_int (nomark _))
        (pss_cons (ps_asg (pe_op op_add (pv 2) pe_int) (pg_sub (pv 0) pe_int set_list))
        (pss_one (ps_asg pe_int (pg_sub (pv 0) pe_int set_list))))
        pss_nil)
      (pss_one (ps_ret (pe_call (ok__law_mixed T) (hr.mono (by decide)) (by rfl) T.g__law_mixed T.F__law_mixed.kp T.b__law_mixed .nil pass0 (pa_cons (pe_op op_mod (pe_callTy call_int1 (by rfl) T.int (by decide +kernel) (pa_cons (pv 4) pa_nil)) pe_int) (pa_cons (pe_ix ix_list (pv 0) pe_int (fun _ _ => rfl)) (pa_cons (pv 1) pa_nil))))))))
      pss_nil)
    (pss_cons (ps_asg pe_int (pg_sub (pv 0) pe_int set_list))
    (pss_cons (ps_asg (pe_op op_fdivW (pe_callTy call_int1 (by rfl) T.int (by decide +kernel) (pa_cons (pv 4) pa_nil)) (pv 1)) (pg_sub (pv 3) (pv 2) set_list))
    (pss_cons (ps_if (pt_cmpR op_eq (pe_ix ix_list (pv 3) (pv 2) (fun _ _ => rfl)) pe_int (nomark _))
      (pss_cons (ps_asg (pe_op op_add (pv 2) pe_int) (pg_sub (pv 0) pe_int set_list))
      (pss_one (ps_asg pe_int (pg_sub (pv 0) pe_int set_list))))
      pss_nil)
    (pss_one (ps_ret (pe_op op_mod (pe_callTy call_int1 (by rfl) T.int (by decide +kernel) (pa_cons (pv 4) pa_nil)) (pv 1))))))))))))), ?_⟩
  refine ⟨_, rfl, p, _, _, _, rfl, rfl, SqL.of h1, atI_nat (j := 2) rfl, _, _, rfl, rfl, _, rfl, p, _, _, 2, rfl, rfl, h1, rfl, ?_⟩
  have h1a : (upd H p (.lst [.ref l, .int ix, .int (cnt + 1), .int seed, .int ph, .int 30])) p = some (.lst [.ref l, .int ix, .int (cnt + 1), .int seed, .int ph, .int 30]) := upd_same
  have h2a : (upd H p (.lst [.ref l, .int ix, .int (cnt + 1), .int seed, .int ph, .int 30])) l = some (.lst (cs.map V.int)) := by rw [upd_ne ne.symm]; exact h2
  have hfa : ∀ b, b ≠ p → b ≠ l → (upd H p (.lst [.ref l, .int ix, .int (cnt + 1), .int seed, .int ph, .int 30])) b = H b := fun b hb _ => upd_ne hb
  show tSeq _ _ _ _ (upd H p (.lst [.ref l, .int ix, .int (cnt + 1), .int seed, .int ph, .int 30]))
  generalize (upd H p (.lst [.ref l, .int ix, .int (cnt + 1), .int seed, .int ph, .int 30])) = H1 at h1a h2a hfa ⊢
  refine ⟨_, rfl, p, _, _, _, rfl, rfl, SqL.of h1a, atI_nat (j := 1) rfl, _, rfl, p, _, _, _, rfl, rfl, SqL.of h1a, atI_nat (j := 0) rfl, l, _, rfl, .inl (SqL.of h2a), _, _, rfl, rfl, _, rfl, ite2 (fun e => ?_) (fun e => ?_)⟩
  · refine ⟨_, rfl, p, _, _, _, rfl, rfl, SqL.of h1a, atI_nat (j := 3) rfl, _, rfl, p, _, _, _, rfl, rfl, SqL.of h1a, atI_nat (j := 2) rfl, _, rfl, seed, cnt + 1, m, rfl, hs0, hs1, by omega, by omega, hm, fun r hr0 hr1 => ?_⟩
    exact q r _ hr0 hr1 ⟨ne, cs, ix, cnt + 1, seed, ph, h1a, h2a, hix, by omega, by omega, hs0, hs1, hlen⟩ hfa
  · have hlt : ix < (cs.length : Int) := by
      have e' := of_decide_eq_false (Bool.eq_false_iff.mpr e)
      rw [List.length_map] at e'
      omega
    obtain ⟨j, rfl⟩ : ∃ j : Nat, ix = (j : Int) := ⟨ix.toNat, by omega⟩
    have hj : j < cs.length := by omega
    have hz : (cs.map V.int)[j]? = some (.int cs[j]) := by rw [List.getElem?_map, List.getElem?_eq_getElem hj]; rfl
    generalize cs[j] = z at hz
    refine ⟨_, rfl, p, _, _, _, rfl, rfl, SqL.of h1a, atI_nat (j := 1) rfl, ?_⟩
    refine ⟨_, rfl, p, _, _, _, rfl, rfl, SqL.of h1a, atI_nat (j := 0) rfl, ?_⟩
    refine ⟨_, rfl, _, rfl, l, _, _, _, rfl, rfl, SqL.of h2a, atI_nat (j := j) hz, ?_⟩
    dsimp only [gName]
    refine st_seq (st_ite (b := (!decide (V.int ph = V.int 2)) && decide (z < 10 ^ (18 : Int).toNat)) (ans_and2 (fun Q q => ⟨_, rfl, p, _, _, _, rfl, rfl, SqL.of h1a, atI_nat (j := 4) rfl, rfl, _, rfl, q⟩) (fun Q q => ⟨_, rfl, _, _, rfl, rfl, ⟨by decide, by decide, by decide⟩, _, _, rfl, rfl, _, rfl, q⟩)) (fun e1 => ?_) (fun e1 => ?_))
    · -- a small cell: the phase grows
      refine ⟨_, rfl, p, _, _, _, rfl, rfl, SqL.of h1a, atI_nat (j := 4) rfl, _, _, rfl, rfl, _, rfl, p, _, _, 4, rfl, rfl, h1a, rfl, ?_⟩
      dsimp only [gName]
      refine st_seq (st_ite (b := decide (V.int (ph + 1) = V.int 2)) (fun Q q => ⟨_, rfl, p, _, _, _, rfl, rfl, SqL.of upd_same, atI_nat (j := 4) rfl, rfl, _, rfl, q⟩) (fun e2 => ?_) (fun e2 => ?_))
      · refine ⟨_, rfl, _, _, rfl, rfl, _, rfl, p, _, _, 1, rfl, rfl, upd_same, rfl, _, rfl, p, _, _, 4, rfl, rfl, upd_same, rfl, ?_⟩
        refine ⟨_, rfl, .inl ⟨_, rfl, _, _, rfl, rfl, (by show (0 : Int) < 2147483647; decide), _, rfl, p, _, _, _, rfl, rfl, SqL.of upd_same, atI_nat (j := 2) rfl, _, rfl, _, cnt + 1, m, rfl, Int.emod_nonneg _ (by decide), Int.emod_lt_of_pos _ (by decide), by omega, by omega, hm, fun r hr0 hr1 => ?_⟩⟩
        exact q r _ hr0 hr1 ⟨ne, cs, (j : Int) + 1, cnt + 1, seed, 0, upd_same, by rw [upd_ne ne.symm, upd_ne ne.symm, upd_ne ne.symm]; exact h2a, by omega, by omega, by omega, hs0, hs1, hlen⟩ fun b hb hb2 => by rw [upd_ne hb, upd_ne hb, upd_ne hb]; exact hfa b hb hb2
      · refine ⟨_, rfl, .inl ⟨_, rfl, _, _, rfl, rfl, (by show (0 : Int) < 2147483647; decide), _, rfl, p, _, _, _, rfl, rfl, SqL.of upd_same, atI_nat (j := 2) rfl, _, rfl, _, cnt + 1, m, rfl, Int.emod_nonneg _ (by decide), Int.emod_lt_of_pos _ (by decide), by omega, by omega, hm, fun r hr0 hr1 => ?_⟩⟩
        exact q r _ hr0 hr1 ⟨ne, cs, (j : Int), cnt + 1, seed, ph + 1, upd_same, by rw [upd_ne ne.symm]; exact h2a, by omega, by omega, by omega, hs0, hs1, hlen⟩ fun b hb hb2 => by rw [upd_ne hb]; exact hfa b hb hb2
    · -- a great one: divided
      refine ⟨_, rfl, p, _, _, 4, rfl, rfl, h1a, rfl, ?_⟩
      refine ⟨_, rfl, .inl ⟨_, rfl, _, rfl, _, _, rfl, rfl, ⟨hm, hml⟩, _, rfl, _, rfl, l, _, _, j, rfl, rfl, by rw [upd_ne ne.symm]; exact h2a, ixN_at (by rw [List.length_map]; exact hj), ?_⟩⟩
      have h1b : ∀ x, (upd (upd H1 p (.lst [.ref l, .int j, .int (cnt + 1), .int seed, .int 2, .int 30])) l x) p = some (.lst [.ref l, .int j, .int (cnt + 1), .int seed, .int 2, .int 30]) := fun x => by rw [upd_ne ne]; exact upd_same
      have e3 : (cs.map V.int).set j (.int (z / m)) = (cs.set j (z / m)).map V.int := by rw [List.map_set]
      have hl2 : (cs.set j (z / m)).length ≤ 63 := by rw [List.length_set]; exact hlen
      have hz2 : ((cs.map V.int).set j (.int (z / m)))[j]? = some (.int (z / m)) := by rw [List.getElem?_set_self]; rw [List.length_map]; exact hj
      dsimp only [gName]
      refine st_seq (st_ite (b := decide (V.int (z / m) = V.int 0)) (fun Q q => ⟨_, rfl, _, rfl, l, _, _, _, rfl, rfl, SqL.of upd_same, atI_nat (j := j) hz2, rfl, _, rfl, q⟩) (fun e2 => ?_) (fun e2 => ?_))
      · refine ⟨_, rfl, _, _, rfl, rfl, _, rfl, p, _, _, 1, rfl, rfl, h1b _, rfl, _, rfl, p, _, _, 4, rfl, rfl, upd_same, rfl, ?_⟩
        refine ⟨_, rfl, .inl ⟨_, rfl, _, rfl, _, _, rfl, rfl, hm, ?_⟩⟩
        exact q _ _ (Int.emod_nonneg _ (by omega)) (Int.emod_lt_of_pos _ hm) ⟨ne, _, (j : Int) + 1, cnt + 1, seed, 0, upd_same, by rw [upd_ne ne.symm, upd_ne ne.symm, upd_same, e3], by omega, by omega, by omega, hs0, hs1, hl2⟩ fun b hb hb2 => by rw [upd_ne hb, upd_ne hb, upd_ne hb2, upd_ne hb]; exact hfa b hb hb2
      · refine ⟨_, rfl, .inl ⟨_, rfl, _, rfl, _, _, rfl, rfl, hm, ?_⟩⟩
        exact q _ _ (Int.emod_nonneg _ (by omega)) (Int.emod_lt_of_pos _ hm) ⟨ne, _, (j : Int), cnt + 1, seed, 2, h1b _, by rw [upd_same, e3], by omega, by omega, by omega, hs0, hs1, hl2⟩ fun b hb hb2 => by rw [upd_ne hb2, upd_ne hb]; exact hfa b hb hb2
end
end K1
namespace K1
open PySem PySem.Spec PyProof.Rows L2 TL
/-! ### a text, so many times -/
def rRepS : R2 := fun x y H Q => ∃ (z : Str) (n : Int), x = .str z ∧ y = .int n ∧ MulOk z n ∧ Q (.str (Txt.mul z n)) H
theorem op_repS {X : Cx} : OpR X (binaryOp .Mult) rRepS := by
  intro pins s σ H x y v u Q I rx ry h
  obtain ⟨z, n, rfl, rfl, hok, q⟩ := h
  obtain ⟨t, rfl⟩ := rx
  obtain ⟨t', rfl⟩ := ry
  exact SB.mul hok fun t' k => ⟨.str _, H, I.tok _, ⟨_, rfl⟩, q⟩
/-! ### the law's names -/
theorem PoolAt.mono {H : Hp} {p l : Addr} {n m : Int} (P : PoolAt H p l n) (h : n ≤ m) : PoolAt H p l m := by
  obtain ⟨ne, cs, ix, cnt, seed, ph, h1, h2, a, b, c, d⟩ := P
  exact ⟨ne, cs, ix, cnt, seed, ph, h1, h2, a, b, by omega, d⟩
theorem PoolAt.off {H : Hp} {p l k : Addr} {n : Int} (P : PoolAt H p l n) (h : H k = none) : k ≠ p ∧ k ≠ l := by
  obtain ⟨_, cs, ix, cnt, seed, ph, e1, e2, _⟩ := P
  refine ⟨fun e => ?_, fun e => ?_⟩
  · rw [e, e1] at h
    cases h
  · rw [e, e2] at h
    cases h
/-- all but the pool stands -/
def Keep (p l : Addr) (H H' : Hp) : Prop := ∀ b x, H b = some x → b ≠ p → b ≠ l → H' b = some x
theorem Keep.refl (p l : Addr) (H : Hp) : Keep p l H H := fun _ _ h _ _ => h
theorem Keep.trans {p l : Addr} {H H1 H2 : Hp} (a : Keep p l H H1) (b : Keep p l H1 H2) : Keep p l H H2 := fun c x h n m => b c x (a c x h n m) n m
theorem Keep.of {p l : Addr} {H H1 : Hp} (s : Same H H1) : Keep p l H H1 := fun c x h _ _ => s c x h
theorem Keep.draw {p l : Addr} {H H1 : Hp} (f : ∀ b, b ≠ p → b ≠ l → H1 b = H b) : Keep p l H H1 := fun b x e n m => by
  rw [f b n m]
  exact e
theorem Keep.mut {p l : Addr} {H H1 : Hp} {q : Addr} {u : HO} (s : Keep p l H H1) (h : H q = none) : Keep p l H (upd H1 q u) := fun b x e n m => by
  rw [upd_ne (ne_of_none e h)]
  exact s _ _ e n m
theorem Keep.free {p l : Addr} {H H' : Hp} (e : Keep p l H H') {q : Addr} (h : H' q = none) (n : q ≠ p) (m : q ≠ l) : H q = none := by
  cases r : H q with
  | none => rfl
  | some x =>
    rw [e q x r n m] at h
    cases h
theorem atI_ex {α : Type} {xs : List α} {r : Int} (h0 : 0 ≤ r) (h1 : r < xs.length) : ∃ c, atI xs r = some c ∧ c ∈ xs := by
  obtain ⟨j, rfl⟩ : ∃ j : Nat, r = (j : Int) := ⟨r.toNat, by omega⟩
  have hj : j < xs.length := by omega
  exact ⟨xs[j], atI_nat (List.getElem?_eq_getElem hj), List.getElem_mem hj⟩
theorem log_small {m : Int} (h0 : 0 < m) (h : m < 1152921504606846976) : m.natAbs.log2 < 9000 := by
  have e : (2:Nat) ^ 60 = 1152921504606846976 := by decide
  have : m.natAbs.log2 < 60 := (Nat.log2_lt (by omega)).mpr (by rw [e]; omega)
  omega
def nameL (c : Nat) (s : Int) (k : Nat) : Str := (⟨#[c]⟩ : Str) ++ numT ((7 * ((0 : Int) + (k : Int)) + s) % 16)
def namesL (c : Nat) (s : Int) : List Str := (List.range 16).map (nameL c s)
def spNames : Sp := fun vs H Q _ => ∃ (p l : Addr) (n : Int), vs = [.ref p] ∧ PoolAt H p l n ∧ n < 1099511627000 ∧
  ∀ (H' : Hp) (q : Addr) (c : Nat) (s : Int), PoolAt H' p l (n + 2) → Keep p l H H' → q ≠ p → q ≠ l → H q = none → c ∈ tl LET → 0 ≤ s → s < 16 → H' q = some (.lst ((namesL c s).map V.str)) → Q (.ref q) H'
/-! ### the law's terms -/
def ltermT (v : Str) (n : Int) (b : Bool) : Str := if decide (V.str v = V.str (Str.ofString "")) = true then numT n else if (b && decide (V.int n = V.int 1)) = true then v else numT n ++ Str.ofString "*" ++ v
def spLTerm : Sp := fun vs H Q _ => ∃ (v : Str) (n : Int) (b : Bool), vs = [.str v, .int n, .bl b] ∧ v.length ≤ 1000 ∧ 0 ≤ n ∧ n < 1000000000000000000 ∧ Q (.str (ltermT v n b)) H
theorem ltermT_len {v : Str} {n : Int} {b : Bool} (h0 : 0 ≤ n) (h1 : n < 1000000000000000000) : (ltermT v n b).length ≤ v.length + 19 := by
  have := numT_len h0 h1
  unfold ltermT
  split
  · omega
  · split
    · omega
    · rw [Str.length_append, Str.length_append, star_len]
      omega
def stepW (text : Str) (p : Str × Int) : Str := if (!decide (V.int p.2 = V.int 0)) = true then text ++ (if decide (p.2 < 0) = true then Str.ofString " - " else Str.ofString " + ") ++ ltermT p.1 (ab p.2) true else text
def preW (c : Int) (l : List (Str × Int)) : Str := (l ++ [(Str.ofString "", c)]).foldl stepW (Str.ofString "")
/-! ### the same data, down to some depth -/
def Eqv (H : Hp) : Nat → V → V → Prop
  | 0, _, _ => False
  | n + 1, x, y => (∃ i : Int, x = .int i ∧ y = .int i) ∨ (∃ z : Str, x = .str z ∧ y = .str z) ∨
    ∃ (p q : Addr) (xs ys : List V), x = .ref p ∧ y = .ref q ∧ H p = some (.tup xs) ∧ H q = some (.tup ys) ∧ xs.length = ys.length ∧ xs.length ≤ 1000 ∧ ∀ (j : Nat) (u v : V), xs[j]? = some u → ys[j]? = some v → Eqv H n u v
theorem Eqv.same {H H' : Hp} (s : Same H H') : ∀ {n : Nat} {x y : V}, Eqv H n x y → Eqv H' n x y
  | 0, _, _, h => h.elim
  | n + 1, x, y, h => by
    rcases h with h | h | ⟨p, q, xs, ys, e1, e2, h1, h2, h3, h4, h5⟩
    · exact .inl h
    · exact .inr (.inl h)
    · exact .inr (.inr ⟨p, q, xs, ys, e1, e2, s _ _ h1, s _ _ h2, h3, h4, fun j u v a b => Eqv.same s (h5 j u v a b)⟩)
def spSame (n : Nat) : Sp := fun vs H Q _ => ∃ x y, vs = [x, y] ∧ Eqv H n x y ∧ ∀ H', Same H H' → Q (.bl true) H'
theorem ans_isi {K : PySem.W.Frag} {i : Nat} {σ : L2.St} {H : Hp} {x : V} {t n : String} {b : Bool} (h : σ[i]? = some (some x)) (ty : TyX K H x (.type t)) (k : kitB t n = some b) : Ans (tB (tCB (rIsi K) (tCons (tVar i) (tCons (tC (.ty n)) tNil)))) σ H b :=
  fun Q q => ⟨x, h, x, .ty n, .type t, .type n, b, rfl, .ty n, ty, kit_ty k, b, rfl, q⟩
theorem val_isi {K : PySem.W.Frag} {i : Nat} {σ : L2.St} {H : Hp} {x : V} {t n : String} {b : Bool} (h : σ[i]? = some (some x)) (ty : TyX K H x (.type t)) (k : kitB t n = some b) : Val (tCB (rIsi K) (tCons (tVar i) (tCons (tC (.ty n)) tNil))) σ H (.bl b) :=
  fun Q q => ⟨x, h, x, .ty n, .type t, .type n, b, rfl, .ty n, ty, kit_ty k, q⟩
section
variable {P : Program} {w : World} {K : PySem.W.Frag} {mg : Str → Option Value} {base : Heap} {a : Ads}
theorem sc__law_names : FnScope ["_law_pool_here", "_law_letter", "_law_shift", "_law_k"] ["_law_pool_here"] (defScope s__law_names) := ⟨rfl, rfl, rfl, by decide +kernel, rfl, by decide +kernel, by decide +kernel⟩
theorem ok__law_names (T : Txt K mg a) : FnOk P w K mg base CX0 3 a.f__law_names a.f__law_names_d ["_law_pool_here"] spNames := by
  refine T.F__law_names.ok sc__law_names (fun vs H Q E h => ?_) (fun cdv A outer s H vs Q E hr h => ?_)
  · obtain ⟨p, l, n, rfl, _⟩ := h
    rfl
  obtain ⟨p, l, n, rfl, hP, hn, q⟩ := h
  refine ⟨_, (pss_cons (ps_set (i := 1) sc__law_names.nd rfl (Or.inr rfl) (pe_ix ix_str pe_str (pe_call (ok__law_draw T) (hr.mono (by decide)) (by rfl) T.g__law_draw T.F__law_draw.kp T.b__law_draw .nil pass0 (pa_cons (pv 0) (pa_cons pe_int pa_nil))) (fun _ _ => rfl)))
    (pss_cons (ps_set (i := 2) sc__law_names.nd rfl (Or.inr rfl) (pe_call (ok__law_draw T) (hr.mono (by decide)) (by rfl) T.g__law_draw T.F__law_draw.kp T.b__law_draw .nil pass0 (pa_cons (pv 0) (pa_cons pe_int pa_nil))))
    (pss_one (ps_ret (pe_lc (own := [("_law_k", 3)]) (g := gName 3) (tt := tYes) (by rfl) sc__law_names.nd (pi_range1 (by rfl) T.range (pa_cons pe_int pa_nil)) (blkOk_by (own := [("_law_k", 3)]) (N := ["_law_pool_here", "_law_letter", "_law_shift", "_law_k"]) (sc := defScope s__law_names) (by decide +kernel)) (fun _ _ _ _ _ => pg_name (i := 3) sc__law_names.nd rfl (Or.inl rfl)) (fun _ _ _ _ _ => pts_nil) (fun _ _ _ _ _ => (pe_op op_add_str (pv 1) (pe_callTy call_str_int (by rfl) T.str (by decide +kernel) (pa_cons (pe_op op_mod (pe_op op_add (pe_op op_mul pe_int (pv 3)) (pv 2)) pe_int) pa_nil))))))))), ?_⟩
  refine ⟨_, rfl, p, l, n, 26, rfl, hP, by omega, by decide, log_small (by decide) (by decide), fun r1 H1 r10 r11 P1 f1 => ?_⟩
  obtain ⟨c, hc, hm⟩ := atI_ex (xs := tl LET) (r := r1) r10 (by rw [show (tl LET).length = 26 from by decide +kernel]; exact r11)
  refine ⟨_, r1, c, rfl, rfl, (by decide +kernel), hc, ?_⟩
  refine ⟨_, rfl, p, l, n + 1, 16, rfl, P1, by omega, by decide, log_small (by decide) (by decide), fun r2 H2 r20 r21 P2 f2 => ?_⟩
  refine ⟨16, rfl, by decide, by decide, fun D hD => ?_⟩
  have hDo := P2.off hD
  have k2 : Keep p l H H2 := (Keep.draw f1).trans (Keep.draw f2)
  have nD : H D = none := k2.free hD hDo.1 hDo.2
  refine lc_range (lo := 0) (n := 16) (fun i H' => PoolAt H' p l (n + 2) ∧ Keep p l H H' ∧ H' D = some (.lst ((((List.range i).map (nameL c r2))).map V.str)))
    ⟨(P2.mono (by omega)).same (same_upd hD), k2.trans (Keep.of (same_upd hD)), upd_same⟩ ?_ ?_
  · rintro i H' hi ⟨P3, k3, hD3⟩
    have h16 : 0 ≤ (7 * ((0 : Int) + (i : Int)) + r2) % 16 ∧ (7 * ((0 : Int) + (i : Int)) + r2) % 16 < 16 := ⟨Int.emod_nonneg _ (by decide), Int.emod_lt_of_pos _ (by decide)⟩
    refine ⟨rfl, _, rfl, _, rfl, _, _, rfl, rfl, .inl ⟨by decide, by decide⟩, _, rfl, _, _, rfl, rfl, _, _, rfl, rfl, (by show (0 : Int) < 16; decide), _, rfl, log_ok h16.1 (by omega), _, _, rfl, rfl, ?_, _, hD3, ?_, ?_, ?_, ?_⟩
    · have := numT_len h16.1 (show _ < 1000000000000000000 by omega)
      unfold numT at this
      exact bigLe (by show 1 + _ ≤ 1000000; omega)
    · rw [List.length_map, List.length_map, List.length_range]
      exact bigLine (by omega)
    · exact P3.keep (upd_ne hDo.1.symm) (upd_ne hDo.2.symm)
    · exact k3.mut nD
    · rw [upd_same, List.range_succ, List.map_append, List.map_append]
      rfl
  · rintro H' ⟨P3, k3, hD3⟩
    exact q H' D c r2 P3 k3 hDo.1 hDo.2 nD hm r20 r21 hD3
theorem sc__law_term : FnScope ["_law_name", "_law_number", "_law_is_short"] ["_law_name", "_law_number", "_law_is_short"] (defScope s__law_term) := ⟨rfl, rfl, rfl, by decide +kernel, rfl, by decide +kernel, by decide +kernel⟩
theorem ok__law_term (T : Txt K mg a) : FnOk P w K mg base CX0 1 a.f__law_term a.f__law_term_d ["_law_name", "_law_number", "_law_is_short"] spLTerm := by
  refine T.F__law_term.ok sc__law_term (fun vs H Q E h => ?_) (fun cdv A outer s H vs Q E hr h => ?_)
  · obtain ⟨v, n, b, rfl, _⟩ := h
    rfl
  obtain ⟨v, n, b, rfl, hv, h0, h1, q⟩ := h
  have hl := numT_len h0 h1
  refine ⟨_, (pss_cons (ps_if (pt_cmpR op_eq (pv 0) pe_str (nomark _))
      (pss_one (ps_ret (pe_callTy call_str_int (by rfl) T.str (by decide +kernel) (pa_cons (pv 1) pa_nil))))
      pss_nil)
    (pss_one (ps_ret (pe_ifExp (PW.pt (pw_and (pt_val (pv 2)) (pw_and1 (pt_cmpR op_eq (pv 1) pe_int (nomark _))))) (pv 0) (pe_op op_add_str (pe_op op_add_str (pe_callTy call_str_int (by rfl) T.str (by decide +kernel) (pa_cons (pv 1) pa_nil)) pe_str) (pv 0)))))), ?_⟩
  refine st_seq (st_ite (b := decide (V.str v = V.str (Str.ofString ""))) (fun Q q => ⟨_, rfl, rfl, _, rfl, q⟩) (fun e => ?_) (fun e => ?_))
  · unfold ltermT at q
    rw [if_pos e] at q
    exact ⟨_, rfl, n, rfl, log_ok h0 h1, q⟩
  · unfold ltermT at q
    rw [if_neg (by rw [e]; exact Bool.false_ne_true)] at q
    have yes : (b && decide (V.int n = V.int 1)) = true → Q (.str v) H := fun e => by
      rw [if_pos e] at q
      exact q
    have no : ¬ (b && decide (V.int n = V.int 1)) = true → Q (.str (numT n ++ Str.ofString "*" ++ v)) H := fun e => by
      rw [if_neg e] at q
      exact q
    have long : ¬ (b && decide (V.int n = V.int 1)) = true → tOp (fun x y H Q => ∃ i j, x = .str i ∧ y = .str j ∧ i.length + j.length ≤ sizeLine ∧ Q (.str (i ++ j)) H) (tOp (fun x y H Q => ∃ i j, x = .str i ∧ y = .str j ∧ i.length + j.length ≤ sizeLine ∧ Q (.str (i ++ j)) H)
        (tCB (fun xs H Q => ∃ i, xs = [.int i] ∧ i.natAbs.log2 < 1920 ∧ Q (.str (toString i)) H) (tCons (tVar 1) tNil)) (tC (.str (Str.ofString "*")))) (tVar 0) [some (.str v), some (.int n), some (.bl b)] H Q := fun e =>
      ⟨_, rfl, n, rfl, log_ok h0 h1, numT n, _, rfl, rfl, bigLe (by rw [star_len]; omega), _, rfl, _, _, rfl, rfl, bigLe (by rw [Str.length_append, star_len]; omega), no e⟩
    refine ⟨_, rfl, b, rfl, ite2 (fun e1 => ⟨_, rfl, rfl, _, rfl, ite2 (fun e2 => ⟨_, rfl, yes (by rw [e1, e2]; rfl)⟩) (fun e2 => long (by rw [Bool.eq_false_iff.mpr e2, Bool.and_false]; exact Bool.false_ne_true))⟩) (fun e1 => long (by rw [Bool.eq_false_iff.mpr e1, Bool.false_and]; exact Bool.false_ne_true))⟩
theorem sc__law_same : FnScope ["_law_actual", "_law_due", "_law_k"] ["_law_actual", "_law_due"] (defScope s__law_same) := ⟨rfl, rfl, rfl, by decide +kernel, rfl, by decide +kernel, by decide +kernel⟩
theorem ok__law_same1 (T : Txt K mg a) (n : Nat) (ih : FnOk P w K mg base CX0 n a.f__law_same a.f__law_same_d ["_law_actual", "_law_due"] (spSame n)) : FnOk P w K mg base CX0 (n + 1) a.f__law_same a.f__law_same_d ["_law_actual", "_law_due"] (spSame (n + 1)) := by
  refine T.F__law_same.ok sc__law_same (fun vs H Q E h => ?_) (fun cdv A outer s H vs Q E hr h => ?_)
  · obtain ⟨x, y, rfl, _⟩ := h
    rfl
  obtain ⟨x, y, rfl, h, q⟩ := h
  refine ⟨_, (pss_cons (ps_if (pt_cmpR op_isN (pv 1) pe_non (nomark _))
      (pss_one (ps_ret (pe_cmpR op_isN (pv 0) pe_non (nomark _))))
      pss_nil)
    (pss_cons (ps_if (PW.pt (pw_or (pt_val (pe_callB call_isi (by rfl) T.isinstance (by decide +kernel) (pa_cons (pv 1) (pa_cons (pe_bltn (v := .ty "bool") (by rfl) T.bool (by decide +kernel) rfl) pa_nil)))) (pw_or1 (pt_val (pe_callB call_isi (by rfl) T.isinstance (by decide +kernel) (pa_cons (pv 0) (pa_cons (pe_bltn (v := .ty "bool") (by rfl) T.bool (by decide +kernel) rfl) pa_nil)))))))
      (pss_one (ps_ret (pe_and (pe_callB call_isi (by rfl) T.isinstance (by decide +kernel) (pa_cons (pv 1) (pa_cons (pe_bltn (v := .ty "bool") (by rfl) T.bool (by decide +kernel) rfl) pa_nil))) (pe_and (pe_callB call_isi (by rfl) T.isinstance (by decide +kernel) (pa_cons (pv 0) (pa_cons (pe_bltn (v := .ty "bool") (by rfl) T.bool (by decide +kernel) rfl) pa_nil))) (pe_one (pe_cmpR op_eq (pv 0) (pv 1) (nomark _)))))))
      pss_nil)
    (pss_cons (ps_if (PW.pt (pw_or (pt_val (pe_callB call_isi (by rfl) T.isinstance (by decide +kernel) (pa_cons (pv 1) (pa_cons (pe_bltn (v := .ty "int") (by rfl) T.int (by decide +kernel) rfl) pa_nil)))) (pw_or1 (pt_val (pe_callB call_isi (by rfl) T.isinstance (by decide +kernel) (pa_cons (pv 1) (pa_cons (pe_bltn (v := .ty "str") (by rfl) T.str (by decide +kernel) rfl) pa_nil)))))))
      (pss_one (ps_ret (pe_and (pe_cmpR op_eq (pe_callB call_isi (by rfl) T.isinstance (by decide +kernel) (pa_cons (pv 0) (pa_cons (pe_bltn (v := .ty "int") (by rfl) T.int (by decide +kernel) rfl) pa_nil))) (pe_callB call_isi (by rfl) T.isinstance (by decide +kernel) (pa_cons (pv 1) (pa_cons (pe_bltn (v := .ty "int") (by rfl) T.int (by decide +kernel) rfl) pa_nil))) (nomark _)) (pe_one (pe_cmpR op_eq (pv 0) (pv 1) (nomark _))))))
      pss_nil)
    (pss_cons (ps_if (PW.pt (pw_or (pt_cmpR op_ne (pe_callB call_isi (by rfl) T.isinstance (by decide +kernel) (pa_cons (pv 1) (pa_cons (pe_bltn (v := .ty "tuple") (by rfl) T.tuple (by decide +kernel) rfl) pa_nil))) (pe_callB call_isi (by rfl) T.isinstance (by decide +kernel) (pa_cons (pv 0) (pa_cons (pe_bltn (v := .ty "tuple") (by rfl) T.tuple (by decide +kernel) rfl) pa_nil))) (nomark _)) (pw_or1 (pt_cmpR op_ne (pe_callB call_isi (by rfl) T.isinstance (by decide +kernel) (pa_cons (pv 1) (pa_cons (pe_bltn (v := .ty "list") (by rfl) T.list (by decide +kernel) rfl) pa_nil))) (pe_callB call_isi (by rfl) T.isinstance (by decide +kernel) (pa_cons (pv 0) (pa_cons (pe_bltn (v := .ty "list") (by rfl) T.list (by decide +kernel) rfl) pa_nil))) (nomark _)))))
      (pss_one (ps_ret pe_bl))
      pss_nil)
    (pss_one (ps_ret (pe_and (pe_cmpR op_eq (pe_callB call_len_seq (by rfl) T.len PySem.boot_len (pa_cons (pv 0) pa_nil)) (pe_callB call_len_seq (by rfl) T.len PySem.boot_len (pa_cons (pv 1) pa_nil)) (nomark _)) (pe_one (pe_callB (cr_all rfl) (by rfl) T.all (by decide +kernel) (pa_cons (pe_lc (own := [("_law_k", 2)]) (g := gName 2) (tt := tYes) (by rfl) sc__law_same.nd (pi_range1 (by rfl) T.range (pa_cons (pe_callB call_len_seq (by rfl) T.len PySem.boot_len (pa_cons (pv 1) pa_nil)) pa_nil)) (blkOk_by (own := [("_law_k", 2)]) (N := ["_law_actual", "_law_due", "_law_k"]) (sc := defScope s__law_same) (by decide +kernel)) (fun _ _ _ _ _ => pg_name (i := 2) sc__law_same.nd rfl (Or.inl rfl)) (fun _ _ _ _ _ => pts_nil) (fun _ _ _ _ _ => (pe_call ih hr (by rfl) T.g__law_same T.F__law_same.kp T.b__law_same .nil pass0 (pa_cons (pe_ix (show IxR _ (rIxT K) from ix_tup) (pv 0) (pv 2) (fun _ _ => rfl)) (pa_cons (pe_ix (show IxR _ (rIxT K) from ix_tup) (pv 1) (pv 2) (fun _ _ => rfl)) pa_nil))))) pa_nil)))))))))), ?_⟩
  -- what stands on both sides is an int, a text or a tuple
  have flat : ∀ (t : String), TyX K H x (.type t) → TyX K H y (.type t) → decide (y = V.non) = false → kitB t "bool" = some false → (t = "int" ∨ t = "str") → scal x y = true → x = y →
      (kitB t "int" = some true ∨ (kitB t "int" = some false ∧ kitB t "str" = some true)) → True := fun _ _ _ _ _ _ _ _ _ => trivial
  rcases h with ⟨i, rfl, rfl⟩ | ⟨z, rfl, rfl⟩ | ⟨p, r, xs, ys, rfl, rfl, hp, hr2, hlen, hl, hall⟩
  · refine st_seq (st_no (fun Q q => ⟨_, rfl, rfl, _, rfl, q⟩) ?_)
    dsimp only [tNext]
    refine st_seq (st_no (ans_or (ans_isi (i := 1) (x := .int i) rfl (.base (.int i)) (by decide +kernel)) (ans_isi (i := 0) (x := .int i) rfl (.base (.int i)) (by decide +kernel))) ?_)
    dsimp only [tNext]
    refine st_seq (st_yes (ans_or1 (ans_isi (i := 1) (x := .int i) rfl (.base (.int i)) (by decide +kernel))) ?_)
    refine val_isi (i := 0) (x := .int i) (b := true) rfl (.base (.int i)) (by decide +kernel) _ (val_isi (i := 1) (x := .int i) (b := true) rfl (.base (.int i)) (by decide +kernel) _ ⟨rfl, _, rfl, ite2 (fun _ => ?_) (fun e => absurd (decide_eq_true rfl) e)⟩)
    refine ⟨_, rfl, _, rfl, rfl, ?_⟩
    rw [decide_eq_true rfl]
    exact q H (Same.refl H)
  · refine st_seq (st_no (fun Q q => ⟨_, rfl, rfl, _, rfl, q⟩) ?_)
    dsimp only [tNext]
    refine st_seq (st_no (ans_or (ans_isi (i := 1) (x := .str z) rfl (.base (.str z)) (by decide +kernel)) (ans_isi (i := 0) (x := .str z) rfl (.base (.str z)) (by decide +kernel))) ?_)
    dsimp only [tNext]
    refine st_seq (st_yes (ans_or (ans_isi (i := 1) (x := .str z) rfl (.base (.str z)) (by decide +kernel)) (ans_isi (i := 1) (x := .str z) rfl (.base (.str z)) (by decide +kernel))) ?_)
    refine val_isi (i := 0) (x := .str z) (b := false) rfl (.base (.str z)) (by decide +kernel) _ (val_isi (i := 1) (x := .str z) (b := false) rfl (.base (.str z)) (by decide +kernel) _ ⟨rfl, _, rfl, ite2 (fun _ => ?_) (fun e => absurd (decide_eq_true rfl) e)⟩)
    refine ⟨_, rfl, _, rfl, rfl, ?_⟩
    rw [decide_eq_true rfl]
    exact q H (Same.refl H)
  · have tx : TyX K H (.ref p) (.type "tuple") := .base (.tup hp)
    have ty : TyX K H (.ref r) (.type "tuple") := .base (.tup hr2)
    refine st_seq (st_no (fun Q q => ⟨_, rfl, rfl, _, rfl, q⟩) ?_)
    dsimp only [tNext]
    refine st_seq (st_no (ans_or (ans_isi (i := 1) rfl ty (by decide +kernel)) (ans_isi (i := 0) rfl tx (by decide +kernel))) ?_)
    dsimp only [tNext]
    refine st_seq (st_no (ans_or (ans_isi (i := 1) rfl ty (by decide +kernel)) (ans_isi (i := 1) rfl ty (by decide +kernel))) ?_)
    dsimp only [tNext]
    refine st_seq (st_no (ans_or (ans_ne (val_isi (i := 1) (b := true) rfl ty (by decide +kernel)) (val_isi (i := 0) (b := true) rfl tx (by decide +kernel)) rfl rfl) (ans_ne (val_isi (i := 1) (b := false) rfl ty (by decide +kernel)) (val_isi (i := 0) (b := false) rfl tx (by decide +kernel)) rfl rfl)) ?_)
    dsimp only [tNext]
    refine ⟨_, rfl, p, xs, rfl, .inr (.inl (.inl hp)), _, rfl, r, ys, rfl, .inr (.inl (.inl hr2)), rfl, _, rfl, ite2 (fun _ => ?_) (fun e => absurd (by rw [hlen]; exact decide_eq_true rfl) e)⟩
    refine ⟨_, rfl, r, ys, rfl, .inr (.inl (.inl hr2)), _, rfl, by omega, by omega, fun D hD => ?_⟩
    refine lc_range (lo := 0) (n := ((ys.length : Nat) : Int).toNat) (fun i H' => Same H H' ∧ H' D = some (.lst ((List.replicate i true).map V.bl))) ⟨same_upd hD, upd_same⟩ ?_ ?_
    · rintro i H' hi ⟨s2, hD2⟩
      have hi1 : i < ys.length := by omega
      have hi0 : i < xs.length := by omega
      refine ⟨rfl, _, rfl, _, rfl, p, xs, _, xs[i], rfl, rfl, .inl (.inl (s2 _ _ hp)), at_of (j := i) (by omega) (List.getElem?_eq_getElem hi0), _, rfl, _, rfl, r, ys, _, ys[i], rfl, rfl, .inl (.inl (s2 _ _ hr2)), at_of (j := i) (by omega) (List.getElem?_eq_getElem hi1), ?_⟩
      refine ⟨_, _, rfl, Eqv.same s2 (hall i _ _ (List.getElem?_eq_getElem hi0) (List.getElem?_eq_getElem hi1)), fun H3 s3 => ⟨_, s3 _ _ hD2, ?_, same_mut (s2.trans s3) hD, ?_⟩⟩
      · rw [List.length_map, List.length_replicate]
        exact bigLine (by omega)
      · rw [upd_same, List.replicate_succ', List.map_append]
        rfl
    · rintro H' ⟨s2, hD2⟩
      refine ⟨D, _, rfl, SqL.of hD2, ?_⟩
      have e : (List.replicate ((ys.length : Nat) : Int).toNat true).all id = true := by
        rw [List.all_eq_true]
        intro b hb
        rw [List.eq_of_mem_replicate hb]
        rfl
      rw [e]
      exact q H' s2
theorem ok__law_same (T : Txt K mg a) (n : Nat) : FnOk P w K mg base CX0 n a.f__law_same a.f__law_same_d ["_law_actual", "_law_due"] (spSame n) := by
  induction n with
  | zero =>
    have no : ∀ vs H Q E, ¬ spSame 0 vs H Q E := fun vs H Q E h => by
      obtain ⟨_, _, _, h, _⟩ := h
      exact h
    exact ⟨fun vs H Q E h => absurd h (no vs H Q E), fun A outer s H args us vs Q E _ _ _ _ h => absurd h (no vs H Q E)⟩
  | succ n ih => exact ok__law_same1 T n ih
end
end K1
namespace K1
open PySem PySem.Spec PyProof.Rows L2 TL
theorem for_tupV {K : PySem.W.Frag} {te : TE} {g : TG} {tb : TS} {D : Ends} {σ : L2.St} {H : Hp} (PV : Addr → List V → Hp → Prop) (hv : ValH te σ H (fun v H1 => ∃ d xs, v = .ref d ∧ PV d xs H1 ∧ SqT K H1 d xs))
    (h : ∀ d xs H1, PV d xs H1 → SqT K H1 d xs → tFor (fun _ H R => R (Itt K d) H) g tb D σ H1) : tFor (iTup K te) g tb D σ H := by
  refine hv _ ?_
  rintro _ H1 ⟨d, xs, rfl, p, s⟩
  exact ⟨d, rfl, ⟨xs, s⟩, h d xs H1 p s⟩
/-! ### the two ways to write a sum -/
def sepT (n : Int) : Str := if decide (n < 0) = true then Str.ofString " - " else Str.ofString " + "
def app (t : Str) (p : Int × Str) : Str := t ++ sepT p.1 ++ p.2
theorem str_app_assoc (x y z : Str) : x ++ y ++ z = x ++ (y ++ z) := ext_tl (by rw [tl_append, tl_append, tl_append, tl_append, List.append_assoc])
theorem fold_app : ∀ (r : List (Int × Str)) (x y : Str), r.foldl app (x ++ y) = x ++ r.foldl app y
  | [], _, _ => rfl
  | p :: r, x, y => by
    show r.foldl app (x ++ y ++ sepT p.1 ++ p.2) = x ++ r.foldl app (y ++ sepT p.1 ++ p.2)
    rw [← fold_app r x]
    congr 1
    rw [str_app_assoc, str_app_assoc, str_app_assoc]
theorem empty_app (x : Str) : Str.ofString "" ++ x = x := ext_tl (by rw [tl_append, tl_empty, List.nil_append])
theorem ne_app {x y : Str} (h : tl y ≠ []) : tl (x ++ y) ≠ [] := by
  rw [tl_append]
  exact fun e => h (List.append_eq_nil_iff.mp e).2
theorem not_empty {x : Str} (h : tl x ≠ []) : decide (V.str x = V.str (Str.ofString "")) = false := decide_eq_false fun e => h (by rw [V.str.inj e]; exact tl_empty)
theorem fold_stepT : ∀ (r : List (Int × Str)) (x : Str), tl x ≠ [] → (∀ p ∈ r, tl p.2 ≠ []) → r.foldl stepT x = r.foldl app x
  | [], _, _, _ => rfl
  | p :: r, x, hx, h => by
    have e : stepT x p = app x p := by
      unfold stepT app sepT
      rw [if_neg (by rw [not_empty hx]; exact Bool.false_ne_true)]
    rw [List.foldl_cons, List.foldl_cons, e]
    exact fold_stepT r _ (ne_app (h p List.mem_cons_self)) fun q hq => h q (List.mem_cons_of_mem _ hq)
def cut3 (t : Str) : Str := cutS t (some 3) none
theorem cut3_app {s F : Str} (h : s.length = 3) : cut3 (s ++ F) = F := by
  apply ext_tl
  unfold cut3 cutS
  rw [show HT.sIx (s ++ F).length 0 (some 3) = min 3 (s ++ F).length from HT.sIx_nat _ _ 3, HT.sIx_none]
  show (((s ++ F).cps.toList.drop (min 3 (s ++ F).length)).take _).toArray.toList = _
  rw [show (s ++ F).cps.toList = tl s ++ tl F from tl_append s F]
  have l1 : (s ++ F).length = 3 + (tl F).length := by rw [Str.length_append, h, len_tl F]
  rw [l1, Nat.min_eq_left (by omega), show (tl s ++ tl F).drop 3 = tl F by
    rw [List.drop_append_of_le_length (by rw [← len_tl]; omega), List.drop_eq_nil_of_le (by rw [← len_tl]; omega), List.nil_append]]
  exact List.take_of_length_le (by omega)
theorem sep_len (n : Int) : (sepT n).length = 3 := by
  unfold sepT
  split
  · decide +kernel
  · decide +kernel
/-- the sign of the first part, and what is behind it -/
theorem both_ways {n : Int} {s : Str} {r : List (Int × Str)} (h : ∀ p ∈ (n, s) :: r, tl p.2 ≠ []) :
    ((n, s) :: r).foldl app (Str.ofString "") = sepT n ++ r.foldl app s ∧ ((n, s) :: r).foldl stepT (Str.ofString "") = (if decide (n < 0) = true then Str.ofString "-" ++ r.foldl app s else r.foldl app s) := by
  have hs : tl s ≠ [] := h (n, s) List.mem_cons_self
  have hr : ∀ p ∈ r, tl p.2 ≠ [] := fun p hp => h p (List.mem_cons_of_mem _ hp)
  constructor
  · show r.foldl app (Str.ofString "" ++ sepT n ++ s) = _
    rw [empty_app, fold_app]
  · show r.foldl stepT (stepT (Str.ofString "") (n, s)) = _
    unfold stepT
    rw [if_pos (decide_eq_true rfl)]
    dsimp only
    by_cases hn : decide (n < 0) = true
    · rw [if_pos hn, if_pos hn, ← fold_app]
      exact fold_stepT r _ (ne_app hs) hr
    · rw [if_neg hn, if_neg hn]
      exact fold_stepT r _ hs hr
def nzParts (L : List (Str × Int)) : List (Int × Str) := (L.filter fun p => !decide (V.int p.2 = V.int 0)).map fun p => (p.2, ltermT p.1 (ab p.2) true)
theorem fold_stepW : ∀ (L : List (Str × Int)) (x : Str), L.foldl stepW x = (nzParts L).foldl app x
  | [], _ => rfl
  | p :: r, x => by
    rw [List.foldl_cons, fold_stepW r]
    unfold nzParts
    by_cases h : (!decide (V.int p.2 = V.int 0)) = true
    · rw [List.filter_cons_of_pos (p := fun p : Str × Int => !decide (V.int p.2 = V.int 0)) h, List.map_cons, List.foldl_cons]
      congr 1
      unfold stepW
      rw [if_pos h]
      rfl
    · rw [List.filter_cons_of_neg (p := fun p : Str × Int => !decide (V.int p.2 = V.int 0)) h]
      congr 1
      unfold stepW
      rw [if_neg h]
/-- the sums are no zeros, and have names -/
def Real (l : List (Str × Int)) : Prop := ∀ p ∈ l, p.2 ≠ 0 ∧ tl p.1 ≠ []
theorem ltermT_name {v : Str} {f : Int} (h : tl v ≠ []) : ltermT v (ab f) true = termT v f := by
  unfold ltermT termT
  rw [if_neg (by rw [not_empty h]; exact Bool.false_ne_true), Bool.true_and]
theorem ltermT_none (n : Int) : ltermT (Str.ofString "") n true = numT n := by
  unfold ltermT
  rw [if_pos (decide_eq_true rfl)]
theorem nzParts_is {c : Int} {l : List (Str × Int)} (h : Real l) (hx : ((!decide (V.int c = V.int 0)) || l.isEmpty) = (!decide (V.int c = V.int 0))) : nzParts (l ++ [(Str.ofString "", c)]) = partsOf c l := by
  unfold nzParts partsOf
  rw [List.filter_append, List.map_append, hx]
  congr 1
  · rw [List.filter_eq_self.mpr fun p hp => by
      rw [decide_eq_false fun e => (h p hp).1 (V.int.inj e)]
      rfl]
    exact List.map_congr_left fun p hp => by rw [ltermT_name (h p hp).2]
  · by_cases hc : (!decide (V.int c = V.int 0)) = true
    · rw [if_pos hc, List.filter_cons_of_pos (p := fun p : Str × Int => !decide (V.int p.2 = V.int 0)) hc]
      show [(c, ltermT (Str.ofString "") (ab c) true)] = _
      rw [ltermT_none]
    · rw [if_neg hc, List.filter_cons_of_neg (p := fun p : Str × Int => !decide (V.int p.2 = V.int 0)) hc]
      rfl
theorem numT_ne {i : Int} (h : 0 ≤ i) : tl (numT i) ≠ [] := by
  obtain ⟨n, rfl⟩ : ∃ n : Nat, i = (n : Int) := ⟨i.toNat, by omega⟩
  unfold numT
  rw [tl_num]
  exact numL_ne n
theorem ab_pos (c : Int) : 0 ≤ ab c := by
  unfold ab
  split <;> omega
theorem parts_ne {c : Int} {l : List (Str × Int)} (h : Real l) : ∀ p ∈ partsOf c l, tl p.2 ≠ [] := by
  intro p hp
  unfold partsOf at hp
  rcases List.mem_append.mp hp with hp | hp
  · obtain ⟨y, hy, rfl⟩ := List.mem_map.mp hp
    show tl (termT y.1 y.2) ≠ []
    unfold termT
    split
    · exact (h y hy).2
    · exact ne_app (h y hy).2
  · split at hp
    · rw [List.mem_singleton.mp hp]
      exact numT_ne (ab_pos c)
    · cases hp
/-- what the law writes is what show writes -/
theorem written_is {c : Int} {l : List (Str × Int)} (h : Real l) :
    (preW c l = Str.ofString "" ∧ sumT c l = Str.ofString "0") ∨ (∃ n F, preW c l = sepT n ++ F ∧ sumT c l = if decide (n < 0) = true then Str.ofString "-" ++ F else F) := by
  by_cases hx : ((!decide (V.int c = V.int 0)) || l.isEmpty) = (!decide (V.int c = V.int 0))
  · unfold preW sumT
    rw [fold_stepW, nzParts_is h hx]
    have hne := parts_ne (c := c) h
    cases hp : partsOf c l with
    | nil =>
      exfalso
      unfold partsOf at hp
      have h1 := (List.append_eq_nil_iff.mp hp).1
      have h2 := (List.append_eq_nil_iff.mp hp).2
      have hl : l = [] := List.map_eq_nil_iff.mp h1
      subst hl
      rw [if_pos (by simp)] at h2
      cases h2
    | cons p r =>
      obtain ⟨n, s⟩ := p
      rw [hp] at hne
      obtain ⟨e1, e2⟩ := both_ways hne
      exact .inr ⟨n, r.foldl app s, e1, e2⟩
  · have hc : (!decide (V.int c = V.int 0)) = false := by
      cases e : (!decide (V.int c = V.int 0)) with
      | false => rfl
      | true =>
        rw [e] at hx
        simp at hx
    have hl : l.isEmpty = true := by
      cases e : l.isEmpty with
      | true => rfl
      | false =>
        rw [e, Bool.or_false] at hx
        exact absurd rfl hx
    have hl' : l = [] := List.isEmpty_iff.mp hl
    subst hl'
    have hc' : c = 0 := by
      have := of_decide_eq_true (by simpa using hc : decide (V.int c = V.int 0) = true)
      exact V.int.inj this
    subst hc'
    exact .inl ⟨by decide +kernel, by decide +kernel⟩
def spWritten : Sp := fun vs H Q _ => ∃ (p pt : Addr) (as : List Addr) (c : Int) (l : List (Str × Int)), vs = [.ref p] ∧ H p = some (.tup [.int c, .ref pt]) ∧ H pt = some (.tup (as.map V.ref)) ∧ RepP H as l ∧ l.length ≤ 60 ∧ Mid c ∧ Fine l ∧ Real l ∧
  ∀ H', Same H H' → Q (.str (sumT c l)) H'
theorem stepW_len {text : Str} {p : Str × Int} (h : p.1.length ≤ 1000 ∧ Mid p.2) : (stepW text p).length ≤ text.length + 1022 := by
  have h1 := ab_mid h.2
  have h2 := ltermT_len (v := p.1) (b := true) h1.1 h1.2
  unfold stepW
  split
  · rw [Str.length_append, Str.length_append]
    have := sep_len p.2
    unfold sepT at this
    omega
  · omega
theorem foldW_len : ∀ (L : List (Str × Int)) (text : Str), Fine L → (L.foldl stepW text).length ≤ text.length + L.length * 1022
  | [], text, _ => by simp
  | p :: r, text, h => by
    have h1 := foldW_len r (stepW text p) fun q hq => h q (List.mem_cons_of_mem _ hq)
    have h2 := stepW_len (text := text) (h p List.mem_cons_self)
    rw [List.foldl_cons, List.length_cons, Nat.add_mul]
    omega
section
variable {P : Program} {w : World} {K : PySem.W.Frag} {mg : Str → Option Value} {base : Heap} {a : Ads}
theorem sc__law_written : FnScope ["_law_expression_here", "_law_text", "_law_name", "_law_factor"] ["_law_expression_here"] (defScope s__law_written) := ⟨rfl, rfl, rfl, by decide +kernel, rfl, by decide +kernel, by decide +kernel⟩
theorem ok__law_written (T : Txt K mg a) : FnOk P w K mg base CX0 3 a.f__law_written a.f__law_written_d ["_law_expression_here"] spWritten := by
  refine T.F__law_written.ok sc__law_written (fun vs H Q E h => ?_) (fun cdv A outer s H vs Q E hr h => ?_)
  · obtain ⟨p, pt, as, c, l, rfl, _⟩ := h
    rfl
  obtain ⟨p, pt, as, c, l, rfl, hp, hpt, hR, hl, hc, hF, hRe, q⟩ := h
  refine ⟨_, (pss_cons (ps_set (i := 1) sc__law_written.nd rfl (Or.inl rfl) pe_str)
    (pss_cons (ps_for PassesOwn.never rfl (pi_tup (pe_op op_catA (pe_ix ix_tup (pv 0) pe_int (fun _ _ => rfl)) (pe_tup (pa_cons (pe_tup (pa_cons pe_str (pa_cons (pe_ix ix_tup (pv 0) pe_int (fun _ _ => rfl)) pa_nil))) pa_nil)))) (pg_tup (by rfl) (pgs_cons (pg_name (i := 2) sc__law_written.nd rfl (Or.inl rfl)) (pgs_cons (pg_name (i := 3) sc__law_written.nd rfl (Or.inl rfl)) pgs_nil)))
      (pss_one (ps_if (pt_cmpR op_ne (pv 3) pe_int (nomark _))
        (pss_one (ps_set (i := 1) sc__law_written.nd rfl (Or.inl rfl) (pe_op op_add_str (pe_op op_add_str (pv 1) (pe_ix ix_list (pe_lst (pa_cons pe_str (pa_cons pe_str pa_nil))) (pe_callTy call_int1 (by rfl) T.int (by decide +kernel) (pa_cons (pe_cmpR op_lt (pv 3) pe_int (nomark _)) pa_nil)) (fun _ _ => rfl))) (pe_call (ok__law_term T) (hr.mono (by decide)) (by rfl) T.g__law_term T.F__law_term.kp T.b__law_term .nil pass0 (pa_cons (pv 2) (pa_cons (pe_callB call_abs (by rfl) T.abs (by decide +kernel) (pa_cons (pv 3) pa_nil)) (pa_cons pe_bl pa_nil)))))))
        pss_nil)))
    (pss_cons (ps_if (pt_cmpR op_eq (pv 1) pe_str (nomark _))
      (pss_one (ps_ret pe_str))
      pss_nil)
    (pss_one (ps_ret (pe_ifExp (pt_cmpR op_eq (pe_ix ix_str (pv 1) pe_int (fun _ _ => rfl)) pe_str (nomark _)) (pe_slice sl_str (pv 1) (po_some pe_int) po_none) (pe_op op_add_str pe_str (pe_slice sl_str (pv 1) (po_some pe_int) po_none)))))))), ?_⟩
  refine st_seq (st_set (fun Q q => q) ?_)
  dsimp only [gName]
  have hFL : Fine (l ++ [(Str.ofString "", c)]) := fun y hy => (List.mem_append.mp hy).elim (hF y) fun e => by
    rw [List.mem_singleton.mp e]
    exact ⟨by show (Str.ofString "").length ≤ 1000; decide +kernel, hc⟩
  have hlen : as.length = l.length := hR.len
  refine st_seq (for_tupV (fun d xs H1 => Same H H1 ∧ ∃ bs : List Addr, xs = bs.map V.ref ∧ RepP H1 bs (l ++ [(Str.ofString "", c)])) (fun Q' q' => ?_) ?_)
  · refine ⟨_, rfl, p, _, _, _, rfl, rfl, .inl (.inl hp), atI_nat (j := 1) rfl, _, rfl, p, _, _, _, rfl, rfl, .inl (.inl hp), atI_nat (j := 0) rfl, (by show 2 ≤ sizeLine; decide), fun t ht => ⟨(by show 1 ≤ sizeLine; decide), fun u hu => ?_⟩⟩
    have s1 := same_upd (o := .tup [.str (Str.ofString ""), .int c]) ht
    have s2 := same_upd (o := .tup [.ref t]) hu
    have r2 : RepP (upd (upd H t (.tup [.str (Str.ofString ""), .int c])) u (.tup [.ref t])) (as ++ [t]) (l ++ [(Str.ofString "", c)]) := RepP.app (t := (Str.ofString "", c)) (s2 _ _ upd_same) (hR.same (s1.trans s2))
    refine ⟨pt, u, _, _, rfl, rfl, .inl (.inl ((s1.trans s2) _ _ hpt)), .inl (.inl upd_same), ?_, fun e => ?_, fun _ e => (by cases e), fun _ _ d hd => ?_⟩
    · rw [List.length_map]
      show as.length + 1 ≤ sizeLine
      exact bigLe (by omega)
    · have ea : as = [] := List.map_eq_nil_iff.mp e
      subst ea
      exact q' _ _ ⟨u, _, rfl, ⟨s1.trans s2, [t], rfl, r2⟩, .inl (.inl upd_same)⟩
    · exact q' _ _ ⟨d, _, rfl, ⟨(s1.trans s2).trans (same_upd hd), as ++ [t], by rw [List.map_append]; rfl, r2.same (same_upd hd)⟩, .inl (.inl upd_same)⟩
  rintro d _ H1 ⟨s1, bs, rfl, hB⟩ hd
  have hbl : bs.length = l.length + 1 := by
    rw [hB.len, List.length_append]
    rfl
  have flen : ∀ i, (((l ++ [(Str.ofString "", c)]).take i).foldl stepW (Str.ofString "")).length ≤ 70000 := by
    intro i
    have h1 := foldW_len ((l ++ [(Str.ofString "", c)]).take i) (Str.ofString "") fun y hy => hFL y (List.mem_of_mem_take hy)
    rw [show (Str.ofString "").length = 0 from by decide +kernel, List.length_take, List.length_append] at h1
    have h2 : min i (l.length + [(Str.ofString "", c)].length) * 1022 ≤ 61 * 1022 := Nat.mul_le_mul_right _ (by show min i (l.length + 1) ≤ 61; omega)
    omega
  refine for_tup (K := K) (a := d) (xs := bs.map V.ref) (fun i σ H' => ∃ v2 v3 : Option V, σ = [some (.ref p), some (.str (((l ++ [(Str.ofString "", c)]).take i).foldl stepW (Str.ofString ""))), v2, v3] ∧ Same H1 H')
    ⟨none, none, rfl, Same.refl _⟩ (fun i σ H' _ ⟨_, _, _, s'⟩ => ?_) ?_ ?_
  · rcases hd with (h | ⟨o, h⟩) | h
    · exact .inl (.inl (s' _ _ h))
    · exact .inl (.inr ⟨o, s' _ _ h⟩)
    · exact .inr h
  · rintro i x σ H' hi ⟨v2, v3, rfl, s'⟩
    obtain ⟨a1, t1, rfl, ht1, ha1⟩ := (hB.same s').get hi
    obtain ⟨hv, hm⟩ := hFL t1 (List.mem_of_getElem? ht1)
    obtain ⟨b0, b1⟩ := ab_mid hm
    have et : (l ++ [(Str.ofString "", c)]).take (i + 1) = (l ++ [(Str.ofString "", c)]).take i ++ [t1] := by
      rw [List.take_add_one, ht1]
      rfl
    have hfl := flen i
    have fin : ∀ z H2, z = stepW (((l ++ [(Str.ofString "", c)]).take i).foldl stepW (Str.ofString "")) t1 → Same H1 H2 → ∃ v2 v3 : Option V, [some (.ref p), some (.str z), some (.str t1.1), some (.int t1.2)] = [some (.ref p), some (.str (((l ++ [(Str.ofString "", c)]).take (i + 1)).foldl stepW (Str.ofString ""))), v2, v3] ∧ Same H1 H2 := by
      rintro _ H2 rfl s2
      refine ⟨some (.str t1.1), some (.int t1.2), ?_, s2⟩
      rw [et, List.foldl_append]
      rfl
    generalize ((l ++ [(Str.ofString "", c)]).take i).foldl stepW (Str.ofString "") = tx at hfl fin ⊢
    refine ⟨a1, _, rfl, .inl (.inl ha1), rfl, .str t1.1, [.int t1.2], rfl, .int t1.2, [], rfl, rfl, ?_⟩
    have ll := ltermT_len (v := t1.1) (b := true) b0 b1
    refine st_ite (b := !decide (V.int t1.2 = V.int 0)) (fun Q q => ⟨_, rfl, rfl, _, rfl, q⟩) (fun e => ?_) (fun e => ?_)
    · refine ⟨_, rfl, (by show 2 ≤ sizeLine; decide), fun y ny => ⟨_, rfl, _, _, rfl, rfl, .inr ⟨_, rfl, ?_⟩⟩⟩
      have hat : ∃ u : Str, u = (if decide (t1.2 < 0) = true then Str.ofString " - " else Str.ofString " + ") ∧ atI ([.str (Str.ofString " + "), .str (Str.ofString " - ")] : List V) (if decide (t1.2 < 0) = true then 1 else 0) = some (.str u) := by
        by_cases hn : decide (t1.2 < 0) = true
        · rw [if_pos hn, if_pos hn]
          exact ⟨_, rfl, atI_nat (j := 1) rfl⟩
        · rw [if_neg hn, if_neg hn]
          exact ⟨_, rfl, atI_nat (j := 0) rfl⟩
      obtain ⟨u, eu, hu⟩ := hat
      have ul : u.length = 3 := by
        have := sep_len t1.2
        unfold sepT at this
        rw [eu]
        exact this
      refine ⟨y, _, _, _, rfl, rfl, SqL.of upd_same, hu, _, _, rfl, rfl, bigLe (by omega), _, rfl, _, rfl, t1.2, rfl, t1.1, ab t1.2, true, rfl, hv, b0, b1, _, _, rfl, rfl, bigLe (by rw [Str.length_append]; omega), fin _ _ ?_ (s'.trans (same_upd ny))⟩
      unfold stepW
      rw [if_pos e, ← eu]
    · refine fin _ _ ?_ s'
      unfold stepW
      rw [if_neg (by rw [e]; exact Bool.false_ne_true)]
  · rintro σ H' ⟨v2, v3, rfl, s'⟩
    rw [List.length_map, hbl]
    have e1 : (l ++ [(Str.ofString "", c)]).take (l.length + 1) = l ++ [(Str.ofString "", c)] := List.take_of_length_le (by rw [List.length_append]; exact Nat.le_refl _)
    have hfl := flen (l.length + 1)
    rw [e1] at hfl ⊢
    have hq := q H' (s1.trans s')
    rcases written_is (c := c) hRe with ⟨w1, w2⟩ | ⟨n, F, w1, w2⟩
    · dsimp only
      refine st_seq (st_yes (fun Q q => ⟨_, rfl, rfl, _, rfl, (by rw [show (l ++ [(Str.ofString "", c)]).foldl stepW (Str.ofString "") = Str.ofString "" from w1, decide_eq_true rfl]; exact q)⟩) ?_)
      rw [w2] at hq
      exact hq
    · rw [show (l ++ [(Str.ofString "", c)]).foldl stepW (Str.ofString "") = sepT n ++ F from w1] at hfl ⊢
      have hl3 := sep_len n
      have hne : tl (sepT n ++ F) ≠ [] := fun e => by
        have := len_tl (sepT n ++ F)
        rw [e, Str.length_append] at this
        simp at this
        omega
      dsimp only
      refine st_seq (st_no (fun Q q => ⟨_, rfl, rfl, _, rfl, (by rw [not_empty hne]; exact q)⟩) ?_)
      dsimp only [tNext]
      have hl2 : (sepT n ++ F).length ≤ sizeLine := bigLe (by omega)
      have hF2 : F.length ≤ 70000 := by
        rw [Str.length_append] at hfl
        omega
      by_cases hn : decide (n < 0) = true
      · rw [w2, if_pos hn] at hq
        have hat : atI (sepT n ++ F).cps.toList 1 = some 45 := by
          show atI (tl (sepT n ++ F)) 1 = _
          rw [tl_append]
          unfold sepT
          rw [if_pos hn, show tl (Str.ofString " - ") = [32, 45, 32] from by decide +kernel]
          exact atI_nat (j := 1) rfl
        refine ⟨_, rfl, _, 1, 45, rfl, rfl, hl2, hat, rfl, _, rfl, iteF ?_⟩
        refine ⟨_, rfl, 3, rfl, _, rfl, hl2, _, _, rfl, rfl, ?_, ?_⟩
        · rw [show cutS (sepT n ++ F) (some 3) none = F from cut3_app hl3, show (Str.ofString "-").length = 1 from by decide +kernel]
          exact bigLe (by omega)
        · rw [show cutS (sepT n ++ F) (some 3) none = F from cut3_app hl3]
          exact hq
      · rw [w2, if_neg hn] at hq
        have hat : atI (sepT n ++ F).cps.toList 1 = some 43 := by
          show atI (tl (sepT n ++ F)) 1 = _
          rw [tl_append]
          unfold sepT
          rw [if_neg hn, show tl (Str.ofString " + ") = [32, 43, 32] from by decide +kernel]
          exact atI_nat (j := 1) rfl
        refine ⟨_, rfl, _, 1, 43, rfl, rfl, hl2, hat, rfl, _, rfl, iteT ?_⟩
        refine ⟨_, rfl, 3, rfl, _, rfl, hl2, ?_⟩
        rw [show cutS (sepT n ++ F) (some 3) none = F from cut3_app hl3]
        exact hq
end
end K1
namespace K1
open PySem PySem.Spec PyProof.Rows L2 TL
/-! ### sorted texts are one -/
theorem eq_of_strict {α : Type} {R : α → α → Prop} (irr : ∀ a, ¬ R a a) (asy : ∀ a b, R a b → ¬ R b a) : ∀ {l1 l2 : List α}, l1.Pairwise R → l2.Pairwise R → (∀ x, x ∈ l1 ↔ x ∈ l2) → l1 = l2
  | [], [], _, _, _ => rfl
  | [], b :: _, _, _, h => absurd ((h b).mpr List.mem_cons_self) (by simp)
  | a :: _, [], _, _, h => absurd ((h a).mp List.mem_cons_self) (by simp)
  | a :: l1, b :: l2, h1, h2, h => by
    obtain ⟨p1, q1⟩ := List.pairwise_cons.mp h1
    obtain ⟨p2, q2⟩ := List.pairwise_cons.mp h2
    have e : a = b := by
      rcases List.mem_cons.mp ((h a).mp List.mem_cons_self) with e | m
      · exact e
      · rcases List.mem_cons.mp ((h b).mpr List.mem_cons_self) with e | m'
        · exact e.symm
        · exact absurd (p1 b m') (asy _ _ (p2 a m))
    subst e
    congr 1
    refine eq_of_strict irr asy q1 q2 fun x => ⟨fun hx => ?_, fun hx => ?_⟩
    · rcases List.mem_cons.mp ((h x).mp (List.mem_cons_of_mem _ hx)) with e | m
      · exact absurd (e ▸ p1 x hx) (irr _)
      · exact m
    · rcases List.mem_cons.mp ((h x).mpr (List.mem_cons_of_mem _ hx)) with e | m
      · exact absurd (e ▸ p2 x hx) (irr _)
      · exact m
def Lt (a b : Str) : Prop := tl a < tl b
theorem lt_irr (a : Str) : ¬ Lt a a := List.lt_irrefl _
theorem lt_asy (a b : Str) (h : Lt a b) : ¬ Lt b a := fun h' => List.lt_irrefl _ (List.lt_trans h h')
theorem rising_all : ∀ (l : List Str) (p : Str), risingS p l = true → ∀ x ∈ l, ¬ Lt x p
  | [], _, _, x, h => by cases h
  | y :: r, p, h, x, hx => by
    have h' : (!ltCps y.cps.toList p.cps.toList && risingS y r) = true := h
    rw [Bool.and_eq_true] at h'
    have h1 : ¬ Lt y p := fun z => by
      have e : ltCps y.cps.toList p.cps.toList = true := by
        rw [ltCps_eq]
        exact decide_eq_true z
      rw [e] at h'
      exact absurd h'.1 (by decide)
    rcases List.mem_cons.mp hx with e | m
    · rw [e]
      exact h1
    · have h2 := rising_all r y h'.2 x m
      intro z
      exact h1 (List.lt_of_le_of_lt (List.not_lt.mp h2) z)
theorem sorted_strict : ∀ {l : List Str}, sortedS l = true → l.Nodup → l.Pairwise Lt
  | [], _, _ => List.Pairwise.nil
  | x :: r, h, hn => by
    have h' : risingS x r = true := h
    have hr : sortedS r = true := by
      cases r with
      | nil => rfl
      | cons y r =>
        have h2 : (!ltCps y.cps.toList x.cps.toList && risingS y r) = true := h'
        rw [Bool.and_eq_true] at h2
        exact h2.2
    obtain ⟨n1, n2⟩ := List.nodup_cons.mp hn
    refine List.pairwise_cons.mpr ⟨fun y hy => ?_, sorted_strict hr n2⟩
    have h3 := rising_all r x h' y hy
    by_cases z : Lt x y
    · exact z
    · have e : tl x = tl y := List.le_antisymm (List.not_lt.mp h3) (List.not_lt.mp z)
      exact absurd (ext_tl e ▸ hy) n1
/-- the law's own sums, and those that were read -/
theorem terms_one {its : List Item} {ks ys ns zs : List Str} (p1 : ys.Perm ks) (s1 : sortedS ys = true) (n1 : ks.Nodup) (m1 : ∀ v, v ∈ ks ↔ ∃ x ∈ its, x.2.name = some v) (p2 : zs.Perm ns) (s2 : sortedS zs = true) (n2 : ns.Nodup)
    (m2 : ∀ x ∈ its, ∀ v, x.2.name = some v → v ∈ ns) : termsOf ys its = termsOf zs its := by
  unfold termsOf
  congr 1
  refine eq_of_strict lt_irr lt_asy ((sorted_strict s1 (p1.symm.nodup n1)).filter _) ((sorted_strict s2 (p2.symm.nodup n2)).filter _) fun x => ?_
  rw [List.mem_filter, List.mem_filter, p1.mem_iff, p2.mem_iff, m1]
  constructor
  · rintro ⟨⟨y, hy, e⟩, h⟩
    exact ⟨m2 y hy x e, h⟩
  · rintro ⟨_, h⟩
    refine ⟨?_, h⟩
    by_cases hx : ∃ y ∈ its, y.2.name = some x
    · exact hx
    · exfalso
      rw [nsum_none fun y hy e => hx ⟨y, hy, e⟩, decide_eq_true rfl] at h
      cases h
/-! ### the tokens of a text, without their places -/
abbrev tk (k p : Str) : Str × Str := (k, p)
def kp (t : Tok3) : Str × Str := (t.1, t.2.1)
def kt (cs : List Nat) : List (Str × Str) := (toksL cs 0).map kp
theorem toksF_kp : ∀ (n : Nat) (cs : List Nat) (p q : Nat), (toksF n cs p).map kp = (toksF n cs q).map kp
  | 0, _, _, _ => rfl
  | _ + 1, [], _, _ => rfl
  | n + 1, c :: r, p, q => by
    show (if blank c = true then toksF n r (p + 1) else _ :: toksF n _ _).map kp = (if blank c = true then toksF n r (q + 1) else _ :: toksF n _ _).map kp
    by_cases h : blank c = true
    · rw [if_pos h, if_pos h]
      exact toksF_kp n r _ _
    · rw [if_neg h, if_neg h, List.map_cons, List.map_cons, toksF_kp n _ _ (q + max 1 (runLen (c :: r)))]
      rfl
theorem kt_at (cs : List Nat) (p : Nat) : (toksL cs p).map kp = kt cs := toksF_kp _ _ _ _
theorem blanks_are : (Str.ofString " \n").cps.toList = [32, 10] := by decide +kernel
theorem kt_space {r : List Nat} : kt (32 :: r) = kt r := by
  unfold kt
  rw [toksL_blank (by decide +kernel)]
  exact kt_at r 1
theorem kt_spaces : ∀ (g : Nat) {r : List Nat}, kt (List.replicate g 32 ++ r) = kt r
  | 0, _ => rfl
  | g + 1, r => by
    show kt (32 :: (List.replicate g 32 ++ r)) = kt r
    rw [kt_space, kt_spaces g]
theorem alnum_solid {c : Nat} (h : alnum c = true) : blank c = false := by
  cases hb : blank c with
  | false => rfl
  | true =>
    have hm : c ∈ ([32, 10] : List Nat) := by
      have := of_decide_eq_true hb
      rw [blanks_are] at this
      exact this
    simp only [List.mem_cons, List.not_mem_nil, or_false] at hm
    rcases hm with rfl | rfl
    · exact absurd h (by decide +kernel)
    · exact absurd h (by decide +kernel)
def Stop (r : List Nat) : Prop := ∀ c s, r = c :: s → alnum c = false
theorem runLen_run : ∀ {w rest : List Nat}, w.all alnum = true → Stop rest → runLen (w ++ rest) = w.length
  | [], [], _, _ => rfl
  | [], c :: r, _, h => runLen_miss (h c r rfl)
  | c :: w, rest, h, hs => by
    have h' : (alnum c && w.all alnum) = true := h
    rw [Bool.and_eq_true] at h'
    rw [List.cons_append, runLen_hit h'.1, runLen_run h'.2 hs]
    rfl
theorem kt_run {w rest : List Nat} (h0 : w ≠ []) (h : w.all alnum = true) (hs : Stop rest) : kt (w ++ rest) = (kindOf ⟨w.toArray⟩, (⟨w.toArray⟩ : Str)) :: kt rest := by
  have hr := runLen_run h hs
  cases w with
  | nil => exact absurd rfl h0
  | cons c w =>
    have h' : (alnum c && w.all alnum) = true := h
    rw [Bool.and_eq_true] at h'
    have hm : max 1 (runLen (c :: (w ++ rest))) = (c :: w).length := by
      rw [show c :: (w ++ rest) = (c :: w) ++ rest from rfl, hr, List.length_cons]
      omega
    unfold kt
    rw [show (c :: w) ++ rest = c :: (w ++ rest) from rfl, toksL_tok (alnum_solid h'.1), hm, show c :: (w ++ rest) = (c :: w) ++ rest from rfl, List.take_left, List.drop_left, List.map_cons, kt_at]
    rfl
theorem kt_sign {c : Nat} {rest : List Nat} (h : alnum c = false) (hb : blank c = false) : kt (c :: rest) = (kindOf ⟨#[c]⟩, (⟨#[c]⟩ : Str)) :: kt rest := by
  unfold kt
  rw [toksL_tok hb, runLen_miss h]
  show _ :: (toksL rest (0 + 1)).map kp = _
  rw [kt_at]
  rfl
/-! ### what the law's words are -/
theorem letters_no {c : Nat} (h1 : 48 ≤ c) (h2 : c ≤ 57) : letter c = false ∧ digit c = true := by
  have : c = 48 ∨ c = 49 ∨ c = 50 ∨ c = 51 ∨ c = 52 ∨ c = 53 ∨ c = 54 ∨ c = 55 ∨ c = 56 ∨ c = 57 := by omega
  rcases this with rfl | rfl | rfl | rfl | rfl | rfl | rfl | rfl | rfl | rfl <;> exact ⟨by decide +kernel, by decide +kernel⟩
structure NameOk (v : Str) : Prop where
  ex : ∃ c ds, tl v = c :: ds ∧ letter c = true ∧ ds ≠ [] ∧ ∀ d ∈ ds, 48 ≤ d ∧ d ≤ 57
  len : v.length ≤ 20
theorem NameOk.ne {v : Str} (h : NameOk v) : tl v ≠ [] := by
  obtain ⟨⟨c, ds, e, _⟩, _⟩ := h
  rw [e]
  exact List.cons_ne_nil _ _
theorem NameOk.run {v : Str} (h : NameOk v) : (tl v).all alnum = true := by
  obtain ⟨⟨c, ds, e, hc, _, hd⟩, _⟩ := h
  rw [e, List.all_eq_true]
  intro x hx
  rcases List.mem_cons.mp hx with rfl | hx
  · unfold alnum
    rw [hc]
    rfl
  · obtain ⟨a, b⟩ := hd x hx
    unfold alnum
    rw [(letters_no a b).2, Bool.or_true]
theorem kws_plain : ∀ y ∈ kws, ∃ z : Str, y = .str z ∧ ∀ c ∈ tl z, digit c = false := by
  intro y hy
  have h : kws.all (fun v => match v with | .str z => (tl z).all fun c => !digit c | _ => false) = true := by decide +kernel
  have := List.all_eq_true.mp h y hy
  cases y with
  | str z =>
    refine ⟨z, rfl, fun c hc => ?_⟩
    have := List.all_eq_true.mp this c hc
    simpa using this
  | _ => cases this
theorem NameOk.kind {v : Str} (h : NameOk v) : kindOf v = "NAME" := by
  have hr := h.run
  obtain ⟨⟨c, ds, e, hc, h0, hd⟩, _⟩ := h
  have hw : isW v = true := by
    unfold isW
    rw [e] at hr ⊢
    show (letter c && (c :: ds).all alnum) = true
    rw [hc, hr]
    rfl
  have hk : ¬ inV (.str v) kws = true := by
    intro hi
    unfold inV at hi
    obtain ⟨y, hy, he⟩ := List.any_eq_true.mp hi
    obtain ⟨z, rfl, hz⟩ := kws_plain y hy
    have ez : z = v := by
      have : (z == v) = true := he
      exact eq_of_beq this
    subst ez
    obtain ⟨d, r, rfl⟩ : ∃ d r, ds = d :: r := by
      cases ds with
      | nil => exact absurd rfl h0
      | cons d r => exact ⟨d, r, rfl⟩
    have hdm := hd d List.mem_cons_self
    have := hz d (by rw [e]; simp)
    rw [(letters_no hdm.1 hdm.2).2] at this
    cases this
  unfold kindOf
  rw [if_pos hw, if_neg hk]
theorem numL_head : ∀ (n : Nat) (r : List Nat), numL n = 48 :: r → n = 0 := by
  intro n
  induction n using Nat.strongRecOn with
  | _ n ih =>
    intro r h
    by_cases hn : n < 10
    · rw [numL_lt hn] at h
      have := (List.cons.inj h).1
      omega
    · rw [numL_step (by omega)] at h
      cases hq : numL (n / 10) with
      | nil => exact absurd hq (numL_ne _)
      | cons x xs =>
        rw [hq] at h
        have hx : x = 48 := (List.cons.inj h).1
        rw [hx] at hq
        have := ih (n / 10) (by omega) xs hq
        omega
theorem num_digit {n d : Nat} (h : d ∈ numL n) : 48 ≤ d ∧ d ≤ 57 := by
  have := numL_digits n d h
  first
    | exact this
    | (constructor <;> omega)
    | simpa using this
theorem num_run (n : Nat) : (numL n).all alnum = true := by
  rw [List.all_eq_true]
  intro x hx
  obtain ⟨a, b⟩ := num_digit hx
  unfold alnum
  rw [(letters_no a b).2, Bool.or_true]
theorem numT_tl (n : Nat) : tl (numT (n : Int)) = numL n := by
  unfold numT
  exact tl_num n
theorem num_kind (n : Nat) : kindOf (numT (n : Int)) = "NUMBER" := by
  cases hq : numL n with
  | nil => exact absurd hq (numL_ne _)
  | cons x xs =>
    have hx := num_digit (n := n) (d := x) (by rw [hq]; exact List.mem_cons_self)
    have hw : ¬ isW (numT (n : Int)) = true := by
      rw [isW_not (by rw [numT_tl]; exact hq) (letters_no hx.1 hx.2).1]
      exact Bool.false_ne_true
    have hn : isNum (numT (n : Int)) = true := by
      unfold isNum
      rw [numT_tl, hq]
      dsimp only
      by_cases e : decide (V.str ⟨#[x]⟩ = V.str (Str.ofString "0")) = true
      · rw [if_pos e]
        have e1 : (⟨#[x]⟩ : Str) = Str.ofString "0" := V.str.inj (of_decide_eq_true e)
        have e2 : x = 48 := by
          have := congrArg tl e1
          rw [show tl (Str.ofString "0") = [48] from by decide +kernel] at this
          exact (List.cons.inj this).1
        rw [e2] at hq
        have := numL_head n xs hq
        subst this
        exact decide_eq_true (by decide +kernel)
      · rw [if_neg e, List.all_eq_true]
        intro y hy
        have hy' := num_digit (n := n) (d := y) (by rw [hq]; exact hy)
        exact (letters_no hy'.1 hy'.2).2
    unfold kindOf
    rw [if_neg hw, if_pos hn]
theorem num_good {n : Nat} (h : (n : Int) < 1000000000000) : Good (numT (n : Int)) (n : Int) := by
  have hl : (numL n).length ≤ 12 := numL_len (by decide) (by have e : (10 : Nat) ^ 12 = 1000000000000 := by decide
                                                             rw [e]; omega)
  refine ⟨int_num (by omega), ?_, by omega, h⟩
  rw [len_tl, numT_tl]
  exact hl
/-! ### the codes and tokens of terms -/
def TmOk : Tm3 → Prop
  | .nm v => NameOk v
  | .nu d n => ∃ k : Nat, n = (k : Int) ∧ d = numT n ∧ n < 1000000000000
  | .pr d n v => (∃ k : Nat, n = (k : Int) ∧ d = numT n ∧ n < 1000000000000) ∧ NameOk v
def tmCodes : Tm3 → List Nat
  | .nm v => tl v
  | .nu d _ => tl d
  | .pr d _ v => tl d ++ (42 :: tl v)
def tmToks : Tm3 → List (Str × Str)
  | .nm v => [tk "NAME" v]
  | .nu d _ => [tk "NUMBER" d]
  | .pr d _ v => [tk "NUMBER" d, tk "*" "*", tk "NAME" v]
theorem kt_name {v : Str} {rest : List Nat} (h : NameOk v) (hs : Stop rest) : kt (tl v ++ rest) = tk "NAME" v :: kt rest := by
  rw [kt_run h.ne h.run hs, show (⟨(tl v).toArray⟩ : Str) = v from rfl, h.kind]
theorem kt_num {k : Nat} {rest : List Nat} (hs : Stop rest) : kt (tl (numT (k : Int)) ++ rest) = tk "NUMBER" (numT (k : Int)) :: kt rest := by
  rw [kt_run (by rw [numT_tl]; exact numL_ne k) (by rw [numT_tl]; exact num_run k) hs, show (⟨(tl (numT (k : Int))).toArray⟩ : Str) = numT (k : Int) from rfl, num_kind]
theorem stop_sign {c : Nat} {r : List Nat} (h : alnum c = false) : Stop (c :: r) := fun c' s e => by
  rw [← (List.cons.inj e).1]
  exact h
theorem kt_tm {t : Tm3} {rest : List Nat} (h : TmOk t) (hs : Stop rest) : kt (tmCodes t ++ rest) = tmToks t ++ kt rest := by
  cases t with
  | nm v => exact kt_name h hs
  | nu d n =>
    obtain ⟨k, rfl, rfl, _⟩ := h
    exact kt_num hs
  | pr d n v =>
    obtain ⟨⟨k, rfl, rfl, _⟩, hv⟩ := h
    show kt (tl (numT (k : Int)) ++ (42 :: tl v) ++ rest) = _
    rw [List.append_assoc, kt_num (rest := 42 :: tl v ++ rest) (stop_sign (by decide +kernel)), List.cons_append, kt_sign (by decide +kernel) (by decide +kernel), kt_name hv hs]
    rfl
def sgTok (b : Bool) : Str × Str := if b = true then tk "-" "-" else tk "+" "+"
def sgCode (b : Bool) : Nat := if b = true then 45 else 43
theorem kt_sg {b : Bool} {rest : List Nat} : kt (sgCode b :: rest) = sgTok b :: kt rest := by
  cases b
  · exact kt_sign (c := 43) (by decide +kernel) (by decide +kernel)
  · exact kt_sign (c := 45) (by decide +kernel) (by decide +kernel)
theorem sg_stop (b : Bool) : alnum (sgCode b) = false := by
  cases b
  · decide +kernel
  · decide +kernel
def restToks : List Item → List (Str × Str)
  | [] => []
  | (b, t) :: r => sgTok b :: (tmToks t ++ restToks r)
def exprToks : List Item → List (Str × Str)
  | [] => []
  | (b, t) :: r => (if b = true then [tk "-" "-"] else []) ++ (tmToks t ++ restToks r)
theorem restToks_app : ∀ (r : List Item) (b : Bool) (t : Tm3), restToks (r ++ [(b, t)]) = restToks r ++ (sgTok b :: tmToks t)
  | [], b, t => by
    show sgTok b :: (tmToks t ++ []) = _
    rw [List.append_nil]
    rfl
  | (b', t') :: r, b, t => by
    show sgTok b' :: (tmToks t' ++ restToks (r ++ [(b, t)])) = sgTok b' :: (tmToks t' ++ restToks r) ++ _
    rw [restToks_app r b t, List.cons_append, List.append_assoc]
theorem exprToks_app {its : List Item} {b : Bool} {t : Tm3} (h : its ≠ []) : exprToks (its ++ [(b, t)]) = exprToks its ++ (sgTok b :: tmToks t) := by
  cases its with
  | nil => exact absurd rfl h
  | cons x r =>
    obtain ⟨b', t'⟩ := x
    show _ ++ (tmToks t' ++ restToks (r ++ [(b, t)])) = _ ++ (tmToks t' ++ restToks r) ++ _
    rw [restToks_app, List.append_assoc, List.append_assoc]
/-- a text so far reads as these terms -/
def Reads (text : Str) (its : List Item) : Prop := ∀ rest, Stop rest → kt (tl text ++ rest) = exprToks its ++ kt rest
theorem reads_nil : Reads (Str.ofString "") [] := fun rest _ => by
  rw [tl_empty]
  rfl
theorem stop_spaces {g : Nat} {r : List Nat} (h : Stop r) : Stop (List.replicate g 32 ++ r) := by
  cases g with
  | zero => exact h
  | succ g => exact stop_sign (by decide +kernel)
/-- one more term behind a sign -/
theorem reads_more {text : Str} {its : List Item} {g : Nat} {b : Bool} {t : Tm3} {text' : Str} (h : Reads text its) (h0 : its ≠ []) (ht : TmOk t) (e : tl text' = tl text ++ (List.replicate g 32 ++ (sgCode b :: (List.replicate g 32 ++ tmCodes t)))) : Reads text' (its ++ [(b, t)]) := by
  intro rest hs
  rw [e, List.append_assoc, h _ (by rw [List.append_assoc]; exact stop_spaces (stop_sign (sg_stop b))), List.append_assoc, kt_spaces, List.cons_append, kt_sg, List.append_assoc, kt_spaces, kt_tm ht hs, exprToks_app h0, List.append_assoc]
  rfl
theorem reads_first {g : Nat} {b : Bool} {t : Tm3} {text' : Str} (ht : TmOk t) (e : tl text' = List.replicate g 32 ++ ((if b = true then [45] else []) ++ (List.replicate g 32 ++ tmCodes t))) : Reads text' [(b, t)] := by
  intro rest hs
  have e1 : exprToks [(b, t)] = (if b = true then [tk "-" "-"] else []) ++ tmToks t := by
    show _ ++ (tmToks t ++ []) = _
    rw [List.append_nil]
  rw [e, List.append_assoc, kt_spaces, e1]
  cases b with
  | true =>
    show kt (sgCode true :: (List.replicate g 32 ++ tmCodes t ++ rest)) = _
    rw [kt_sg, List.append_assoc, kt_spaces, kt_tm ht hs]
    rfl
  | false =>
    show kt (List.replicate g 32 ++ tmCodes t ++ rest) = _
    rw [List.append_assoc, kt_spaces, kt_tm ht hs]
    rfl
/-! ### from tokens to their places -/
theorem at_kp {ts : List Tok3} {i : Nat} {k p : Str} (h : (ts.map kp)[i]? = some (k, p)) : At ts i k p := by
  rw [List.getElem?_map] at h
  cases e : ts[i]? with
  | none =>
    rw [e] at h
    cases h
  | some t =>
    rw [e] at h
    obtain ⟨k', p', pos⟩ := t
    have := Option.some.inj h
    have h1 : k' = k := congrArg Prod.fst this
    have h2 : p' = p := congrArg Prod.snd this
    exact ⟨pos, by rw [e, h1, h2]⟩
theorem at_pre {ts : List Tok3} {pre post : List (Str × Str)} {k p : Str} {i : Nat} (h : ts.map kp = pre ++ (k, p) :: post) (hi : i = pre.length) : At ts i k p := by
  apply at_kp
  rw [h, hi, List.getElem?_append_right (Nat.le_refl _), Nat.sub_self]
  rfl
/-- what begins a further term, or ends the sum -/
def EndTok (k : Str) : Prop := k ≠ "+" ∧ k ≠ "-" ∧ k ≠ "*"
theorem tm_at {ts : List Tok3} {pre post : List (Str × Str)} {t : Tm3} {k p : Str} (ht : TmOk t) (hk : k ≠ "*") (h : ts.map kp = pre ++ (tmToks t ++ (k, p) :: post)) : TmAt ts pre.length t ∧ (tmToks t).length = t.size := by
  cases t with
  | nm v => exact ⟨at_pre h rfl, rfl⟩
  | nu d n =>
    obtain ⟨j, rfl, rfl, hn⟩ := ht
    exact ⟨⟨num_good hn, at_pre h rfl, k, p, at_pre (pre := pre ++ [tk "NUMBER" (numT (j : Int))]) (by rw [List.append_assoc]; exact h) (by rw [List.length_append]; rfl), hk⟩, rfl⟩
  | pr d n v =>
    obtain ⟨⟨j, rfl, rfl, hn⟩, hv⟩ := ht
    exact ⟨⟨num_good hn, at_pre h rfl, at_pre (pre := pre ++ [tk "NUMBER" (numT (j : Int))]) (by rw [List.append_assoc]; exact h) (by rw [List.length_append]; rfl),
      at_pre (pre := pre ++ [tk "NUMBER" (numT (j : Int)), tk "*" "*"]) (by rw [List.append_assoc]; exact h) (by rw [List.length_append]; rfl)⟩, rfl⟩
theorem sg_star (b : Bool) : (sgTok b).1 ≠ "*" := by
  cases b
  · decide +kernel
  · decide +kernel
/-- the token behind a term -/
theorem rest_head (r : List Item) {k p : Str} {post : List (Str × Str)} (hk : EndTok k) : ∃ k' p' post', restToks r ++ (k, p) :: post = (k', p') :: post' ∧ k' ≠ "*" := by
  cases r with
  | nil => exact ⟨k, p, post, rfl, hk.2.2⟩
  | cons x r =>
    obtain ⟨b, t⟩ := x
    exact ⟨(sgTok b).1, (sgTok b).2, tmToks t ++ restToks r ++ (k, p) :: post, rfl, sg_star b⟩
theorem rest_at : ∀ (r : List Item) {ts : List Tok3} {pre post : List (Str × Str)} {k p : Str}, (∀ x ∈ r, TmOk x.2) → EndTok k → ts.map kp = pre ++ (restToks r ++ (k, p) :: post) → RestAt ts pre.length r ∧ endR pre.length r = pre.length + (restToks r).length
  | [], ts, pre, post, k, p, _, hk, h => ⟨⟨k, p, at_pre h rfl, hk.1, hk.2.1⟩, rfl⟩
  | (b, t) :: r, ts, pre, post, k, p, hr, hk, h => by
    have h1 : ts.map kp = (pre ++ [sgTok b]) ++ (tmToks t ++ (restToks r ++ (k, p) :: post)) := by
      rw [h]
      show pre ++ (sgTok b :: (tmToks t ++ restToks r) ++ (k, p) :: post) = _
      rw [List.append_assoc, List.cons_append, List.append_assoc]
      rfl
    have h2 : ts.map kp = (pre ++ [sgTok b] ++ tmToks t) ++ (restToks r ++ (k, p) :: post) := by
      rw [h1, ← List.append_assoc]
    obtain ⟨k', p', post', e, hk'⟩ := rest_head r (p := p) (post := post) hk
    have h3 := h1
    rw [e] at h3
    obtain ⟨a1, l1⟩ := tm_at (hr _ List.mem_cons_self) hk' h3
    have l1 : (tmToks t).length = t.size := l1
    obtain ⟨a2, l2⟩ := rest_at r (fun x hx => hr x (List.mem_cons_of_mem _ hx)) hk h2
    have ll : (pre ++ [sgTok b] ++ tmToks t).length = pre.length + 1 + t.size := by
      rw [List.length_append, List.length_append, l1]
      rfl
    rw [List.length_append] at a1
    rw [ll] at a2 l2
    refine ⟨⟨?_, a1, a2⟩, ?_⟩
    · have h0 : ts.map kp = pre ++ (sgTok b :: (tmToks t ++ (restToks r ++ (k, p) :: post))) := by
        rw [h1, List.append_assoc]
        rfl
      cases b
      · exact ⟨_, at_pre (k := "+") (p := "+") h0 rfl⟩
      · exact ⟨_, at_pre (k := "-") (p := "-") h0 rfl⟩
    · show endR (pre.length + 1 + t.size) r = _
      rw [l2]
      show _ = pre.length + (sgTok b :: (tmToks t ++ restToks r)).length
      rw [List.length_cons, List.length_append, l1]
      omega
theorem expr_at {ts : List Tok3} {pre post : List (Str × Str)} {b : Bool} {t : Tm3} {r : List Item} {k p : Str} (hr : ∀ x ∈ (b, t) :: r, TmOk x.2) (hk : EndTok k) (h : ts.map kp = pre ++ (exprToks ((b, t) :: r) ++ (k, p) :: post)) :
    ExprAt ts pre.length b t r ∧ endE pre.length b t r = pre.length + (exprToks ((b, t) :: r)).length := by
  obtain ⟨k', p', post', e, hk'⟩ := rest_head r (p := p) (post := post) hk
  cases b with
  | true =>
    have h1 : ts.map kp = (pre ++ [tk "-" "-"]) ++ (tmToks t ++ (restToks r ++ (k, p) :: post)) := by
      rw [h]
      show pre ++ ([tk "-" "-"] ++ (tmToks t ++ restToks r) ++ (k, p) :: post) = _
      rw [List.append_assoc, List.append_assoc, List.append_assoc]
    have h2 : ts.map kp = (pre ++ [tk "-" "-"] ++ tmToks t) ++ (restToks r ++ (k, p) :: post) := by
      rw [h1, ← List.append_assoc]
    have h3 := h1
    rw [e] at h3
    obtain ⟨a1, l1⟩ := tm_at (hr _ List.mem_cons_self) hk' h3
    have l1 : (tmToks t).length = t.size := l1
    obtain ⟨a2, l2⟩ := rest_at r (fun x hx => hr x (List.mem_cons_of_mem _ hx)) hk h2
    have ll : (pre ++ [tk "-" "-"] ++ tmToks t).length = pre.length + 1 + t.size := by
      rw [List.length_append, List.length_append, l1]
      rfl
    rw [List.length_append] at a1
    rw [ll] at a2 l2
    have h0 : ts.map kp = pre ++ (tk "-" "-" :: (tmToks t ++ (restToks r ++ (k, p) :: post))) := by
      rw [h1, List.append_assoc]
      rfl
    refine ⟨⟨⟨_, at_pre h0 rfl⟩, a1, a2⟩, ?_⟩
    show endR (pre.length + 1 + t.size) r = _
    rw [l2]
    show _ = pre.length + ([tk "-" "-"] ++ (tmToks t ++ restToks r)).length
    rw [List.length_append, List.length_append, l1]
    show _ = pre.length + (1 + (t.size + (restToks r).length))
    omega
  | false =>
    have h1 : ts.map kp = pre ++ (tmToks t ++ (restToks r ++ (k, p) :: post)) := by
      rw [h]
      show pre ++ ([] ++ (tmToks t ++ restToks r) ++ (k, p) :: post) = _
      rw [List.nil_append, List.append_assoc]
    have h2 : ts.map kp = (pre ++ tmToks t) ++ (restToks r ++ (k, p) :: post) := by
      rw [h1, ← List.append_assoc]
    have h3 := h1
    rw [e] at h3
    obtain ⟨a1, l1⟩ := tm_at (hr _ List.mem_cons_self) hk' h3
    have l1 : (tmToks t).length = t.size := l1
    obtain ⟨a2, l2⟩ := rest_at r (fun x hx => hr x (List.mem_cons_of_mem _ hx)) hk h2
    have ll : (pre ++ tmToks t).length = pre.length + t.size := by rw [List.length_append, l1]
    rw [ll] at a2 l2
    refine ⟨⟨a1, a2⟩, ?_⟩
    show endR (pre.length + t.size) r = _
    rw [l2]
    show _ = pre.length + ([] ++ (tmToks t ++ restToks r)).length
    rw [List.nil_append, List.length_append, l1]
    omega
/-! ### the whole text -/
theorem kt_join : ∀ (ns : List Str) (rest : List Nat), (∀ v ∈ ns, NameOk v) → Stop rest → kt (joinL [32] (ns.map tl) ++ rest) = ns.map (fun v => tk "NAME" v) ++ kt rest
  | [], rest, _, _ => rfl
  | [v], rest, h, hs => kt_name (h v List.mem_cons_self) hs
  | v :: u :: r, rest, h, hs => by
    show kt (tl v ++ ([32] ++ joinL [32] (tl u :: r.map tl)) ++ rest) = _
    rw [List.append_assoc]
    show kt (tl v ++ (32 :: (joinL [32] ((u :: r).map tl) ++ rest))) = _
    rw [kt_name (h v List.mem_cons_self) (stop_sign (by decide +kernel)), kt_space, kt_join (u :: r) rest (fun x hx => h x (List.mem_cons_of_mem _ hx)) hs]
    rfl
theorem whole_kt {ns : List Str} {text : Str} {its : List Item} (hn : ∀ v ∈ ns, NameOk v) (hr : Reads text its) :
    kt (tl (Str.ofString "globals " ++ Txt.join (Str.ofString " ") ns ++ Str.ofString " keep" ++ Str.ofString " " ++ text)) = tk "globals" "globals" :: (ns.map (fun v => tk "NAME" v) ++ (tk "keep" "keep" :: exprToks its)) := by
  rw [tl_append, tl_append, tl_append, tl_append, join_eq, tl_join, show tl (Str.ofString "globals ") = tl (Str.ofString "globals") ++ [32] from by decide +kernel, show tl (Str.ofString " ") = [32] from by decide +kernel,
    show tl (Str.ofString " keep") = 32 :: tl (Str.ofString "keep") from by decide +kernel]
  rw [List.append_assoc, List.append_assoc, List.append_assoc, List.append_assoc]
  show kt (tl (Str.ofString "globals") ++ (32 :: (joinL [32] (ns.map tl) ++ (32 :: (tl (Str.ofString "keep") ++ (32 :: tl text)))))) = _
  rw [kt_run (by decide +kernel) (by decide +kernel) (stop_sign (by decide +kernel)), kt_space, kt_join ns _ hn (stop_sign (by decide +kernel)), kt_space, kt_run (by decide +kernel) (by decide +kernel) (stop_sign (by decide +kernel)), kt_space]
  have h0 := hr [] (fun _ _ e => by cases e)
  rw [List.append_nil] at h0
  rw [h0, show kt [] = [] from rfl, List.append_nil]
  have e1 : kindOf ⟨(tl (Str.ofString "globals")).toArray⟩ = Str.ofString "globals" := by decide +kernel
  have e2 : kindOf ⟨(tl (Str.ofString "keep")).toArray⟩ = Str.ofString "keep" := by decide +kernel
  rw [e1, e2]
end K1
namespace K1
open PySem PySem.Spec PyProof.Rows L2 TL
theorem nameL_inj {c : Nat} {s : Int} {j k : Nat} (hj : j < 16) (hk : k < 16) (h : nameL c s j = nameL c s k) : j = k := by
  have h1 := congrArg tl h
  unfold nameL at h1
  rw [tl_append, tl_append] at h1
  have h2 := List.append_cancel_left h1
  obtain ⟨m, hm⟩ : ∃ m : Nat, (7 * ((0 : Int) + (j : Int)) + s) % 16 = (m : Int) := ⟨((7 * ((0 : Int) + (j : Int)) + s) % 16).toNat, by omega⟩
  obtain ⟨n, hn⟩ : ∃ n : Nat, (7 * ((0 : Int) + (k : Int)) + s) % 16 = (n : Int) := ⟨((7 * ((0 : Int) + (k : Int)) + s) % 16).toNat, by omega⟩
  rw [hm, hn, numT_tl, numT_tl] at h2
  have := numL_inj h2
  subst this
  omega
theorem names_nodup (c : Nat) (s : Int) : (namesL c s).Nodup := by
  unfold namesL
  rw [List.nodup_iff_pairwise_ne, List.pairwise_map]
  refine List.Pairwise.imp_of_mem ?_ (List.nodup_iff_pairwise_ne.mp List.nodup_range)
  intro a b ha hb hab h
  exact hab (nameL_inj (List.mem_range.mp ha) (List.mem_range.mp hb) h)
theorem names_ok {c : Nat} {s : Int} (hc : c ∈ tl LET) : ∀ v ∈ namesL c s, NameOk v := by
  intro v hv
  obtain ⟨k, hk, rfl⟩ := List.mem_map.mp hv
  obtain ⟨m, hm⟩ : ∃ m : Nat, (7 * ((0 : Int) + (k : Int)) + s) % 16 = (m : Int) := ⟨((7 * ((0 : Int) + (k : Int)) + s) % 16).toNat, by omega⟩
  have hm16 : m < 16 := by omega
  have e : tl (nameL c s k) = c :: numL m := by
    unfold nameL
    rw [tl_append, hm, numT_tl]
    rfl
  refine ⟨⟨c, numL m, e, decide_eq_true hc, numL_ne m, fun d hd => num_digit hd⟩, ?_⟩
  have hl : (numL m).length ≤ 2 := numL_len (by decide) (by omega)
  rw [len_tl, e, List.length_cons]
  omega
theorem cut_take {xs : List V} {m : Nat} (h : m ≤ xs.length) : cutV xs none (some ((m : Nat) : Int)) = xs.take m := by
  unfold cutV
  rw [HT.sIx_nat, HT.sIx_none, Nat.min_eq_left h]
  rfl
/-- where the law stands behind i terms: the text, the terms, the sums -/
structure MI (ns : List Str) (i : Nat) (tx : Str) (its : List Item) (sm : List Int) : Prop where
  len : its.length = i
  sl : sm.length = ns.length + 1
  sums : ∀ (j : Nat) (v : Str), ns[j]? = some v → sm[j]? = some (nsum (some v) its)
  last : sm[ns.length]? = some (nsum none its)
  bnd : ∀ x ∈ sm, -(1000000000000 * (i : Int)) ≤ x ∧ x ≤ 1000000000000 * (i : Int)
  ok : ∀ x ∈ its, TmOk x.2 ∧ ∀ v, x.2.name = some v → v ∈ ns
  rd : Reads tx its
  tln : tx.length ≤ 100 * i
  zero : i = 0 → tl tx = []
theorem item_of {ns : List Str} (hok : ∀ v ∈ ns, NameOk v) {j : Nat} {w : Str} (hw : (ns ++ [Str.ofString ""])[j]? = some w) {num : Int} {sh : Bool} (h0 : 0 ≤ num) (h1 : num < 1000000000000) :
    ∃ t : Tm3, tl (ltermT w num sh) = tmCodes t ∧ TmOk t ∧ t.val = num ∧ ((j < ns.length ∧ ns[j]? = some w ∧ t.name = some w) ∨ (j = ns.length ∧ t.name = none)) ∧ w.length ≤ 20 := by
  obtain ⟨k, rfl⟩ : ∃ k : Nat, num = (k : Int) := ⟨num.toNat, by omega⟩
  by_cases hj : j < ns.length
  · rw [List.getElem?_append_left hj] at hw
    have hn := hok w (List.mem_of_getElem? hw)
    unfold ltermT
    rw [if_neg (by rw [not_empty hn.ne]; exact Bool.false_ne_true)]
    by_cases hs : (sh && decide (V.int (k : Int) = V.int 1)) = true
    · rw [if_pos hs]
      have hk : (k : Int) = 1 := by
        rw [Bool.and_eq_true] at hs
        exact V.int.inj (of_decide_eq_true hs.2)
      exact ⟨.nm w, rfl, hn, hk.symm, .inl ⟨hj, hw, rfl⟩, hn.len⟩
    · rw [if_neg hs]
      refine ⟨.pr (numT (k : Int)) (k : Int) w, ?_, ⟨⟨k, rfl, rfl, h1⟩, hn⟩, rfl, .inl ⟨hj, hw, rfl⟩, hn.len⟩
      rw [tl_append, tl_append, show tl (Str.ofString "*") = [42] from by decide +kernel, List.append_assoc]
      rfl
  · rw [List.getElem?_append_right (by omega)] at hw
    have hj' : j = ns.length := by
      have := (List.getElem?_eq_some_iff.mp hw).1
      simp at this
      omega
    subst hj'
    rw [Nat.sub_self] at hw
    have e : Str.ofString "" = w := Option.some.inj hw
    subst e
    unfold ltermT
    rw [if_pos (decide_eq_true rfl)]
    exact ⟨.nu (numT (k : Int)) (k : Int), rfl, ⟨k, rfl, rfl, h1⟩, rfl, .inr ⟨rfl, rfl⟩, by decide +kernel⟩
theorem MI.step {ns : List Str} {i : Nat} {tx : Str} {its : List Item} {sm : List Int} (h : MI ns i tx its sm) (hnd : ns.Nodup) (hok : ∀ v ∈ ns, NameOk v) {j : Nat} {w : Str} (hw : (ns ++ [Str.ofString ""])[j]? = some w) {num cur : Int} {sh b : Bool} {g : Nat} {tx' : Str}
    (h0 : 0 ≤ num) (h1 : num < 1000000000000) (hcur : sm[j]? = some cur) (hg : g ≤ 2)
    (e : tl tx' = tl tx ++ (List.replicate g 32 ++ ((if 0 < i ∨ b = true then [sgCode b] else []) ++ (List.replicate g 32 ++ tl (ltermT w num sh))))) :
    ∃ t : Tm3, MI ns (i + 1) tx' (its ++ [(b, t)]) (sm.set j (cur + sgn b * num)) := by
  obtain ⟨t, e1, htm, hval, hnm, hwl⟩ := item_of hok hw (sh := sh) h0 h1
  have hj : j < sm.length := (List.getElem?_eq_some_iff.mp hcur).1
  have hc : contrib (b, t) = sgn b * num := by
    unfold contrib
    rw [hval]
  have hsg : sgn b * num ≤ 1000000000000 ∧ -1000000000000 ≤ sgn b * num := by
    unfold sgn
    cases b
    · rw [if_neg (by decide)]
      omega
    · rw [if_pos rfl]
      omega
  refine ⟨t, ?_, ?_, fun j' v hv => ?_, ?_, fun x hx => ?_, fun x hx => ?_, ?_, ?_, fun z => by omega⟩
  · rw [List.length_append, h.len]
    rfl
  · rw [List.length_set]
    exact h.sl
  · rw [nsum_app, hc]
    have hs := h.sums j' v hv
    by_cases hjj : j' = j
    · subst hjj
      rw [List.getElem?_set_self hj]
      have ec : cur = nsum (some v) its := Option.some.inj (hcur.symm.trans hs)
      rcases hnm with ⟨_, hwj, hn⟩ | ⟨hjn, _⟩
      · have ev : v = w := Option.some.inj (hv.symm.trans hwj)
        subst ev
        rw [if_pos hn, ec]
      · have := (List.getElem?_eq_some_iff.mp hv).1
        omega
    · rw [List.getElem?_set_ne (fun z => hjj z.symm), hs, if_neg]
      · rw [Int.add_zero]
      · intro z
        rcases hnm with ⟨_, hwj, hn⟩ | ⟨_, hn⟩
        · have hn' : (b, t).2.name = some w := hn
          rw [hn'] at z
          have ev : w = v := Option.some.inj z
          subst ev
          exact hjj (nd_ix hnd hv hwj)
        · have hn' : (b, t).2.name = none := hn
          rw [hn'] at z
          cases z
  · rw [nsum_app, hc]
    have hs := h.last
    by_cases hjj : ns.length = j
    · rw [hjj] at hs ⊢
      rw [List.getElem?_set_self hj]
      have ec : cur = nsum none its := Option.some.inj (hcur.symm.trans hs)
      rcases hnm with ⟨hlt, _, _⟩ | ⟨_, hn⟩
      · omega
      · rw [if_pos hn, ec]
    · rw [List.getElem?_set_ne (fun z => hjj z.symm), hs, if_neg]
      · rw [Int.add_zero]
      · intro z
        rcases hnm with ⟨_, _, hn⟩ | ⟨he, _⟩
        · have hn' : (b, t).2.name = some w := hn
          rw [hn'] at z
          cases z
        · exact hjj he.symm
  · have hb := h.bnd
    rcases List.mem_or_eq_of_mem_set hx with hx | rfl
    · have := hb x hx
      push_cast
      omega
    · have := hb cur (List.mem_of_getElem? hcur)
      push_cast
      omega
  · rcases List.mem_append.mp hx with hx | hx
    · exact h.ok x hx
    · rw [List.mem_singleton.mp hx]
      refine ⟨htm, fun v hv => ?_⟩
      rcases hnm with ⟨_, hwj, hn⟩ | ⟨_, hn⟩
      · have hn' : (b, t).2.name = some w := hn
        rw [hn'] at hv
        rw [← Option.some.inj hv]
        exact List.mem_of_getElem? hwj
      · have hn' : (b, t).2.name = none := hn
        rw [hn'] at hv
        cases hv
  · rw [e1] at e
    by_cases hi : i = 0
    · have h0' := h.zero hi
      have hits : its = [] := List.length_eq_zero_iff.mp (h.len.trans hi)
      rw [hits, List.nil_append]
      refine reads_first htm (g := g) ?_
      rw [e, h0', List.nil_append, hi]
      cases b
      · rw [if_neg (by simp), if_neg (by simp)]
      · rw [if_pos (.inr rfl), if_pos rfl]
        rfl
    · rw [if_pos (.inl (by omega))] at e
      exact reads_more h.rd (fun z => hi (by rw [← h.len, z]; rfl)) htm e
  · have hl := ltermT_len (v := w) (b := sh) h0 (show num < 1000000000000000000 by omega)
    have h2 := congrArg List.length e
    rw [← len_tl, List.length_append, List.length_append, List.length_append, List.length_append, List.length_replicate, ← len_tl, ← len_tl] at h2
    have h3 : (if 0 < i ∨ b = true then [sgCode b] else []).length ≤ 1 := by
      split
      · exact Nat.le_refl _
      · exact Nat.zero_le _
    have := h.tln
    omega

/-! ### the end of the law -/
def allOf (ys : List Str) (l : List Item) : List (Str × Int) := ys.map fun y => (y, nsum (some y) l)
theorem allOf_more {ys : List Str} {l : List Item} {i : Nat} {y : Str} (h : ys[i]? = some y) : allOf (ys.take (i + 1)) l = allOf (ys.take i) l ++ [(y, nsum (some y) l)] := by
  unfold allOf
  rw [List.take_add_one, h, List.map_append]
  rfl
theorem termsOf_more {ys : List Str} {l : List Item} {i : Nat} {y : Str} (h : ys[i]? = some y) : termsOf (ys.take (i + 1)) l = termsOf (ys.take i) l ++ termsOf [y] l := by
  unfold termsOf
  rw [List.take_add_one, h, List.filter_append, List.map_append]
  rfl
theorem allOf_get {ys : List Str} {l : List Item} {i : Nat} {t : Str × Int} (h : (allOf ys l)[i]? = some t) : ys[i]? = some t.1 ∧ t.2 = nsum (some t.1) l := by
  unfold allOf at h
  rw [List.getElem?_map] at h
  cases e : ys[i]? with
  | none =>
    rw [e] at h
    cases h
  | some y =>
    rw [e] at h
    have := Option.some.inj h
    subst this
    exact ⟨rfl, rfl⟩
theorem joinL_len {m : Nat} : ∀ (xs : List (List Nat)), (∀ x ∈ xs, x.length ≤ m) → (joinL [32] xs).length ≤ xs.length * (m + 1)
  | [], _ => Nat.zero_le _
  | [x], h => by
    have := h x List.mem_cons_self
    show x.length ≤ 1 * (m + 1)
    omega
  | x :: y :: r, h => by
    have h1 := joinL_len (y :: r) fun z hz => h z (List.mem_cons_of_mem _ hz)
    have h2 := h x List.mem_cons_self
    show (x ++ ([32] ++ joinL [32] (y :: r))).length ≤ _
    rw [List.length_append, List.length_append, List.length_cons (a := x), Nat.add_mul]
    show x.length + (1 + _) ≤ _
    omega
theorem names_len {ns : List Str} (h : ∀ v ∈ ns, NameOk v) : (Txt.join (Str.ofString " ") ns).length ≤ ns.length * 21 := by
  rw [len_tl, join_eq, tl_join, show tl (Str.ofString " ") = [32] from by decide +kernel]
  have := joinL_len (m := 20) (ns.map tl) fun x hx => by
    obtain ⟨v, hv, rfl⟩ := List.mem_map.mp hx
    rw [← len_tl]
    exact (h v hv).len
  rw [List.length_map] at this
  exact this
theorem names_sum : ∀ {ns : List Str}, (∀ v ∈ ns, NameOk v) → (ns.map fun x => x.length).sum ≤ ns.length * 20
  | [], _ => Nat.zero_le _
  | v :: r, h => by
    have h1 := names_sum (ns := r) fun x hx => h x (List.mem_cons_of_mem _ hx)
    have h2 := (h v List.mem_cons_self).len
    rw [List.map_cons, List.sum_cons, List.length_cons, Nat.add_mul]
    omega
theorem sumT_len {c : Int} {l : List (Str × Int)} (hl : l.length ≤ 60) (hc : Mid c) (hF : Fine l) : (sumT c l).length ≤ 70000 := by
  obtain ⟨h0, h1⟩ := ab_mid hc
  have hpl : (partsOf c l).length ≤ 61 := by
    unfold partsOf
    rw [List.length_append, List.length_map]
    split
    · show l.length + 1 ≤ 61
      omega
    · show l.length + 0 ≤ 61
      omega
  have hps : ∀ p ∈ partsOf c l, p.2.length ≤ 1019 := by
    intro p hp
    unfold partsOf at hp
    rcases List.mem_append.mp hp with hp | hp
    · obtain ⟨y, hy, rfl⟩ := List.mem_map.mp hp
      obtain ⟨hv, hm⟩ := hF y hy
      have := termT_len (v := y.1) hm
      show (termT y.1 y.2).length ≤ 1019
      omega
    · split at hp
      · rw [List.mem_singleton.mp hp]
        have := numT_len h0 h1
        show (numT (ab c)).length ≤ 1019
        omega
      · cases hp
  have h1 := fold_len (m := 1019) (partsOf c l) (Str.ofString "") hps
  rw [show (Str.ofString "").length = 0 from by decide +kernel] at h1
  have h2 : (partsOf c l).length * (1019 + 3) ≤ 61 * (1019 + 3) := Nat.mul_le_mul_right _ hpl
  unfold sumT
  omega
theorem eqv_ref {H : Hp} {n : Nat} {p q : Addr} {xs ys : List V} (hp : H p = some (.tup xs)) (hq : H q = some (.tup ys)) (hl : xs.length = ys.length) (hb : xs.length ≤ 1000) (h : ∀ (j : Nat) (u v : V), xs[j]? = some u → ys[j]? = some v → Eqv H n u v) : Eqv H (n + 1) (.ref p) (.ref q) :=
  .inr (.inr ⟨p, q, xs, ys, rfl, rfl, hp, hq, hl, hb, h⟩)
theorem eqv_str {H : Hp} {n : Nat} (z : Str) : Eqv H (n + 1) (.str z) (.str z) := .inr (.inl ⟨z, rfl, rfl⟩)
theorem eqv_int {H : Hp} {n : Nat} (i : Int) : Eqv H (n + 1) (.int i) (.int i) := .inl ⟨i, rfl, rfl⟩
theorem ev_nil {H : Hp} {n : Nat} : ∀ (j : Nat) (u v : V), ([] : List V)[j]? = some u → ([] : List V)[j]? = some v → Eqv H n u v := fun j u v h => by simp at h
theorem ev_cons {H : Hp} {n : Nat} {x y : V} {xs ys : List V} (h : Eqv H n x y) (t : ∀ (j : Nat) (u v : V), xs[j]? = some u → ys[j]? = some v → Eqv H n u v) : ∀ (j : Nat) (u v : V), (x :: xs)[j]? = some u → (y :: ys)[j]? = some v → Eqv H n u v
  | 0, u, v, a, b => by
    rw [← show x = u from Option.some.inj a, ← show y = v from Option.some.inj b]
    exact h
  | j + 1, u, v, a, b => t j u v a b
theorem eqv_reps {H : Hp} {as bs : List Addr} {l : List (Str × Int)} (ha : RepP H as l) (hb : RepP H bs l) : ∀ (j : Nat) (u v : V), (as.map V.ref)[j]? = some u → (bs.map V.ref)[j]? = some v → Eqv H 2 u v := by
  intro j u v hu hv
  obtain ⟨a, t, rfl, ht, h1⟩ := ha.get hu
  obtain ⟨b, t', rfl, ht', h2⟩ := hb.get hv
  have : t = t' := Option.some.inj (ht.symm.trans ht')
  subst this
  exact eqv_ref h1 h2 rfl (by simp) (ev_cons (eqv_str _) (ev_cons (eqv_int _) ev_nil))
theorem TreeAt.eqv {H : Hp} {p : Addr} {ns : List Str} {c : Int} {l : List (Str × Int)} (h : TreeAt H p ns c l) (hn : ns.length ≤ 1000) (hl : l.length ≤ 60) {r qn qk qs qf qe qt : Addr} {bs : List Addr} (h1 : H r = some (.tup [.ref qn, .ref qk, .ref qs, .ref qf])) (h2 : H qn = some (.tup (ns.map V.str)))
    (h3 : H qk = some (.tup [])) (h4 : H qs = some (.tup [.ref qe])) (h5 : H qf = some (.tup [])) (h6 : H qe = some (.tup [.int c, .ref qt])) (h7 : H qt = some (.tup (bs.map V.ref))) (h8 : RepP H bs l) : Eqv H 6 (.ref p) (.ref r) := by
  obtain ⟨pv, pk, ps, pf, pe, pt, as, g1, g2, g3, g4, g5, g6, g7, g8⟩ := h
  have la := g8.len
  have lb := h8.len
  refine eqv_ref g1 h1 rfl (by simp) (ev_cons (eqv_ref g2 h2 rfl (by rw [List.length_map]; exact hn) ?_) (ev_cons (eqv_ref g3 h3 rfl (by simp) ev_nil) (ev_cons (eqv_ref g4 h4 rfl (by simp) (ev_cons (eqv_ref g6 h6 rfl (by simp) (ev_cons (eqv_int _) (ev_cons (eqv_ref g7 h7 (by rw [List.length_map, List.length_map, la, lb]) (by rw [List.length_map]; omega) (eqv_reps g8 h8)) ev_nil))) ev_nil)) (ev_cons (eqv_ref g5 h5 rfl (by simp) ev_nil) ev_nil))))
  intro j u v hu hv
  have e : u = v := Option.some.inj (hu.symm.trans hv)
  subst e
  rw [List.getElem?_map] at hu
  cases e : ns[j]? with
  | none =>
    rw [e] at hu
    cases hu
  | some y =>
    rw [e] at hu
    rw [← show V.str y = u from Option.some.inj hu]
    exact eqv_str y
theorem toks_kp (z : Str) : (toks z).map kp = kt (tl z) ++ [tk "END" ""] := by
  unfold toks
  rw [List.map_append]
  rfl
theorem end_ok : EndTok "END" := ⟨by decide +kernel, by decide +kernel, by decide +kernel⟩
theorem read_whole {z : Str} {ns : List Str} {b : Bool} {t : Tm3} {r : List Item} (ok : ∀ x ∈ (b, t) :: r, TmOk x.2) (hz : kt (tl z) = tk "globals" "globals" :: (ns.map (fun v => tk "NAME" v) ++ (tk "keep" "keep" :: exprToks ((b, t) :: r)))) :
    At (toks z) 0 "globals" "globals" ∧ (∀ (j : Nat) (v : Str), ns[j]? = some v → At (toks z) (1 + j) "NAME" v) ∧ At (toks z) (1 + ns.length) "keep" "keep" ∧ ExprAt (toks z) (2 + ns.length) b t r ∧ At (toks z) (endE (2 + ns.length) b t r) "END" "" := by
  have h := toks_kp z
  rw [hz] at h
  have h1 : (toks z).map kp = (tk "globals" "globals" :: ns.map (fun v => tk "NAME" v)) ++ (tk "keep" "keep" :: (exprToks ((b, t) :: r) ++ [tk "END" ""])) := by
    rw [h, List.cons_append, List.append_assoc]
    rfl
  have h2 : (toks z).map kp = (tk "globals" "globals" :: (ns.map (fun v => tk "NAME" v) ++ [tk "keep" "keep"])) ++ (exprToks ((b, t) :: r) ++ (tk "END" "" :: [])) := by
    rw [h1, List.cons_append, List.cons_append, List.append_assoc]
    rfl
  have h3 : (toks z).map kp = ((tk "globals" "globals" :: (ns.map (fun v => tk "NAME" v) ++ [tk "keep" "keep"])) ++ exprToks ((b, t) :: r)) ++ (tk "END" "" :: []) := by
    rw [h2, List.append_assoc]
  have l2 : (tk "globals" "globals" :: (ns.map (fun v => tk "NAME" v) ++ [tk "keep" "keep"])).length = 2 + ns.length := by
    rw [List.length_cons, List.length_append, List.length_map]
    show ns.length + 1 + 1 = _
    omega
  obtain ⟨e1, e2⟩ := expr_at ok end_ok h2
  rw [l2] at e1 e2
  refine ⟨at_pre (pre := []) h rfl, fun j v hv => at_kp ?_, at_pre h1 (by rw [List.length_cons, List.length_map]; omega), e1, ?_⟩
  · have hj : j < ns.length := (List.getElem?_eq_some_iff.mp hv).1
    rw [h1, Nat.add_comm, List.getElem?_append_left (by rw [List.length_cons, List.length_map]; omega), List.getElem?_cons_succ, List.getElem?_map, hv]
    rfl
  · rw [e2]
    exact at_pre h3 (by rw [List.length_append, l2])
theorem shown_is (ns : List Str) (c : Int) (l : List (Str × Int)) : showT ns c l = Str.ofString "globals " ++ Txt.join (Str.ofString " ") ns ++ Str.ofString "\nkeep " ++ sumT c l ++ Str.ofString "\n" := by
  apply ext_tl
  unfold showT
  rw [join_eq (Str.ofString ""), tl_join (Str.ofString ""), tl_empty]
  show tl _ ++ ([] ++ tl _) = _
  simp only [tl_append, List.nil_append, List.append_assoc]
  rw [show tl (Str.ofString "\nkeep ") = tl (Str.ofString "\n") ++ tl (Str.ofString "keep ") from by decide +kernel, List.append_assoc]
theorem MI.mid {ns : List Str} {i : Nat} {tx : Str} {its : List Item} {sm : List Int} (h : MI ns i tx its sm) (hi : i ≤ 7) {x : Int} (hx : x ∈ sm) : Mid x := by
  have := h.bnd x hx
  unfold Mid
  omega
theorem MI.terms {ns : List Str} {i : Nat} {tx : Str} {its : List Item} {sm : List Int} (h : MI ns i tx its sm) (hi : i ≤ 7) (hok : ∀ v ∈ ns, NameOk v) {zs : List Str} (hp : zs.Perm ns) : Fine (termsOf zs its) ∧ Real (termsOf zs its) := by
  have key : ∀ p ∈ termsOf zs its, p.1 ∈ ns ∧ p.2 = nsum (some p.1) its ∧ p.2 ≠ 0 := by
    intro p hp'
    unfold termsOf at hp'
    obtain ⟨y, hy, rfl⟩ := List.mem_map.mp hp'
    obtain ⟨h1, h2⟩ := List.mem_filter.mp hy
    refine ⟨hp.subset h1, rfl, fun e => ?_⟩
    have e' : nsum (some y) its = 0 := e
    rw [e', decide_eq_true rfl] at h2
    cases h2
  refine ⟨fun p hp' => ?_, fun p hp' => ?_⟩
  · obtain ⟨h1, h2, _⟩ := key p hp'
    refine ⟨Nat.le_trans (hok _ h1).len (by decide), ?_⟩
    obtain ⟨j, hj⟩ := List.getElem?_of_mem h1
    rw [h2]
    exact h.mid hi (List.mem_of_getElem? (h.sums j _ hj))
  · obtain ⟨h1, _, h3⟩ := key p hp'
    exact ⟨h3, (hok _ h1).ne⟩
theorem termsOf_len (zs : List Str) (its : List Item) : (termsOf zs its).length ≤ zs.length := by
  unfold termsOf
  rw [List.length_map]
  exact List.length_filter_le _ _
theorem eqV_self (y : Str) : eqV (.str y) (.str y) = true := by
  show (y == y) = true
  exact beq_self_eq_true y
theorem eqV_not {x y : Str} (h : x ≠ y) : eqV (.str x) (.str y) = false := by
  show (x == y) = false
  exact beq_eq_false_iff_ne.mpr h
theorem flat_strs (ns : List Str) : (ns.map V.str).all flatV = true := by
  rw [List.all_eq_true]
  intro x hx
  obtain ⟨y, _, rfl⟩ := List.mem_map.mp hx
  rfl
end K1
namespace K1
open PySem PySem.Spec PyProof.Rows L2 TL
def spLaw (K : PySem.W.Frag) : Sp := fun vs H Q _ => ∃ (p : Addr) (ns : List Int), vs = [.ref p] ∧ SqL K H p (ns.map V.int) ∧ ns.length ≤ 63 ∧ ∀ H', Q (.bl true) H'
section
variable {P : Program} {w : World} {K : PySem.W.Frag} {mg : Str → Option Value} {base : Heap} {a : Ads}
theorem sc_law : FnScope ["_law_script", "_law_pool_here", "_law_names_here", "_law_sums", "_law_text", "_law_k", "_law_terms", "_law_due", "_law_head", "_law_tree", "_law_at", "_law_number", "_law_sign", "_law_gap", "_law_term_here", "_law_name"] ["_law_script"] (defScope s_law) := ⟨rfl, rfl, rfl, by decide +kernel, rfl, by decide +kernel, by decide +kernel⟩
theorem ok_law (T : Txt K mg a) : FnOk P w K mg base CX0 9 a.f_law a.f_law_d ["_law_script"] (spLaw K) := by
  refine T.F_law.ok sc_law (fun vs H Q E h => ?_) (fun cdv A outer s H vs Q E hr h => ?_)
  · obtain ⟨p, ns, rfl, _⟩ := h
    rfl
  obtain ⟨scr, zs, rfl, hS, hlen, q⟩ := h
  refine ⟨_, (pss_cons (ps_set (i := 1) sc_law.nd rfl (Or.inl rfl) (pe_call (ok__law_pool T) (hr.mono (by decide)) (by rfl) T.g__law_pool T.F__law_pool.kp T.b__law_pool .nil pass0 (pa_cons (pv 0) pa_nil)))
    (pss_cons (ps_set (i := 2) sc_law.nd rfl (Or.inr rfl) (pe_slice sl_list (pe_call (ok__law_names T) (hr.mono (by decide)) (by rfl) T.g__law_names T.F__law_names.kp T.b__law_names .nil pass0 (pa_cons (pv 1) pa_nil)) po_none (po_some (pe_op op_add pe_int (pe_call (ok__law_draw T) (hr.mono (by decide)) (by rfl) T.g__law_draw T.F__law_draw.kp T.b__law_draw .nil pass0 (pa_cons (pv 1) (pa_cons pe_int pa_nil)))))))
    (pss_cons (ps_set (i := 3) sc_law.nd rfl (Or.inr rfl) (pe_op op_cat (pe_lc (own := [("_law_name", 15)]) (g := gName 15) (tt := tYes) (by rfl) sc_law.nd (pi_list (pv 2)) (blkOk_by (own := [("_law_name", 15)]) (N := ["_law_script", "_law_pool_here", "_law_names_here", "_law_sums", "_law_text", "_law_k", "_law_terms", "_law_due", "_law_head", "_law_tree", "_law_at", "_law_number", "_law_sign", "_law_gap", "_law_term_here", "_law_name"]) (sc := defScope s_law) (by decide +kernel)) (fun _ _ _ _ _ => pg_name (i := 15) sc_law.nd rfl (Or.inl rfl)) (fun _ _ _ _ _ => pts_nil) (fun _ _ _ _ _ => pe_int)) (pe_lst (pa_cons pe_int pa_nil))))
    (pss_cons (ps_set (i := 4) sc_law.nd rfl (Or.inl rfl) pe_str)
    (pss_cons (ps_for PassesOwn.never rfl (pi_range1 (by rfl) T.range (pa_cons (pe_op op_add pe_int (pe_call (ok__law_draw T) (hr.mono (by decide)) (by rfl) T.g__law_draw T.F__law_draw.kp T.b__law_draw .nil pass0 (pa_cons (pv 1) (pa_cons pe_int pa_nil)))) pa_nil)) (pg_name (i := 5) sc_law.nd rfl (Or.inl rfl))
      (pss_cons (ps_set (i := 10) sc_law.nd rfl (Or.inl rfl) (pe_call (ok__law_draw T) (hr.mono (by decide)) (by rfl) T.g__law_draw T.F__law_draw.kp T.b__law_draw .nil pass0 (pa_cons (pv 1) (pa_cons (pe_op op_add (pe_callB call_len_seq (by rfl) T.len PySem.boot_len (pa_cons (pv 2) pa_nil)) pe_int) pa_nil))))
      (pss_cons (ps_set (i := 11) sc_law.nd rfl (Or.inl rfl) (pe_ix ix_list (pe_lst (pa_cons pe_int (pa_cons pe_int (pa_cons pe_int (pa_cons pe_int (pa_cons (pe_call (ok__law_draw T) (hr.mono (by decide)) (by rfl) T.g__law_draw T.F__law_draw.kp T.b__law_draw .nil pass0 (pa_cons (pv 1) (pa_cons (pe_op op_pow pe_int pe_int) pa_nil))) pa_nil)))))) (pe_call (ok__law_draw T) (hr.mono (by decide)) (by rfl) T.g__law_draw T.F__law_draw.kp T.b__law_draw .nil pass0 (pa_cons (pv 1) (pa_cons pe_int pa_nil))) (fun _ _ => rfl)))
      (pss_cons (ps_set (i := 12) sc_law.nd rfl (Or.inl rfl) (pe_call (ok__law_draw T) (hr.mono (by decide)) (by rfl) T.g__law_draw T.F__law_draw.kp T.b__law_draw .nil pass0 (pa_cons (pv 1) (pa_cons pe_int pa_nil))))
      (pss_cons (ps_asg (pe_op op_add (pe_ix ix_list (pv 3) (pv 10) (fun _ _ => rfl)) (pe_op op_mul (pe_ix ix_list (pe_lst (pa_cons pe_int (pa_cons (pe_un un_neg pe_int) pa_nil))) (pv 12) (fun _ _ => rfl)) (pv 11))) (pg_sub (pv 3) (pv 10) set_list))
      (pss_cons (ps_set (i := 13) sc_law.nd rfl (Or.inl rfl) (pe_op op_repS pe_str (pe_call (ok__law_draw T) (hr.mono (by decide)) (by rfl) T.g__law_draw T.F__law_draw.kp T.b__law_draw .nil pass0 (pa_cons (pv 1) (pa_cons pe_int pa_nil)))))
      (pss_cons (ps_set (i := 14) sc_law.nd rfl (Or.inl rfl) (pe_call (ok__law_term T) (hr.mono (by decide)) (by rfl) T.g__law_term T.F__law_term.kp T.b__law_term .nil pass0 (pa_cons (pe_ix ix_list (pe_op op_cat (pv 2) (pe_lst (pa_cons pe_str pa_nil))) (pv 10) (fun _ _ => rfl)) (pa_cons (pv 11) (pa_cons (pe_cmpR op_eq (pe_call (ok__law_draw T) (hr.mono (by decide)) (by rfl) T.g__law_draw T.F__law_draw.kp T.b__law_draw .nil pass0 (pa_cons (pv 1) (pa_cons pe_int pa_nil))) pe_int (nomark _)) pa_nil)))))
      (pss_one (ps_set (i := 4) sc_law.nd rfl (Or.inl rfl) (pe_op op_add_str (pe_op op_add_str (pe_op op_add_str (pe_op op_add_str (pv 4) (pv 13)) (pe_ifExp (PW.pt (pw_or (pt_cmpR op_gt (pv 5) pe_int (nomark _)) (pw_or1 (pt_cmpR op_eq (pv 12) pe_int (nomark _))))) (pe_ix ix_list (pe_lst (pa_cons pe_str (pa_cons pe_str pa_nil))) (pv 12) (fun _ _ => rfl)) pe_str)) (pv 13)) (pv 14)))))))))))
    (pss_cons (ps_setLc (i := 6) (own := [("_law_name", 15)]) (g := gName 15) (tt := tYes) (by rfl) sc_law.nd rfl rfl (sw_true rfl rfl rfl (by decide +kernel)) (pi_list (pe_callB cr_sortedS (by rfl) T.sorted (by decide +kernel) (pa_cons (pv 2) pa_nil))) (blkOk_by (own := [("_law_name", 15)]) (N := ["_law_script", "_law_pool_here", "_law_names_here", "_law_sums", "_law_text", "_law_k", "_law_terms", "_law_due", "_law_head", "_law_tree", "_law_at", "_law_number", "_law_sign", "_law_gap", "_law_term_here", "_law_name"]) (sc := defScope s_law) (by decide +kernel)) (fun _ _ _ _ _ => pg_name (i := 15) sc_law.nd rfl (Or.inl rfl)) (fun _ _ _ _ _ => pts_nil) (fun _ _ _ _ _ => (pe_tup (pa_cons (pv 15) (pa_cons (pe_ix (show IxR _ (rIxL K) from ix_list) (pv 3) (show PE _ _ (tBM K "list" (rIndex K) (tVar 2) (tCons (tVar 15) tNil)) from pe_bm PySem.F.plainAttrs_list PySem.F.slot_list_index PySem.F.type_list_index mt_index (pv 2) (pa_cons (pv 15) pa_nil)) (fun _ _ => rfl)) pa_nil)))))
    (pss_cons (ps_set (i := 7) sc_law.nd rfl (Or.inl rfl) (pe_tup (pa_cons (pe_ix ix_list (pv 3) (pe_un un_neg pe_int) (fun _ _ => rfl)) (pa_cons (pe_callTy call_tuple_of (by rfl) T.tuple (by decide +kernel) (pa_cons (pe_lc (own := [("_law_term_here", 14)]) (g := gName 14) (tt := _) (by rfl) sc_law.nd (pi_list (pv 6)) (blkOk_by (own := [("_law_term_here", 14)]) (N := ["_law_script", "_law_pool_here", "_law_names_here", "_law_sums", "_law_text", "_law_k", "_law_terms", "_law_due", "_law_head", "_law_tree", "_law_at", "_law_number", "_law_sign", "_law_gap", "_law_term_here", "_law_name"]) (sc := defScope s_law) (by decide +kernel)) (fun _ _ _ _ _ => pg_name (i := 14) sc_law.nd rfl (Or.inl rfl)) (fun _ _ _ _ _ => (pts_one (pt_cmpR op_ne (pe_ix (show IxR _ (rIxT K) from ix_tup) (pv 14) pe_int (fun _ _ => rfl)) pe_int (nomark _)))) (fun _ _ _ _ _ => (pv 14))) pa_nil)) pa_nil))))
    (pss_cons (ps_set (i := 8) sc_law.nd rfl (Or.inl rfl) (pe_op op_add_str pe_str (pe_join pe_str (pv 2))))
    (pss_cons (ps_set (i := 9) sc_law.nd rfl (Or.inl rfl) (pe_call (ok_parse T) (hr.mono (by decide)) (by rfl) T.g_parse T.F_parse.kp T.b_parse .nil pass0 (pa_cons (pe_op op_add_str (pe_op op_add_str (pe_op op_add_str (pv 8) pe_str) pe_str) (pv 4)) pa_nil)))
    (pss_cons (ps_if (pt_not (pt_val (pe_call (ok__law_same T 6) (hr.mono (by decide)) (by rfl) T.g__law_same T.F__law_same.kp T.b__law_same .nil pass0 (pa_cons (pv 9) (pa_cons (pe_tup (pa_cons (pe_callTy call_tuple_of (by rfl) T.tuple (by decide +kernel) (pa_cons (pv 2) pa_nil)) (pa_cons (pe_tup pa_nil) (pa_cons (pe_tup (pa_cons (pv 7) pa_nil)) (pa_cons (pe_tup pa_nil) pa_nil))))) pa_nil)))))
      (pss_one (ps_ret pe_bl))
      pss_nil)
    (pss_one (ps_ret (pe_cmpR op_eq (pe_call (ok_show T) (hr.mono (by decide)) (by rfl) T.g_show T.F_show.kp T.b_show .nil pass0 (pa_cons (pv 9) pa_nil)) (pe_op op_add_str (pe_op op_add_str (pe_op op_add_str (pv 8) pe_str) (pe_call (ok__law_written T) (hr.mono (by decide)) (by rfl) T.g__law_written T.F__law_written.kp T.b__law_written .nil pass0 (pa_cons (pv 7) pa_nil))) pe_str) (nomark _)))))))))))))), ?_⟩
  -- the pool, the names
  refine ⟨_, rfl, scr, zs, rfl, hS, hlen, fun H1 p l s1 np nl P1 => ?_⟩
  refine ⟨_, rfl, p, l, 0, rfl, P1, by decide, fun H2 q0 c s P2 k2 q0p q0l nq0 hc s0 s1' hq0 => ?_⟩
  refine ⟨_, rfl, p, l, 0 + 2, 4, rfl, P2, by decide, by decide, log_small (by decide) (by decide), fun r3 H3 r30 r31 P3 f3 => ?_⟩
  have hq03 : H3 q0 = some (.lst ((namesL c s).map V.str)) := by rw [f3 q0 q0p q0l]; exact hq0
  refine ⟨1, r3, rfl, rfl, 1 + r3, rfl, q0, _, rfl, SqL.of hq03, fun N nN => ?_⟩
  obtain ⟨m, hm⟩ : ∃ m : Nat, 1 + r3 = (m : Int) := ⟨(1 + r3).toNat, by omega⟩
  have hm1 : 1 ≤ m ∧ m ≤ 4 := by omega
  have hcut : cutV ((namesL c s).map V.str) none (some (1 + r3)) = ((namesL c s).take m).map V.str := by
    rw [hm, cut_take (by rw [List.length_map]; unfold namesL; rw [List.length_map, List.length_range]; omega), List.map_take]
  rw [hcut]
  have hns1 : ((namesL c s).take m).length = m := by
    rw [List.length_take]
    unfold namesL
    rw [List.length_map, List.length_range]
    omega
  have hok : ∀ v ∈ (namesL c s).take m, NameOk v := fun v hv => names_ok hc v (List.mem_of_mem_take hv)
  have hnd : ((namesL c s).take m).Nodup := (List.take_sublist _ _).nodup (names_nodup c s)
  clear hcut
  generalize (namesL c s).take m = ns at hns1 hok hnd ⊢
  have hNo := P3.off nN
  have s3 : Same H H3 := fun b x e => by
    rw [f3 b (ne_of_none e np) (ne_of_none e nl)]
    exact k2 b x (s1 _ _ e) (ne_of_none e np) (ne_of_none e nl)
  have nNH : H N = none := s3.free nN
  have P4 : PoolAt (upd H3 N (.lst (ns.map V.str))) p l (0 + 2 + 1) := P3.same (same_upd nN)
  have hN4 : (upd H3 N (.lst (ns.map V.str))) N = some (.lst (ns.map V.str)) := upd_same
  have s4 : Same H (upd H3 N (.lst (ns.map V.str))) := s3.trans (same_upd nN)
  generalize (upd H3 N (.lst (ns.map V.str))) = H4 at P4 hN4 s4 ⊢
  clear s3 f3 hq03 hq0 k2 P2 P3 nN nq0
  dsimp only [gName]
  -- the sums, all 0
  refine ⟨_, rfl, N, rfl, ⟨_, SqL.of hN4⟩, fun D hD => lc_list (K := K) (a := N) (xs := ns.map V.str) (fun i H' => Same H4 H' ∧ H' D = some (.lst ((List.replicate i (0 : Int)).map V.int))) ⟨same_upd hD, upd_same⟩ (fun i H' _ hh => SqL.of (hh.1 _ _ hN4)) ?_ ?_⟩
  · rintro i x H' hi ⟨s5, hD5⟩
    have hil : i < (ns.map V.str).length := (List.getElem?_eq_some_iff.mp hi).1
    rw [List.length_map] at hil
    refine ⟨rfl, _, hD5, ?_, same_mut s5 hD, ?_⟩
    · rw [List.length_map, List.length_replicate]
      exact bigLine (by omega)
    · rw [upd_same, List.replicate_succ', List.map_append]
      rfl
  rintro H5 ⟨s5, hD5⟩
  rw [List.length_map, hns1] at hD5
  refine ⟨(by show 1 ≤ sizeLine; decide), fun D2 hD2 => ⟨D, D2, _, _, rfl, rfl, (by rw [upd_ne (ne_of_none hD5 hD2)]; exact hD5), upd_same, ?_, fun S nS => ?_⟩⟩
  · rw [List.length_map, List.length_replicate]
    exact bigLe (by show m + 1 ≤ 1000000; omega)
  have e6 : (List.replicate m (0 : Int)).map V.int ++ [.int 0] = (List.replicate (m + 1) (0 : Int)).map V.int := by
    rw [List.replicate_succ', List.map_append]
    rfl
  rw [e6]
  have s6 : Same H4 (upd (upd H5 D2 (.lst [.int 0])) S (.lst ((List.replicate (m + 1) (0 : Int)).map V.int))) := (s5.trans (same_upd hD2)).trans (same_upd nS)
  have hSo := (P4.same (s5.trans (same_upd hD2))).off nS
  have nSH : H S = none := (s4.trans (s5.trans (same_upd hD2))).free nS
  have hSN : S ≠ N := (ne_of_none ((s5.trans (same_upd hD2)) _ _ hN4) nS).symm
  have hS6 : (upd (upd H5 D2 (.lst [.int 0])) S (.lst ((List.replicate (m + 1) (0 : Int)).map V.int))) S = some (.lst ((List.replicate (m + 1) (0 : Int)).map V.int)) := upd_same
  generalize (upd (upd H5 D2 (.lst [.int 0])) S (.lst ((List.replicate (m + 1) (0 : Int)).map V.int))) = H6 at s6 hS6 ⊢
  have P6 := P4.same s6
  have hN6 := s6 _ _ hN4
  have sH6 := s4.trans s6
  clear hD hD5 hD2 nS s5 s6 s4 hN4 P4 e6
  dsimp only [gName]
  -- the terms, one by one
  refine st_seq (st_set (fun Q q => q) ?_)
  dsimp only [gName]
  refine st_seq ?_
  refine ⟨_, rfl, p, l, _, 7, rfl, P6, by decide, by decide, log_small (by decide) (by decide), fun r7 H7 r70 r71 P7 f7 => ⟨1, r7, rfl, rfl, 1 + r7, rfl, by omega, by omega, ?_⟩⟩
  obtain ⟨cnt, hcnt⟩ : ∃ cnt : Nat, 1 + r7 = (cnt : Int) := ⟨(1 + r7).toNat, by omega⟩
  have hcnt1 : 1 ≤ cnt ∧ cnt ≤ 7 := by omega
  have hS7 : H7 S = some (.lst ((List.replicate (m + 1) (0 : Int)).map V.int)) := by rw [f7 S hSo.1 hSo.2]; exact hS6
  have hN7 : H7 N = some (.lst (ns.map V.str)) := by rw [f7 N hNo.1 hNo.2]; exact hN6
  have sH7 : Same H H7 := fun b x e => by
    rw [f7 b (ne_of_none e np) (ne_of_none e nl)]
    exact sH6 _ _ e
  have m0 : MI ns 0 (Str.ofString "") [] (List.replicate (m + 1) (0 : Int)) := by
    refine ⟨rfl, by rw [List.length_replicate, hns1], fun j v hv => ?_, ?_, fun x hx => ?_, fun x hx => (by cases hx), reads_nil, by decide +kernel, fun _ => tl_empty⟩
    · have := (List.getElem?_eq_some_iff.mp hv).1
      rw [List.getElem?_replicate, if_pos (by omega)]
      rfl
    · rw [List.getElem?_replicate, if_pos (by omega)]
      rfl
    · rw [List.eq_of_mem_replicate hx]
      decide
  rw [hcnt, Int.toNat_natCast]
  clear hS6 hN6 P6 f7 sH6
  refine for_range (lo := 0) (n := cnt) (fun i σ H' => ∃ (tx : Str) (its : List Item) (sm : List Int) (v5 v10 v11 v12 v13 v14 : Option V), σ = [some (.ref scr), some (.ref p), some (.ref N), some (.ref S), some (.str tx), v5, none, none, none, none, v10, v11, v12, v13, v14, none] ∧
      PoolAt H' p l (4 + 6 * (i : Int)) ∧ Same H H' ∧ H' N = some (.lst (ns.map V.str)) ∧ H' S = some (.lst (sm.map V.int)) ∧ MI ns i tx its sm)
    ⟨Str.ofString "", [], _, none, none, none, none, none, none, rfl, P7.mono (by decide), sH7, hN7, hS7, m0⟩ ?_ ?_
  · rintro i σ H8 hi ⟨tx, its, sm, v5, v10, v11, v12, v13, v14, rfl, P8, s8, hN8, hS8, mi⟩
    have hi7 : (i : Int) ≤ 7 := by omega
    -- the place
    refine ⟨_, rfl, _, rfl, N, _, rfl, .inl (SqL.of hN8), _, _, rfl, rfl, p, l, _, _, rfl, P8, by omega, (by rw [List.length_map]; omega), log_small (by rw [List.length_map]; omega) (by rw [List.length_map]; omega), fun ra H9 ra0 ra1 P9 f9 => ?_⟩
    rw [List.length_map] at ra1
    obtain ⟨j, rfl⟩ : ∃ j : Nat, ra = (j : Int) := ⟨ra.toNat, by omega⟩
    have hj : j ≤ ns.length := by omega
    -- the number
    refine ⟨_, rfl, _, _, rfl, rfl, ⟨by decide, by decide, by decide⟩, p, l, _, _, rfl, P9, by omega, by decide, log_small (by decide) (by decide), fun rd H10 rd0 rd1 P10 f10 => ⟨(by show 5 ≤ sizeLine; decide), fun W nW => ?_⟩⟩
    have hWo := P10.off nW
    refine ⟨_, rfl, p, l, _, 5, rfl, P10.same (same_upd nW), by omega, by decide, log_small (by decide) (by decide), fun r5 H11 r50 r51 P11 f11 => ?_⟩
    have hW11 : H11 W = some (.lst [.int 0, .int 1, .int 2, .int 999999999999, .int rd]) := by rw [f11 W hWo.1 hWo.2]; exact upd_same
    have hrd : rd < 1000000000000 := rd1
    obtain ⟨num, hnum, hn0, hn1⟩ : ∃ num : Int, atI ([.int 0, .int 1, .int 2, .int 999999999999, .int rd] : List V) r5 = some (.int num) ∧ 0 ≤ num ∧ num < 1000000000000 := by
      have : r5 = 0 ∨ r5 = 1 ∨ r5 = 2 ∨ r5 = 3 ∨ r5 = 4 := by omega
      rcases this with rfl | rfl | rfl | rfl | rfl
      · exact ⟨0, atI_nat (j := 0) rfl, by decide, by decide⟩
      · exact ⟨1, atI_nat (j := 1) rfl, by decide, by decide⟩
      · exact ⟨2, atI_nat (j := 2) rfl, by decide, by decide⟩
      · exact ⟨999999999999, atI_nat (j := 3) rfl, by decide, by decide⟩
      · exact ⟨rd, atI_nat (j := 4) rfl, rd0, hrd⟩
    refine ⟨W, _, _, _, rfl, rfl, SqL.of hW11, hnum, ?_⟩
    -- the sign
    refine ⟨_, rfl, p, l, _, 2, rfl, P11, by omega, by decide, log_small (by decide) (by decide), fun rs H12 rs0 rs1 P12 f12 => ?_⟩
    obtain ⟨b, hb⟩ : ∃ b : Bool, rs = if b = true then 1 else 0 := by
      have : rs = 0 ∨ rs = 1 := by omega
      rcases this with rfl | rfl
      · exact ⟨false, rfl⟩
      · exact ⟨true, rfl⟩
    have k12 : ∀ q, q ≠ p → q ≠ l → ∀ u, H8 q = some u → H12 q = some u := fun q n1 n2 u e => by
      rw [f12 q n1 n2, f11 q n1 n2]
      refine same_upd nW _ _ ?_
      rw [f10 q n1 n2, f9 q n1 n2]
      exact e
    have hS12 := k12 S hSo.1 hSo.2 _ hS8
    have hN12 := k12 N hNo.1 hNo.2 _ hN8
    have s12 : Same H H12 := fun q u e => k12 q (ne_of_none e np) (ne_of_none e nl) u (s8 _ _ e)
    have hjs : j < sm.length := by rw [mi.sl]; omega
    obtain ⟨cur, hcur⟩ : ∃ cur, sm[j]? = some cur := ⟨sm[j], List.getElem?_eq_getElem hjs⟩
    have hat : atI (sm.map V.int) ((j : Nat) : Int) = some (.int cur) := atI_nat (by rw [List.getElem?_map, hcur]; rfl)
    have hsg : atI ([.int 1, .int (-1)] : List V) rs = some (.int (sgn b)) := by
      rw [hb]
      cases b
      · exact atI_nat (j := 0) rfl
      · exact atI_nat (j := 1) rfl
    have hsb : -(2 ^ 64) < sgn b ∧ sgn b < 2 ^ 64 := by
      unfold sgn
      cases b
      · decide
      · decide
    refine ⟨_, rfl, _, rfl, S, _, _, _, rfl, rfl, SqL.of hS12, hat, _, rfl, (by show 2 ≤ sizeLine; decide), fun W2 nW2 => ⟨_, rfl, W2, _, _, _, rfl, rfl, SqL.of upd_same, hsg, _, rfl, _, _, rfl, rfl, .inl hsb, _, _, rfl, rfl, _, rfl, _, rfl, S, _, _, j, rfl, rfl, same_upd nW2 _ _ hS12, ixN_at (by rw [List.length_map]; exact hjs), ?_⟩⟩
    have hset : (sm.map V.int).set j (.int (cur + sgn b * num)) = (sm.set j (cur + sgn b * num)).map V.int := by rw [List.map_set]
    rw [hset]
    have P13 : PoolAt (upd (upd H12 W2 (.lst [.int 1, .int (-1)])) S (.lst ((sm.set j (cur + sgn b * num)).map V.int))) p l (4 + 6 * (i : Int) + 1 + 1 + 1 + 1) := (P12.same (same_upd nW2)).keep (upd_ne hSo.1.symm) (upd_ne hSo.2.symm)
    have hS13 : (upd (upd H12 W2 (.lst [.int 1, .int (-1)])) S (.lst ((sm.set j (cur + sgn b * num)).map V.int))) S = some (.lst ((sm.set j (cur + sgn b * num)).map V.int)) := upd_same
    have hN13 : (upd (upd H12 W2 (.lst [.int 1, .int (-1)])) S (.lst ((sm.set j (cur + sgn b * num)).map V.int))) N = some (.lst (ns.map V.str)) := by
      rw [upd_ne hSN.symm]
      exact same_upd nW2 _ _ hN12
    have s13 : Same H (upd (upd H12 W2 (.lst [.int 1, .int (-1)])) S (.lst ((sm.set j (cur + sgn b * num)).map V.int))) := same_mut (s12.trans (same_upd nW2)) nSH
    generalize (upd (upd H12 W2 (.lst [.int 1, .int (-1)])) S (.lst ((sm.set j (cur + sgn b * num)).map V.int))) = H13 at P13 hS13 hN13 s13 ⊢
    clear k12 P12 P11 P10 P9 f9 f10 f11 f12 hS12 hN12 s12 hW11 nW nW2 hset hat
    dsimp only [gName]
    -- the gap
    refine st_seq ?_
    refine ⟨_, rfl, p, l, _, 3, rfl, P13, by omega, by decide, log_small (by decide) (by decide), fun rg H14 rg0 rg1 P14 f14 => ?_⟩
    obtain ⟨g, rfl⟩ : ∃ g : Nat, rg = (g : Int) := ⟨rg.toNat, by omega⟩
    have hg : g ≤ 2 := by omega
    obtain ⟨gs, hgs, hgt⟩ : ∃ gs : Str, gs = Txt.mul (Str.ofString " ") (g : Int) ∧ tl gs = List.replicate g 32 := by
      have : g = 0 ∨ g = 1 ∨ g = 2 := by omega
      rcases this with rfl | rfl | rfl
      · exact ⟨_, rfl, by decide +kernel⟩
      · exact ⟨_, rfl, by decide +kernel⟩
      · exact ⟨_, rfl, by decide +kernel⟩
    have hmul : MulOk (Str.ofString " ") (g : Int) := by
      have : g = 0 ∨ g = 1 ∨ g = 2 := by omega
      rcases this with rfl | rfl | rfl
      · exact ⟨by decide +kernel, by decide +kernel, by decide +kernel⟩
      · exact ⟨by decide +kernel, by decide +kernel, by decide +kernel⟩
      · exact ⟨by decide +kernel, by decide +kernel, by decide +kernel⟩
    refine ⟨_, _, rfl, rfl, hmul, ?_⟩
    rw [← hgs]
    have hgl : gs.length = g := by rw [len_tl, hgt, List.length_replicate]
    have hS14 : H14 S = some (.lst ((sm.set j (cur + sgn b * num)).map V.int)) := by rw [f14 S hSo.1 hSo.2]; exact hS13
    have hN14 : H14 N = some (.lst (ns.map V.str)) := by rw [f14 N hNo.1 hNo.2]; exact hN13
    have s14 : Same H H14 := fun q u e => by
      rw [f14 q (ne_of_none e np) (ne_of_none e nl)]
      exact s13 _ _ e
    clear f14 hS13 hN13 s13 P13 hgs hmul
    -- the term
    obtain ⟨w, hw⟩ : ∃ w, (ns ++ [Str.ofString ""])[j]? = some w := ⟨_, List.getElem?_eq_getElem (by rw [List.length_append]; show j < ns.length + 1; omega)⟩
    have hwat : atI (ns.map V.str ++ [.str (Str.ofString "")]) ((j : Nat) : Int) = some (.str w) := atI_nat (by
      rw [show ns.map V.str ++ [.str (Str.ofString "")] = (ns ++ [Str.ofString ""]).map V.str by rw [List.map_append]; rfl, List.getElem?_map, hw]
      rfl)
    refine ⟨_, rfl, (by show 1 ≤ sizeLine; decide), fun W3 nW3 => ⟨N, W3, _, _, rfl, rfl, same_upd nW3 _ _ hN14, upd_same, (by rw [List.length_map]; exact bigLe (by show ns.length + 1 ≤ 1000000; omega)), fun W4 nW4 => ⟨_, rfl, W4, _, _, _, rfl, rfl, SqL.of upd_same, hwat, ?_⟩⟩⟩
    have sW := (same_upd (o := .lst [.str (Str.ofString "")]) nW3).trans (same_upd (o := .lst (ns.map V.str ++ [.str (Str.ofString "")])) nW4)
    refine ⟨_, rfl, _, rfl, p, l, _, 2, rfl, P14.same sW, by omega, by decide, log_small (by decide) (by decide), fun rh H15 rh0 rh1 P15 f15 => ⟨rfl, w, num, decide (V.int rh = V.int 1), rfl, ?_, hn0, by omega, ?_⟩⟩
    · obtain ⟨_, _, _, _, _, hwl⟩ := item_of hok hw (sh := true) hn0 hn1
      omega
    have hS15 : H15 S = some (.lst ((sm.set j (cur + sgn b * num)).map V.int)) := by rw [f15 S hSo.1 hSo.2]; exact sW _ _ hS14
    have hN15 : H15 N = some (.lst (ns.map V.str)) := by rw [f15 N hNo.1 hNo.2]; exact sW _ _ hN14
    have s15 : Same H H15 := fun q u e => by
      rw [f15 q (ne_of_none e np) (ne_of_none e nl)]
      exact sW _ _ (s14 _ _ e)
    generalize hsh : decide (V.int rh = V.int 1) = sh
    clear f15 hS14 hN14 s14 P14 sW nW3 nW4 hwat
    have htl : (ltermT w num sh).length ≤ 39 := by
      obtain ⟨_, _, _, _, _, hwl⟩ := item_of hok hw (sh := true) hn0 hn1
      have := ltermT_len (v := w) (b := sh) hn0 (show num < 1000000000000000000 by omega)
      omega
    have hxl := mi.tln
    -- the text
    have fin : ∀ (H16 : Hp) (tx' : Str), Same H15 H16 → tl tx' = tl tx ++ (List.replicate g 32 ++ ((if 0 < i ∨ b = true then [sgCode b] else []) ++ (List.replicate g 32 ++ tl (ltermT w num sh)))) →
        ∃ (tx : Str) (its : List Item) (sm' : List Int) (v5 v10 v11 v12 v13 v14 : Option V), [some (.ref scr), some (.ref p), some (.ref N), some (.ref S), some (.str tx'), some (.int (0 + (i : Int))), none, none, none, none, some (.int (j : Int)), some (.int num), some (.int rs), some (.str gs), some (.str (ltermT w num sh)), none] =
          [some (.ref scr), some (.ref p), some (.ref N), some (.ref S), some (.str tx), v5, none, none, none, none, v10, v11, v12, v13, v14, none] ∧
        PoolAt H16 p l (4 + 6 * ((i + 1 : Nat) : Int)) ∧ Same H H16 ∧ H16 N = some (.lst (ns.map V.str)) ∧ H16 S = some (.lst (sm'.map V.int)) ∧ MI ns (i + 1) tx its sm' := by
      intro H16 tx' s16 e
      obtain ⟨t, mi'⟩ := mi.step hnd hok hw hn0 hn1 hcur hg e
      exact ⟨tx', its ++ [(b, t)], _, _, _, _, _, _, _, rfl, (P15.same s16).mono (by push_cast; omega), s15.trans s16, s16 _ _ hN15, s16 _ _ hS15, mi'⟩
    have code : ∀ {sgs : Str}, sgs = (if b = true then Str.ofString "-" else Str.ofString "+") → tl sgs = [sgCode b] := by
      rintro _ rfl
      cases b
      · decide +kernel
      · decide +kernel
    have sat : ∃ sgs : Str, sgs = (if b = true then Str.ofString "-" else Str.ofString "+") ∧ atI ([.str (Str.ofString "+"), .str (Str.ofString "-")] : List V) rs = some (.str sgs) := by
      rw [hb]
      cases b
      · exact ⟨_, rfl, atI_nat (j := 0) rfl⟩
      · exact ⟨_, rfl, atI_nat (j := 1) rfl⟩
    obtain ⟨sgs, hsgs, hsat⟩ := sat
    have hst := code hsgs
    have hsl : sgs.length = 1 := by rw [len_tl, hst]; rfl
    have hb1 : decide (V.int rs = V.int 1) = b := by
      rw [hb]
      cases b
      · decide
      · decide
    dsimp only [gName]
    refine ⟨_, rfl, _, rfl, _, _, rfl, rfl, bigLe (by omega), ?_⟩
    by_cases hsn : 0 < i ∨ b = true
    · rw [if_pos hsn] at fin
      have tst : Ans (tOr (tTest (tOp (rI0 fun i j => .bl (decide (j < i))) (tVar 5) (tC (.int 0)))) (tTest (tOp rEq (tVar 12) (tC (.int 1))))) [some (.ref scr), some (.ref p), some (.ref N), some (.ref S), some (.str tx), some (.int (0 + (i : Int))), none, none, none, none, some (.int (j : Int)), some (.int num), some (.int rs), some (.str gs), some (.str (ltermT w num sh)), none] H15 true := by
        rcases hsn with h | h
        · exact ans_or1 (fun Q q => ⟨_, rfl, _, _, rfl, rfl, _, rfl, (by rw [decide_eq_true (show (0 : Int) < 0 + (i : Int) by omega)]; exact q)⟩)
        · exact (ans_or2 (b1 := decide ((0 : Int) < 0 + (i : Int))) (b2 := b) (fun Q q => ⟨_, rfl, _, _, rfl, rfl, _, rfl, q⟩) (fun Q q => ⟨_, rfl, rfl, _, rfl, (by rw [hb1]; exact q)⟩)).to (by rw [h, Bool.or_true])
      refine tst _ (iteT ?_)
      refine ⟨(by show 2 ≤ sizeLine; decide), fun W5 nW5 => ⟨_, rfl, W5, _, _, _, rfl, rfl, SqL.of upd_same, hsat, _, _, rfl, rfl, bigLe (by rw [Str.length_append]; omega), _, rfl, _, _, rfl, rfl, bigLe (by rw [Str.length_append, Str.length_append]; omega), _, rfl, _, _, rfl, rfl, bigLe (by rw [Str.length_append, Str.length_append, Str.length_append]; omega), ?_⟩⟩
      refine fin _ _ (same_upd nW5) ?_
      rw [tl_append, tl_append, tl_append, tl_append, hgt, hst]
      simp only [List.append_assoc]
    · rw [if_neg hsn] at fin
      have hi0 : i = 0 := by
        have : ¬ 0 < i := fun z => hsn (.inl z)
        omega
      have hbf : b = false := Bool.eq_false_iff.mpr fun z => hsn (.inr z)
      have tst : Ans (tOr (tTest (tOp (rI0 fun i j => .bl (decide (j < i))) (tVar 5) (tC (.int 0)))) (tTest (tOp rEq (tVar 12) (tC (.int 1))))) [some (.ref scr), some (.ref p), some (.ref N), some (.ref S), some (.str tx), some (.int (0 + (i : Int))), none, none, none, none, some (.int (j : Int)), some (.int num), some (.int rs), some (.str gs), some (.str (ltermT w num sh)), none] H15 false := by
        refine ans_or (fun Q q => ⟨_, rfl, _, _, rfl, rfl, _, rfl, (by rw [decide_eq_false (show ¬ (0 : Int) < 0 + (i : Int) by omega)]; exact q)⟩) (fun Q q => ⟨_, rfl, rfl, _, rfl, (by rw [hb1, hbf]; exact q)⟩)
      refine tst _ (iteF ?_)
      have l0 : (Str.ofString "").length = 0 := by decide +kernel
      refine ⟨_, _, rfl, rfl, bigLe (by rw [Str.length_append]; omega), _, rfl, _, _, rfl, rfl, bigLe (by rw [Str.length_append, Str.length_append]; omega), _, rfl, _, _, rfl, rfl, bigLe (by rw [Str.length_append, Str.length_append, Str.length_append]; omega), ?_⟩
      refine fin _ _ (Same.refl _) ?_
      rw [tl_append, tl_append, tl_append, tl_append, hgt, tl_empty]
      simp only [List.append_assoc, List.nil_append]
  rintro σ H8 ⟨tx, its, sm, v5, v10, v11, v12, v13, v14, rfl, P8, s8, hN8, hS8, mi⟩
  clear P7 hS7 hN7 sH7 m0
  have hcm : cnt ≤ 7 := hcnt1.2
  have hnl : ns.length ≤ 4 := by omega
  have hn0 : 0 < ns.length := by omega
  dsimp only [gName]
  -- the sorted names with their sums
  refine ⟨_, rfl, N, ns, rfl, SqL.of hN8, (by omega), fun zs p1 hperm hsort np1 => ⟨p1, rfl, ⟨_, SqL.of upd_same⟩, fun M nM => ?_⟩⟩
  have hpM : p1 ≠ M := ne_of_none upd_same nM
  have sp : Same H8 (upd H8 p1 (.lst (zs.map V.str))) := same_upd np1
  have nM' : H8 M = none := sp.free nM
  have hzl : zs.length ≤ 4 := by rw [hperm.length_eq]; exact hnl
  refine lc_list (K := K) (a := p1) (xs := zs.map V.str) (fun i H2 => Same H8 H2 ∧ H2 p1 = some (.lst (zs.map V.str)) ∧ ∃ as : List Addr, H2 M = some (.lst (as.map V.ref)) ∧ as.length ≤ i ∧ RepP H2 as (allOf (zs.take i) its))
    ⟨sp.trans (same_upd nM), by rw [upd_ne hpM]; exact upd_same, [], upd_same, Nat.le_refl _, trivial⟩ (fun i H2 _ hh => SqL.of hh.2.1) ?_ ?_
  · rintro i x H2 hi ⟨s2, hp2, as2, hM2, hal, hR2⟩
    obtain ⟨y, hy, rfl⟩ : ∃ y, zs[i]? = some y ∧ x = V.str y := by
      rw [List.getElem?_map] at hi
      cases e : zs[i]? with
      | none => rw [e] at hi; cases hi
      | some y => rw [e] at hi; exact ⟨y, rfl, (Option.some.inj hi).symm⟩
    have hil : i < zs.length := (List.getElem?_eq_some_iff.mp hy).1
    obtain ⟨j, hj⟩ := List.getElem?_of_mem (hperm.subset (List.mem_of_getElem? hy))
    have hjV : (ns.map V.str)[j]? = some (.str y) := by rw [List.getElem?_map, hj]; rfl
    have hbef : ∀ (m' : Nat) (z' : V), m' < j → (ns.map V.str)[m']? = some z' → eqV z' (.str y) = false := by
      intro m' z' hm' hz'
      rw [List.getElem?_map] at hz'
      cases e : ns[m']? with
      | none => rw [e] at hz'; cases hz'
      | some u =>
        rw [e] at hz'
        rw [← show V.str u = z' from Option.some.inj hz']
        refine eqV_not fun e2 => ?_
        subst e2
        have := nd_ix hnd e hj
        omega
    have hat : atI (sm.map V.int) ((j : Nat) : Int) = some (.int (nsum (some y) its)) := atI_nat (by rw [List.getElem?_map, mi.sums j y hj]; rfl)
    refine ⟨rfl, _, rfl, _, rfl, _, rfl, .inl ⟨rfl, _, SqL.of (s2 _ _ hN8)⟩, _, rfl, N, _, _, j, _, rfl, rfl, SqL.of (s2 _ _ hN8), rfl, flat_strs ns, hjV, eqV_self y, hbef, S, _, _, _, rfl, rfl, SqL.of (s2 _ _ hS8), hat, (by show 2 ≤ sizeLine; decide), fun q1 nq => ?_⟩
    have hMq : M ≠ q1 := ne_of_none hM2 nq
    have hpq : p1 ≠ q1 := ne_of_none hp2 nq
    refine ⟨_, by rw [upd_ne hMq]; exact hM2, by rw [List.length_map]; exact bigLine (by omega), ?_, ?_, as2 ++ [q1], ?_, ?_, ?_⟩
    · exact same_mut (s2.trans (same_upd nq)) nM'
    · rw [upd_ne hpM, upd_ne hpq]
      exact hp2
    · rw [upd_same, List.map_append]
      rfl
    · rw [List.length_append]
      show as2.length + 1 ≤ i + 1
      omega
    · rw [allOf_more hy]
      exact RepP.offX (u := .lst (as2.map V.ref)) (by rw [upd_ne hMq]; exact hM2) (fun _ z => by cases z) (RepP.app (t := (y, nsum (some y) its)) upd_same (hR2.same (same_upd nq)))
  rintro H9 ⟨s9, _, as, hM9, _, hR9⟩
  rw [List.length_map, List.take_length] at hR9
  have hS9 := s9 _ _ hS8
  have hN9 := s9 _ _ hN8
  have sH9 := s8.trans s9
  have hal : as.length = zs.length := by
    rw [hR9.len]
    unfold allOf
    rw [List.length_map]
  clear hpM sp nM' np1 nM s8 s9 hN8 hS8 P8
  dsimp only [gName]
  -- what is due
  have hlast : atI (sm.map V.int) (-1) = some (.int (nsum none its)) := by
    rcases List.eq_nil_or_concat sm with e | ⟨init, z, e⟩
    · have := mi.sl
      rw [e] at this
      cases this
    · rw [List.concat_eq_append] at e
      have h1 := mi.last
      have h2 := mi.sl
      rw [e, List.length_append] at h2
      have h3 : init.length = ns.length := by
        have : init.length + 1 = ns.length + 1 := h2
        omega
      rw [e, ← h3, List.getElem?_append_right (Nat.le_refl _), Nat.sub_self] at h1
      have h4 : z = nsum none its := Option.some.inj h1
      rw [e, List.map_append, ← h4]
      exact atI_last _ _
  refine st_seq ?_
  refine ⟨_, rfl, 1, rfl, S, _, _, _, rfl, rfl, SqL.of hS9, hlast, ?_⟩
  refine ⟨_, rfl, M, rfl, ⟨_, SqL.of hM9⟩, fun D2 hD2 => ?_⟩
  refine lc_list (K := K) (a := M) (xs := as.map V.ref) (fun i H2 => Same H9 H2 ∧ ∃ bs : List Addr, H2 D2 = some (.lst (bs.map V.ref)) ∧ bs.length ≤ i ∧ RepP H2 bs (termsOf (zs.take i) its))
    ⟨same_upd hD2, [], upd_same, Nat.le_refl _, trivial⟩ (fun i H2 _ hh => SqL.of (hh.1 _ _ hM9)) ?_ ?_
  · rintro i x H2 hi ⟨s2, bs2, hb2, hbl, hR2⟩
    have hi' : i < as.length := by
      have := (List.getElem?_eq_some_iff.mp hi).1
      rw [List.length_map] at this
      exact this
    obtain ⟨a1, t1, rfl, ht1, ha1⟩ := (hR9.same s2).get hi
    obtain ⟨hy, hv⟩ := allOf_get ht1
    obtain ⟨y, f⟩ := t1
    have hv : f = nsum (some y) its := hv
    subst hv
    have hat : atI ([.str y, .int (nsum (some y) its)] : List V) 1 = some (.int (nsum (some y) its)) := atI_nat (j := 1) rfl
    refine ⟨rfl, _, rfl, a1, _, _, _, rfl, rfl, .inl (.inl ha1), hat, rfl, _, rfl, ite2 (fun e => ?_) (fun e => ?_)⟩
    · refine ⟨_, rfl, _, hb2, by rw [List.length_map]; exact bigLine (by omega), same_mut s2 hD2, bs2 ++ [a1], ?_, ?_, ?_⟩
      · rw [upd_same, List.map_append]
        rfl
      · rw [List.length_append]
        show bs2.length + 1 ≤ i + 1
        omega
      · rw [termsOf_more hy, termsOf_yes e]
        exact RepP.offX hb2 (fun _ z => by cases z) (RepP.app (t := (y, nsum (some y) its)) ha1 hR2)
    · refine ⟨s2, bs2, hb2, by omega, ?_⟩
      rw [termsOf_more hy, termsOf_no e, List.append_nil]
      exact hR2
  rintro H10 ⟨s10, bs, hD10, hbl, hR10⟩
  rw [List.length_map, hal, List.take_length] at hR10
  refine ⟨D2, _, rfl, .inl ⟨SqL.of hD10, fun pt nt => ⟨(by show 2 ≤ sizeLine; decide), fun pd nd => ?_⟩⟩⟩
  have st := same_upd (o := .tup (bs.map V.ref)) nt
  have sd := same_upd (o := .tup [.int (nsum none its), .ref pt]) nd
  have sH11 := ((sH9.trans s10).trans st).trans sd
  have hpt : (upd (upd H10 pt (.tup (bs.map V.ref))) pd (.tup [.int (nsum none its), .ref pt])) pt = some (.tup (bs.map V.ref)) := sd _ _ upd_same
  have hpd : (upd (upd H10 pt (.tup (bs.map V.ref))) pd (.tup [.int (nsum none its), .ref pt])) pd = some (.tup [.int (nsum none its), .ref pt]) := upd_same
  have hR11 := (hR10.same st).same sd
  have hN11 := sd _ _ (st _ _ (s10 _ _ hN9))
  generalize (upd (upd H10 pt (.tup (bs.map V.ref))) pd (.tup [.int (nsum none its), .ref pt])) = H11 at sH11 hpt hpd hR11 hN11 ⊢
  clear st sd nt nd s10 hD10 hR10 hD2 hR9 hM9 hS9 hN9 sH9
  dsimp only [gName]
  -- the head
  refine st_seq ?_
  have g8 : (Str.ofString "globals ").length = 8 := by decide +kernel
  have jl := names_len hok
  have js := names_sum hok
  refine ⟨⟨_, rfl⟩, _, rfl, Str.ofString " ", N, ns, rfl, rfl, .inl (SqL.of hN11), (by rw [show (Str.ofString " ").length = 1 from by decide +kernel]; omega), _, _, rfl, rfl, bigLe (by rw [g8]; omega), ?_⟩
  dsimp only [gName]
  -- parsed
  obtain ⟨⟨b, t⟩, r, rfl⟩ : ∃ x r, its = x :: r := by
    cases its with
    | nil =>
      have := mi.len
      simp at this
      omega
    | cons x r => exact ⟨x, r, rfl⟩
  have hz := whole_kt hok mi.rd
  obtain ⟨a1, a2, a3, a4, a5⟩ := read_whole (fun x hx => (mi.ok x hx).1) hz
  have hxl := mi.tln
  have hrl : r.length < 60 := by
    have := mi.len
    rw [List.length_cons] at this
    omega
  have k5 : (Str.ofString " keep").length = 5 := by decide +kernel
  have k1 : (Str.ofString " ").length = 1 := by decide +kernel
  refine st_seq ?_
  refine ⟨_, rfl, _, _, rfl, rfl, bigLe (by rw [Str.length_append, g8, k5]; omega), _, _, rfl, rfl, bigLe (by rw [Str.length_append, Str.length_append, g8, k5, k1]; omega), _, rfl, _, _, rfl, rfl, bigLe (by rw [Str.length_append, Str.length_append, Str.length_append, g8, k5, k1]; omega), ?_⟩
  refine ⟨_, ns, b, t, r, _, _, _, rfl, ?_, a1, hn0, by omega, a2, a3, a4, a5, hrl, fun H12 tree ks ys s12 hT hp3 hs3 hn3 hm3 => ?_⟩
  · show _ ≤ 1000000
    rw [Str.length_append, Str.length_append, Str.length_append, Str.length_append, g8, k5, k1]
    omega
  have one := terms_one hp3 hs3 hn3 hm3 hperm hsort hnd (fun x hx v hv => (mi.ok x hx).2 v hv)
  rw [one] at hT
  obtain ⟨hF, hRe⟩ := mi.terms hcm hok hperm
  have hMd : Mid (nsum none ((b, t) :: r)) := mi.mid hcm (List.mem_of_getElem? mi.last)
  have htl : (termsOf zs ((b, t) :: r)).length ≤ 60 := Nat.le_trans (termsOf_len _ _) (by omega)
  have hsl := sumT_len htl hMd hF
  generalize hc : nsum none ((b, t) :: r) = c at *
  generalize termsOf zs ((b, t) :: r) = l at *
  have hN12 := s12 _ _ hN11
  have hpt12 := s12 _ _ hpt
  have hpd12 := s12 _ _ hpd
  have hR12 := hR11.same s12
  clear a1 a2 a3 a4 a5 hz
  dsimp only [gName]
  -- the same
  refine st_seq ?_
  refine ⟨_, rfl, _, rfl, N, _, rfl, .inl ⟨SqL.of hN12, fun qn nn => ⟨Nat.zero_le _, fun qk nk => ⟨_, rfl, (by show 1 ≤ sizeLine; decide), fun qs nqs => ⟨Nat.zero_le _, fun qf nf => ⟨(by show 4 ≤ sizeLine; decide), fun qr nr => ?_⟩⟩⟩⟩⟩⟩
  have e1 := same_upd (o := .tup (ns.map V.str)) nn
  have e2 := same_upd (o := .tup []) nk
  have e3 := same_upd (o := .tup [.ref pd]) nqs
  have e4 := same_upd (o := .tup []) nf
  have e5 := same_upd (o := .tup [.ref qn, .ref qk, .ref qs, .ref qf]) nr
  have e25 := ((e2.trans e3).trans e4).trans e5
  have e15 := e1.trans e25
  refine ⟨_, _, rfl, TreeAt.eqv (hT.same e15) (by omega) htl upd_same (e25 _ _ upd_same) (((e3.trans e4).trans e5) _ _ upd_same) ((e4.trans e5) _ _ upd_same) (e5 _ _ upd_same) (e15 _ _ hpd12) (e15 _ _ hpt12) (hR12.same e15), fun H13 s13 => ⟨_, rfl, iteF ?_⟩⟩
  have s14 := e15.trans s13
  have hT13 := hT.same s14
  have hpt13 := s14 _ _ hpt12
  have hpd13 := s14 _ _ hpd12
  have hR13 := hR12.same s14
  -- shown
  refine ⟨_, rfl, tree, ns, c, l, rfl, hT13, (fun e => by rw [e] at hn0; cases hn0), (by show (ns.map fun x => x.length).sum + _ ≤ _; omega), by omega, htl, hMd, hF, fun H14 s15 => ?_⟩
  have kk : (Str.ofString "\nkeep ").length = 6 := by decide +kernel
  have kn : (Str.ofString "\n").length = 1 := by decide +kernel
  refine ⟨_, rfl, _, _, rfl, rfl, bigLe (by rw [Str.length_append, g8, kk]; omega), _, rfl, pd, pt, bs, c, l, rfl, s15 _ _ hpd13, s15 _ _ hpt13, hR13.same s15, htl, hMd, hF, hRe, fun H15 s16 => ⟨_, _, rfl, rfl, bigLe (by rw [Str.length_append, Str.length_append, g8, kk]; omega), _, _, rfl, rfl, bigLe (by rw [Str.length_append, Str.length_append, Str.length_append, g8, kk, kn]; omega), rfl, ?_⟩⟩
  rw [decide_eq_true (congrArg V.str (shown_is ns c l))]
  exact q _
end
end K1
namespace K1
open PySem PySem.Spec PyProof.Rows L2 TL
theorem all_mk {l : PySem.W.OpenLaw} {w : World} {K : PySem.W.Frag} {h : Heap} {mg : Str → Option Value} {fa f_is_word f_is_number f_kind_of f_run_end f_tokens_of f_Tokens___init__ f_Tokens_kind_ahead f_Tokens_take f_Tokens_skip f_parse f_read_declared f_read_function f_read_expression f_read_sign f_read_term f_read_number f_show f_shown_params f_block_lines f_shown_sum f_shown_term f__law_pool f__law_mixed f__law_draw f__law_names f__law_same f__law_term f__law_written f_law c_Tokens t_KEYWORDS t_SIGNS : Addr} (X : K.In h) (G : h.Ns mainGlobals mg) (hfa : mg "law" = some (.ref fa))
    {od_is_word an_is_word : Option Addr} {sl_is_word : Array (Option Value)} {oc_is_word kV_is_word dc_is_word pm_is_word cd_is_word ct_is_word : Value}
    (a_is_word : PySem.W.nsIn K mainGlobals "is_word" = some (some (.ref f_is_word)))
    (l_is_word : K.lookup f_is_word = some ⟨oc_is_word, od_is_word, .func (PySem.W.fnOf "is_word" "is_word" (defArgs s_is_word) (defBody s_is_word) (defScope s_is_word) .none kV_is_word dc_is_word pm_is_word an_is_word cd_is_word ct_is_word), sl_is_word⟩) (e_is_word : PySem.W.codeIn K cd_is_word "is_word" = true) (k_is_word : PySem.W.keepIn K (.ref f_is_word) = true)
    {od_is_number an_is_number : Option Addr} {sl_is_number : Array (Option Value)} {oc_is_number kV_is_number dc_is_number pm_is_number cd_is_number ct_is_number : Value}
    (a_is_number : PySem.W.nsIn K mainGlobals "is_number" = some (some (.ref f_is_number)))
    (l_is_number : K.lookup f_is_number = some ⟨oc_is_number, od_is_number, .func (PySem.W.fnOf "is_number" "is_number" (defArgs s_is_number) (defBody s_is_number) (defScope s_is_number) .none kV_is_number dc_is_number pm_is_number an_is_number cd_is_number ct_is_number), sl_is_number⟩) (e_is_number : PySem.W.codeIn K cd_is_number "is_number" = true) (k_is_number : PySem.W.keepIn K (.ref f_is_number) = true)
    {od_kind_of an_kind_of : Option Addr} {sl_kind_of : Array (Option Value)} {oc_kind_of kV_kind_of dc_kind_of pm_kind_of cd_kind_of ct_kind_of : Value}
    (a_kind_of : PySem.W.nsIn K mainGlobals "kind_of" = some (some (.ref f_kind_of)))
    (l_kind_of : K.lookup f_kind_of = some ⟨oc_kind_of, od_kind_of, .func (PySem.W.fnOf "kind_of" "kind_of" (defArgs s_kind_of) (defBody s_kind_of) (defScope s_kind_of) .none kV_kind_of dc_kind_of pm_kind_of an_kind_of cd_kind_of ct_kind_of), sl_kind_of⟩) (e_kind_of : PySem.W.codeIn K cd_kind_of "kind_of" = true) (k_kind_of : PySem.W.keepIn K (.ref f_kind_of) = true)
    {od_run_end an_run_end : Option Addr} {sl_run_end : Array (Option Value)} {oc_run_end kV_run_end dc_run_end pm_run_end cd_run_end ct_run_end : Value}
    (a_run_end : PySem.W.nsIn K mainGlobals "run_end" = some (some (.ref f_run_end)))
    (l_run_end : K.lookup f_run_end = some ⟨oc_run_end, od_run_end, .func (PySem.W.fnOf "run_end" "run_end" (defArgs s_run_end) (defBody s_run_end) (defScope s_run_end) .none kV_run_end dc_run_end pm_run_end an_run_end cd_run_end ct_run_end), sl_run_end⟩) (e_run_end : PySem.W.codeIn K cd_run_end "run_end" = true) (k_run_end : PySem.W.keepIn K (.ref f_run_end) = true)
    {od_tokens_of an_tokens_of : Option Addr} {sl_tokens_of : Array (Option Value)} {oc_tokens_of kV_tokens_of dc_tokens_of pm_tokens_of cd_tokens_of ct_tokens_of : Value}
    (a_tokens_of : PySem.W.nsIn K mainGlobals "tokens_of" = some (some (.ref f_tokens_of)))
    (l_tokens_of : K.lookup f_tokens_of = some ⟨oc_tokens_of, od_tokens_of, .func (PySem.W.fnOf "tokens_of" "tokens_of" (defArgs s_tokens_of) (defBody s_tokens_of) (defScope s_tokens_of) .none kV_tokens_of dc_tokens_of pm_tokens_of an_tokens_of cd_tokens_of ct_tokens_of), sl_tokens_of⟩) (e_tokens_of : PySem.W.codeIn K cd_tokens_of "tokens_of" = true) (k_tokens_of : PySem.W.keepIn K (.ref f_tokens_of) = true)
    {od_Tokens___init__ an_Tokens___init__ : Option Addr} {sl_Tokens___init__ : Array (Option Value)} {oc_Tokens___init__ kV_Tokens___init__ dc_Tokens___init__ pm_Tokens___init__ cd_Tokens___init__ ct_Tokens___init__ : Value}
    (a_Tokens___init__ : PySem.W.findIn K (.ref c_Tokens) "__init__" = some (some (.ref f_Tokens___init__)))
    (l_Tokens___init__ : K.lookup f_Tokens___init__ = some ⟨oc_Tokens___init__, od_Tokens___init__, .func (PySem.W.fnOf "__init__" "Tokens.__init__" (defArgs s_Tokens___init__) (defBody s_Tokens___init__) (defScope s_Tokens___init__) .none kV_Tokens___init__ dc_Tokens___init__ pm_Tokens___init__ an_Tokens___init__ cd_Tokens___init__ ct_Tokens___init__), sl_Tokens___init__⟩) (e_Tokens___init__ : PySem.W.codeIn K cd_Tokens___init__ "Tokens.__init__" = true) (k_Tokens___init__ : PySem.W.keepIn K (.ref f_Tokens___init__) = true)
    (i_Tokens___init__ : PySem.W.isFn K (.ref f_Tokens___init__) = true)
    {od_Tokens_kind_ahead an_Tokens_kind_ahead : Option Addr} {sl_Tokens_kind_ahead : Array (Option Value)} {oc_Tokens_kind_ahead kV_Tokens_kind_ahead dc_Tokens_kind_ahead pm_Tokens_kind_ahead cd_Tokens_kind_ahead ct_Tokens_kind_ahead : Value}
    (a_Tokens_kind_ahead : PySem.W.findIn K (.ref c_Tokens) "kind_ahead" = some (some (.ref f_Tokens_kind_ahead)))
    {dt_Tokens_kind_ahead : Addr}
    (l_Tokens_kind_ahead : K.lookup f_Tokens_kind_ahead = some ⟨oc_Tokens_kind_ahead, od_Tokens_kind_ahead, .func (PySem.W.fnOf "kind_ahead" "Tokens.kind_ahead" (defArgs s_Tokens_kind_ahead) (defBody s_Tokens_kind_ahead) (defScope s_Tokens_kind_ahead) (.ref dt_Tokens_kind_ahead) kV_Tokens_kind_ahead dc_Tokens_kind_ahead pm_Tokens_kind_ahead an_Tokens_kind_ahead cd_Tokens_kind_ahead ct_Tokens_kind_ahead), sl_Tokens_kind_ahead⟩) (e_Tokens_kind_ahead : PySem.W.codeIn K cd_Tokens_kind_ahead "Tokens.kind_ahead" = true) (k_Tokens_kind_ahead : PySem.W.keepIn K (.ref f_Tokens_kind_ahead) = true)
    {do_Tokens_kind_ahead : Obj} {di_Tokens_kind_ahead : Array Value} {dn_Tokens_kind_ahead : Nat} (dl_Tokens_kind_ahead : K.lookup dt_Tokens_kind_ahead = some do_Tokens_kind_ahead) (dd_Tokens_kind_ahead : do_Tokens_kind_ahead.data = .seq di_Tokens_kind_ahead dn_Tokens_kind_ahead ∧ Vals [.int 0] di_Tokens_kind_ahead.toList)
    (i_Tokens_kind_ahead : PySem.W.isFn K (.ref f_Tokens_kind_ahead) = true)
    {od_Tokens_take an_Tokens_take : Option Addr} {sl_Tokens_take : Array (Option Value)} {oc_Tokens_take kV_Tokens_take dc_Tokens_take pm_Tokens_take cd_Tokens_take ct_Tokens_take : Value}
    (a_Tokens_take : PySem.W.findIn K (.ref c_Tokens) "take" = some (some (.ref f_Tokens_take)))
    (l_Tokens_take : K.lookup f_Tokens_take = some ⟨oc_Tokens_take, od_Tokens_take, .func (PySem.W.fnOf "take" "Tokens.take" (defArgs s_Tokens_take) (defBody s_Tokens_take) (defScope s_Tokens_take) .none kV_Tokens_take dc_Tokens_take pm_Tokens_take an_Tokens_take cd_Tokens_take ct_Tokens_take), sl_Tokens_take⟩) (e_Tokens_take : PySem.W.codeIn K cd_Tokens_take "Tokens.take" = true) (k_Tokens_take : PySem.W.keepIn K (.ref f_Tokens_take) = true)
    (i_Tokens_take : PySem.W.isFn K (.ref f_Tokens_take) = true)
    {od_Tokens_skip an_Tokens_skip : Option Addr} {sl_Tokens_skip : Array (Option Value)} {oc_Tokens_skip kV_Tokens_skip dc_Tokens_skip pm_Tokens_skip cd_Tokens_skip ct_Tokens_skip : Value}
    (a_Tokens_skip : PySem.W.findIn K (.ref c_Tokens) "skip" = some (some (.ref f_Tokens_skip)))
    (l_Tokens_skip : K.lookup f_Tokens_skip = some ⟨oc_Tokens_skip, od_Tokens_skip, .func (PySem.W.fnOf "skip" "Tokens.skip" (defArgs s_Tokens_skip) (defBody s_Tokens_skip) (defScope s_Tokens_skip) .none kV_Tokens_skip dc_Tokens_skip pm_Tokens_skip an_Tokens_skip cd_Tokens_skip ct_Tokens_skip), sl_Tokens_skip⟩) (e_Tokens_skip : PySem.W.codeIn K cd_Tokens_skip "Tokens.skip" = true) (k_Tokens_skip : PySem.W.keepIn K (.ref f_Tokens_skip) = true)
    (i_Tokens_skip : PySem.W.isFn K (.ref f_Tokens_skip) = true)
    {od_parse an_parse : Option Addr} {sl_parse : Array (Option Value)} {oc_parse kV_parse dc_parse pm_parse cd_parse ct_parse : Value}
    (a_parse : PySem.W.nsIn K mainGlobals "parse" = some (some (.ref f_parse)))
    (l_parse : K.lookup f_parse = some ⟨oc_parse, od_parse, .func (PySem.W.fnOf "parse" "parse" (defArgs s_parse) (defBody s_parse) (defScope s_parse) .none kV_parse dc_parse pm_parse an_parse cd_parse ct_parse), sl_parse⟩) (e_parse : PySem.W.codeIn K cd_parse "parse" = true) (k_parse : PySem.W.keepIn K (.ref f_parse) = true)
    {od_read_declared an_read_declared : Option Addr} {sl_read_declared : Array (Option Value)} {oc_read_declared kV_read_declared dc_read_declared pm_read_declared cd_read_declared ct_read_declared : Value}
    (a_read_declared : PySem.W.nsIn K mainGlobals "read_declared" = some (some (.ref f_read_declared)))
    (l_read_declared : K.lookup f_read_declared = some ⟨oc_read_declared, od_read_declared, .func (PySem.W.fnOf "read_declared" "read_declared" (defArgs s_read_declared) (defBody s_read_declared) (defScope s_read_declared) .none kV_read_declared dc_read_declared pm_read_declared an_read_declared cd_read_declared ct_read_declared), sl_read_declared⟩) (e_read_declared : PySem.W.codeIn K cd_read_declared "read_declared" = true) (k_read_declared : PySem.W.keepIn K (.ref f_read_declared) = true)
    {od_read_function an_read_function : Option Addr} {sl_read_function : Array (Option Value)} {oc_read_function kV_read_function dc_read_function pm_read_function cd_read_function ct_read_function : Value}
    (a_read_function : PySem.W.nsIn K mainGlobals "read_function" = some (some (.ref f_read_function)))
    (l_read_function : K.lookup f_read_function = some ⟨oc_read_function, od_read_function, .func (PySem.W.fnOf "read_function" "read_function" (defArgs s_read_function) (defBody s_read_function) (defScope s_read_function) .none kV_read_function dc_read_function pm_read_function an_read_function cd_read_function ct_read_function), sl_read_function⟩) (e_read_function : PySem.W.codeIn K cd_read_function "read_function" = true) (k_read_function : PySem.W.keepIn K (.ref f_read_function) = true)
    {od_read_expression an_read_expression : Option Addr} {sl_read_expression : Array (Option Value)} {oc_read_expression kV_read_expression dc_read_expression pm_read_expression cd_read_expression ct_read_expression : Value}
    (a_read_expression : PySem.W.nsIn K mainGlobals "read_expression" = some (some (.ref f_read_expression)))
    (l_read_expression : K.lookup f_read_expression = some ⟨oc_read_expression, od_read_expression, .func (PySem.W.fnOf "read_expression" "read_expression" (defArgs s_read_expression) (defBody s_read_expression) (defScope s_read_expression) .none kV_read_expression dc_read_expression pm_read_expression an_read_expression cd_read_expression ct_read_expression), sl_read_expression⟩) (e_read_expression : PySem.W.codeIn K cd_read_expression "read_expression" = true) (k_read_expression : PySem.W.keepIn K (.ref f_read_expression) = true)
    {od_read_sign an_read_sign : Option Addr} {sl_read_sign : Array (Option Value)} {oc_read_sign kV_read_sign dc_read_sign pm_read_sign cd_read_sign ct_read_sign : Value}
    (a_read_sign : PySem.W.nsIn K mainGlobals "read_sign" = some (some (.ref f_read_sign)))
    (l_read_sign : K.lookup f_read_sign = some ⟨oc_read_sign, od_read_sign, .func (PySem.W.fnOf "read_sign" "read_sign" (defArgs s_read_sign) (defBody s_read_sign) (defScope s_read_sign) .none kV_read_sign dc_read_sign pm_read_sign an_read_sign cd_read_sign ct_read_sign), sl_read_sign⟩) (e_read_sign : PySem.W.codeIn K cd_read_sign "read_sign" = true) (k_read_sign : PySem.W.keepIn K (.ref f_read_sign) = true)
    {od_read_term an_read_term : Option Addr} {sl_read_term : Array (Option Value)} {oc_read_term kV_read_term dc_read_term pm_read_term cd_read_term ct_read_term : Value}
    (a_read_term : PySem.W.nsIn K mainGlobals "read_term" = some (some (.ref f_read_term)))
    (l_read_term : K.lookup f_read_term = some ⟨oc_read_term, od_read_term, .func (PySem.W.fnOf "read_term" "read_term" (defArgs s_read_term) (defBody s_read_term) (defScope s_read_term) .none kV_read_term dc_read_term pm_read_term an_read_term cd_read_term ct_read_term), sl_read_term⟩) (e_read_term : PySem.W.codeIn K cd_read_term "read_term" = true) (k_read_term : PySem.W.keepIn K (.ref f_read_term) = true)
    {od_read_number an_read_number : Option Addr} {sl_read_number : Array (Option Value)} {oc_read_number kV_read_number dc_read_number pm_read_number cd_read_number ct_read_number : Value}
    (a_read_number : PySem.W.nsIn K mainGlobals "read_number" = some (some (.ref f_read_number)))
    (l_read_number : K.lookup f_read_number = some ⟨oc_read_number, od_read_number, .func (PySem.W.fnOf "read_number" "read_number" (defArgs s_read_number) (defBody s_read_number) (defScope s_read_number) .none kV_read_number dc_read_number pm_read_number an_read_number cd_read_number ct_read_number), sl_read_number⟩) (e_read_number : PySem.W.codeIn K cd_read_number "read_number" = true) (k_read_number : PySem.W.keepIn K (.ref f_read_number) = true)
    {od_show an_show : Option Addr} {sl_show : Array (Option Value)} {oc_show kV_show dc_show pm_show cd_show ct_show : Value}
    (a_show : PySem.W.nsIn K mainGlobals "show" = some (some (.ref f_show)))
    (l_show : K.lookup f_show = some ⟨oc_show, od_show, .func (PySem.W.fnOf "show" "show" (defArgs s_show) (defBody s_show) (defScope s_show) .none kV_show dc_show pm_show an_show cd_show ct_show), sl_show⟩) (e_show : PySem.W.codeIn K cd_show "show" = true) (k_show : PySem.W.keepIn K (.ref f_show) = true)
    {od_shown_params an_shown_params : Option Addr} {sl_shown_params : Array (Option Value)} {oc_shown_params kV_shown_params dc_shown_params pm_shown_params cd_shown_params ct_shown_params : Value}
    (a_shown_params : PySem.W.nsIn K mainGlobals "shown_params" = some (some (.ref f_shown_params)))
    (l_shown_params : K.lookup f_shown_params = some ⟨oc_shown_params, od_shown_params, .func (PySem.W.fnOf "shown_params" "shown_params" (defArgs s_shown_params) (defBody s_shown_params) (defScope s_shown_params) .none kV_shown_params dc_shown_params pm_shown_params an_shown_params cd_shown_params ct_shown_params), sl_shown_params⟩) (e_shown_params : PySem.W.codeIn K cd_shown_params "shown_params" = true) (k_shown_params : PySem.W.keepIn K (.ref f_shown_params) = true)
    {od_block_lines an_block_lines : Option Addr} {sl_block_lines : Array (Option Value)} {oc_block_lines kV_block_lines dc_block_lines pm_block_lines cd_block_lines ct_block_lines : Value}
    (a_block_lines : PySem.W.nsIn K mainGlobals "block_lines" = some (some (.ref f_block_lines)))
    (l_block_lines : K.lookup f_block_lines = some ⟨oc_block_lines, od_block_lines, .func (PySem.W.fnOf "block_lines" "block_lines" (defArgs s_block_lines) (defBody s_block_lines) (defScope s_block_lines) .none kV_block_lines dc_block_lines pm_block_lines an_block_lines cd_block_lines ct_block_lines), sl_block_lines⟩) (e_block_lines : PySem.W.codeIn K cd_block_lines "block_lines" = true) (k_block_lines : PySem.W.keepIn K (.ref f_block_lines) = true)
    {od_shown_sum an_shown_sum : Option Addr} {sl_shown_sum : Array (Option Value)} {oc_shown_sum kV_shown_sum dc_shown_sum pm_shown_sum cd_shown_sum ct_shown_sum : Value}
    (a_shown_sum : PySem.W.nsIn K mainGlobals "shown_sum" = some (some (.ref f_shown_sum)))
    (l_shown_sum : K.lookup f_shown_sum = some ⟨oc_shown_sum, od_shown_sum, .func (PySem.W.fnOf "shown_sum" "shown_sum" (defArgs s_shown_sum) (defBody s_shown_sum) (defScope s_shown_sum) .none kV_shown_sum dc_shown_sum pm_shown_sum an_shown_sum cd_shown_sum ct_shown_sum), sl_shown_sum⟩) (e_shown_sum : PySem.W.codeIn K cd_shown_sum "shown_sum" = true) (k_shown_sum : PySem.W.keepIn K (.ref f_shown_sum) = true)
    {od_shown_term an_shown_term : Option Addr} {sl_shown_term : Array (Option Value)} {oc_shown_term kV_shown_term dc_shown_term pm_shown_term cd_shown_term ct_shown_term : Value}
    (a_shown_term : PySem.W.nsIn K mainGlobals "shown_term" = some (some (.ref f_shown_term)))
    (l_shown_term : K.lookup f_shown_term = some ⟨oc_shown_term, od_shown_term, .func (PySem.W.fnOf "shown_term" "shown_term" (defArgs s_shown_term) (defBody s_shown_term) (defScope s_shown_term) .none kV_shown_term dc_shown_term pm_shown_term an_shown_term cd_shown_term ct_shown_term), sl_shown_term⟩) (e_shown_term : PySem.W.codeIn K cd_shown_term "shown_term" = true) (k_shown_term : PySem.W.keepIn K (.ref f_shown_term) = true)
    {od__law_pool an__law_pool : Option Addr} {sl__law_pool : Array (Option Value)} {oc__law_pool kV__law_pool dc__law_pool pm__law_pool cd__law_pool ct__law_pool : Value}
    (a__law_pool : PySem.W.nsIn K mainGlobals "_law_pool" = some (some (.ref f__law_pool)))
    (l__law_pool : K.lookup f__law_pool = some ⟨oc__law_pool, od__law_pool, .func (PySem.W.fnOf "_law_pool" "_law_pool" (defArgs s__law_pool) (defBody s__law_pool) (defScope s__law_pool) .none kV__law_pool dc__law_pool pm__law_pool an__law_pool cd__law_pool ct__law_pool), sl__law_pool⟩) (e__law_pool : PySem.W.codeIn K cd__law_pool "_law_pool" = true) (k__law_pool : PySem.W.keepIn K (.ref f__law_pool) = true)
    {od__law_mixed an__law_mixed : Option Addr} {sl__law_mixed : Array (Option Value)} {oc__law_mixed kV__law_mixed dc__law_mixed pm__law_mixed cd__law_mixed ct__law_mixed : Value}
    (a__law_mixed : PySem.W.nsIn K mainGlobals "_law_mixed" = some (some (.ref f__law_mixed)))
    (l__law_mixed : K.lookup f__law_mixed = some ⟨oc__law_mixed, od__law_mixed, .func (PySem.W.fnOf "_law_mixed" "_law_mixed" (defArgs s__law_mixed) (defBody s__law_mixed) (defScope s__law_mixed) .none kV__law_mixed dc__law_mixed pm__law_mixed an__law_mixed cd__law_mixed ct__law_mixed), sl__law_mixed⟩) (e__law_mixed : PySem.W.codeIn K cd__law_mixed "_law_mixed" = true) (k__law_mixed : PySem.W.keepIn K (.ref f__law_mixed) = true)
    {od__law_draw an__law_draw : Option Addr} {sl__law_draw : Array (Option Value)} {oc__law_draw kV__law_draw dc__law_draw pm__law_draw cd__law_draw ct__law_draw : Value}
    (a__law_draw : PySem.W.nsIn K mainGlobals "_law_draw" = some (some (.ref f__law_draw)))
    (l__law_draw : K.lookup f__law_draw = some ⟨oc__law_draw, od__law_draw, .func (PySem.W.fnOf "_law_draw" "_law_draw" (defArgs s__law_draw) (defBody s__law_draw) (defScope s__law_draw) .none kV__law_draw dc__law_draw pm__law_draw an__law_draw cd__law_draw ct__law_draw), sl__law_draw⟩) (e__law_draw : PySem.W.codeIn K cd__law_draw "_law_draw" = true) (k__law_draw : PySem.W.keepIn K (.ref f__law_draw) = true)
    {od__law_names an__law_names : Option Addr} {sl__law_names : Array (Option Value)} {oc__law_names kV__law_names dc__law_names pm__law_names cd__law_names ct__law_names : Value}
    (a__law_names : PySem.W.nsIn K mainGlobals "_law_names" = some (some (.ref f__law_names)))
    (l__law_names : K.lookup f__law_names = some ⟨oc__law_names, od__law_names, .func (PySem.W.fnOf "_law_names" "_law_names" (defArgs s__law_names) (defBody s__law_names) (defScope s__law_names) .none kV__law_names dc__law_names pm__law_names an__law_names cd__law_names ct__law_names), sl__law_names⟩) (e__law_names : PySem.W.codeIn K cd__law_names "_law_names" = true) (k__law_names : PySem.W.keepIn K (.ref f__law_names) = true)
    {od__law_same an__law_same : Option Addr} {sl__law_same : Array (Option Value)} {oc__law_same kV__law_same dc__law_same pm__law_same cd__law_same ct__law_same : Value}
    (a__law_same : PySem.W.nsIn K mainGlobals "_law_same" = some (some (.ref f__law_same)))
    (l__law_same : K.lookup f__law_same = some ⟨oc__law_same, od__law_same, .func (PySem.W.fnOf "_law_same" "_law_same" (defArgs s__law_same) (defBody s__law_same) (defScope s__law_same) .none kV__law_same dc__law_same pm__law_same an__law_same cd__law_same ct__law_same), sl__law_same⟩) (e__law_same : PySem.W.codeIn K cd__law_same "_law_same" = true) (k__law_same : PySem.W.keepIn K (.ref f__law_same) = true)
    {od__law_term an__law_term : Option Addr} {sl__law_term : Array (Option Value)} {oc__law_term kV__law_term dc__law_term pm__law_term cd__law_term ct__law_term : Value}
    (a__law_term : PySem.W.nsIn K mainGlobals "_law_term" = some (some (.ref f__law_term)))
    (l__law_term : K.lookup f__law_term = some ⟨oc__law_term, od__law_term, .func (PySem.W.fnOf "_law_term" "_law_term" (defArgs s__law_term) (defBody s__law_term) (defScope s__law_term) .none kV__law_term dc__law_term pm__law_term an__law_term cd__law_term ct__law_term), sl__law_term⟩) (e__law_term : PySem.W.codeIn K cd__law_term "_law_term" = true) (k__law_term : PySem.W.keepIn K (.ref f__law_term) = true)
    {od__law_written an__law_written : Option Addr} {sl__law_written : Array (Option Value)} {oc__law_written kV__law_written dc__law_written pm__law_written cd__law_written ct__law_written : Value}
    (a__law_written : PySem.W.nsIn K mainGlobals "_law_written" = some (some (.ref f__law_written)))
    (l__law_written : K.lookup f__law_written = some ⟨oc__law_written, od__law_written, .func (PySem.W.fnOf "_law_written" "_law_written" (defArgs s__law_written) (defBody s__law_written) (defScope s__law_written) .none kV__law_written dc__law_written pm__law_written an__law_written cd__law_written ct__law_written), sl__law_written⟩) (e__law_written : PySem.W.codeIn K cd__law_written "_law_written" = true) (k__law_written : PySem.W.keepIn K (.ref f__law_written) = true)
    {od_law an_law : Option Addr} {sl_law : Array (Option Value)} {oc_law kV_law dc_law pm_law cd_law ct_law : Value}
    (a_law : PySem.W.nsIn K mainGlobals "law" = some (some (.ref f_law)))
    (l_law : K.lookup f_law = some ⟨oc_law, od_law, .func (PySem.W.fnOf "law" "law" (defArgs s_law) (defBody s_law) (defScope s_law) .none kV_law dc_law pm_law an_law cd_law ct_law), sl_law⟩) (e_law : PySem.W.codeIn K cd_law "law" = true) (k_law : PySem.W.keepIn K (.ref f_law) = true)
    (ac_Tokens : PySem.W.nsIn K mainGlobals "Tokens" = some (some (.ref c_Tokens))) (pg_Tokens : PySem.W.plainGet K c_Tokens Str.empty = true) (hd_Tokens : PySem.W.hasDictIn K c_Tokens = true) (po_Tokens : PySem.W.plainOver K c_Tokens = true) (sa_Tokens : PySem.W.findIn K (.ref c_Tokens) "__setattr__" = some (some (.builtin "object.__setattr__"))) (mk_Tokens : PySem.W.makesIn K c_Tokens = true) (kc_Tokens : PySem.W.keepIn K (.ref c_Tokens) = true)
    (nf_Tokens_found : PySem.W.findIn K (.ref c_Tokens) "found" = some none)
    (nf_Tokens_taken : PySem.W.findIn K (.ref c_Tokens) "taken" = some none)
    (z_int : PySem.W.nsIn K mainGlobals "int" = some none)
    (z_len : PySem.W.nsIn K mainGlobals "len" = some none)
    (z_all : PySem.W.nsIn K mainGlobals "all" = some none)
    (z_max : PySem.W.nsIn K mainGlobals "max" = some none)
    (z_isinstance : PySem.W.nsIn K mainGlobals "isinstance" = some none)
    (z_str : PySem.W.nsIn K mainGlobals "str" = some none)
    (z_tuple : PySem.W.nsIn K mainGlobals "tuple" = some none)
    (z_sorted : PySem.W.nsIn K mainGlobals "sorted" = some none)
    (z_abs : PySem.W.nsIn K mainGlobals "abs" = some none)
    (z_range : PySem.W.nsIn K mainGlobals "range" = some none)
    (z_bool : PySem.W.nsIn K mainGlobals "bool" = some none)
    (z_list : PySem.W.nsIn K mainGlobals "list" = some none)
    {tk_LETTERS : Tok} (y_LETTERS : PySem.W.nsIn K mainGlobals "LETTERS" = some (some (.str LET tk_LETTERS)))
    {tk_DIGITS : Tok} (y_DIGITS : PySem.W.nsIn K mainGlobals "DIGITS" = some (some (.str DIG tk_DIGITS)))
    {tk_BLANKS : Tok} (y_BLANKS : PySem.W.nsIn K mainGlobals "BLANKS" = some (some (.str " \n" tk_BLANKS)))
    {tk_NAME : Tok} (y_NAME : PySem.W.nsIn K mainGlobals "NAME" = some (some (.str "NAME" tk_NAME)))
    {tk_NUMBER : Tok} (y_NUMBER : PySem.W.nsIn K mainGlobals "NUMBER" = some (some (.str "NUMBER" tk_NUMBER)))
    {tk_WRONG : Tok} (y_WRONG : PySem.W.nsIn K mainGlobals "WRONG" = some (some (.str "WRONG" tk_WRONG)))
    {tk_END : Tok} (y_END : PySem.W.nsIn K mainGlobals "END" = some (some (.str "END" tk_END)))
    {tk_MOST_DIGITS : Tok} (y_MOST_DIGITS : PySem.W.nsIn K mainGlobals "MOST_DIGITS" = some (some (.int 12 tk_MOST_DIGITS)))
    {td_KEYWORDS : Option Addr} {ti_KEYWORDS : Array Value} {tn_KEYWORDS : Nat} {ts_KEYWORDS : Array (Option Value)} (u_KEYWORDS : PySem.W.nsIn K mainGlobals "KEYWORDS" = some (some (.ref t_KEYWORDS))) (w_KEYWORDS : K.lookup t_KEYWORDS = some ⟨.type "tuple", td_KEYWORDS, .seq ti_KEYWORDS tn_KEYWORDS, ts_KEYWORDS⟩) (v_KEYWORDS : ti_KEYWORDS.size ≤ sizeLine ∧ Vals kws ti_KEYWORDS.toList)
    {td_SIGNS : Option Addr} {ti_SIGNS : Array Value} {tn_SIGNS : Nat} {ts_SIGNS : Array (Option Value)} (u_SIGNS : PySem.W.nsIn K mainGlobals "SIGNS" = some (some (.ref t_SIGNS))) (w_SIGNS : K.lookup t_SIGNS = some ⟨.type "tuple", td_SIGNS, .seq ti_SIGNS tn_SIGNS, ts_SIGNS⟩) (v_SIGNS : ti_SIGNS.size ≤ sizeLine ∧ Vals sgs ti_SIGNS.toList)
    : ∃ fd : FuncData, (∀ (s : Shared) (v : Value), BindsTo s fd ⟨[v], []⟩ [("_law_script", v)]) ∧ ∀ base : Heap, K.In base → base.Ns mainGlobals mg → FnOk l.prog w K mg base CX0 9 fa fd ["_law_script"] (spLaw K) := by
  have e := hfa.symm.trans (PySem.W.mg_of X G a_law)
  cases e
  have F_is_word := fun_mk (st := s_is_word) l_is_word e_is_word k_is_word
  have b_is_word := F_is_word.binds (ps := ["text"]) fun _ _ _ _ _ _ us hl => match us, hl with | [_], _ => rfl
  have F_is_number := fun_mk (st := s_is_number) l_is_number e_is_number k_is_number
  have b_is_number := F_is_number.binds (ps := ["piece"]) fun _ _ _ _ _ _ us hl => match us, hl with | [_], _ => rfl
  have F_kind_of := fun_mk (st := s_kind_of) l_kind_of e_kind_of k_kind_of
  have b_kind_of := F_kind_of.binds (ps := ["piece"]) fun _ _ _ _ _ _ us hl => match us, hl with | [_], _ => rfl
  have F_run_end := fun_mk (st := s_run_end) l_run_end e_run_end k_run_end
  have b_run_end := F_run_end.binds (ps := ["text", "start"]) fun _ _ _ _ _ _ us hl => match us, hl with | [_, _], _ => rfl
  have F_tokens_of := fun_mk (st := s_tokens_of) l_tokens_of e_tokens_of k_tokens_of
  have b_tokens_of := F_tokens_of.binds (ps := ["text"]) fun _ _ _ _ _ _ us hl => match us, hl with | [_], _ => rfl
  have F_Tokens___init__ := fun_mk (st := s_Tokens___init__) l_Tokens___init__ e_Tokens___init__ k_Tokens___init__
  have b_Tokens___init__ := F_Tokens___init__.binds (ps := ["self", "text"]) fun _ _ _ _ _ _ us hl => match us, hl with | [_, _], _ => rfl
  have F_Tokens_kind_ahead : FunD K "kind_ahead" "Tokens.kind_ahead" (defArgs s_Tokens_kind_ahead) (defBody s_Tokens_kind_ahead) (defScope s_Tokens_kind_ahead) [.int 0] [] f_Tokens_kind_ahead _ := ⟨⟨_, _, _, _, _, _, _, _, _, _, rfl, l_Tokens_kind_ahead, e_Tokens_kind_ahead, .inr ⟨by simp, _, _, _, _, rfl, dl_Tokens_kind_ahead, dd_Tokens_kind_ahead.1, dd_Tokens_kind_ahead.2⟩, .inl rfl⟩, k_Tokens_kind_ahead⟩
  have b_Tokens_kind_ahead := F_Tokens_kind_ahead.binds1 (ps := ["self", "further"]) 1 0 (by simp) rfl (fun _ _ _ _ _ _ _ us its hu hi => match us, hu, its, hi with | [_], _, [_], _ => ⟨_, rfl, rfl⟩)
  have F_Tokens_take := fun_mk (st := s_Tokens_take) l_Tokens_take e_Tokens_take k_Tokens_take
  have b_Tokens_take := F_Tokens_take.binds (ps := ["self", "kind"]) fun _ _ _ _ _ _ us hl => match us, hl with | [_, _], _ => rfl
  have F_Tokens_skip := fun_mk (st := s_Tokens_skip) l_Tokens_skip e_Tokens_skip k_Tokens_skip
  have b_Tokens_skip := F_Tokens_skip.binds (ps := ["self", "kind"]) fun _ _ _ _ _ _ us hl => match us, hl with | [_, _], _ => rfl
  have F_parse := fun_mk (st := s_parse) l_parse e_parse k_parse
  have b_parse := F_parse.binds (ps := ["text"]) fun _ _ _ _ _ _ us hl => match us, hl with | [_], _ => rfl
  have F_read_declared := fun_mk (st := s_read_declared) l_read_declared e_read_declared k_read_declared
  have b_read_declared := F_read_declared.binds (ps := ["tokens", "keyword"]) fun _ _ _ _ _ _ us hl => match us, hl with | [_, _], _ => rfl
  have F_read_function := fun_mk (st := s_read_function) l_read_function e_read_function k_read_function
  have b_read_function := F_read_function.binds (ps := ["tokens"]) fun _ _ _ _ _ _ us hl => match us, hl with | [_], _ => rfl
  have F_read_expression := fun_mk (st := s_read_expression) l_read_expression e_read_expression k_read_expression
  have b_read_expression := F_read_expression.binds (ps := ["tokens"]) fun _ _ _ _ _ _ us hl => match us, hl with | [_], _ => rfl
  have F_read_sign := fun_mk (st := s_read_sign) l_read_sign e_read_sign k_read_sign
  have b_read_sign := F_read_sign.binds (ps := ["tokens"]) fun _ _ _ _ _ _ us hl => match us, hl with | [_], _ => rfl
  have F_read_term := fun_mk (st := s_read_term) l_read_term e_read_term k_read_term
  have b_read_term := F_read_term.binds (ps := ["tokens"]) fun _ _ _ _ _ _ us hl => match us, hl with | [_], _ => rfl
  have F_read_number := fun_mk (st := s_read_number) l_read_number e_read_number k_read_number
  have b_read_number := F_read_number.binds (ps := ["tokens"]) fun _ _ _ _ _ _ us hl => match us, hl with | [_], _ => rfl
  have F_show := fun_mk (st := s_show) l_show e_show k_show
  have b_show := F_show.binds (ps := ["tree"]) fun _ _ _ _ _ _ us hl => match us, hl with | [_], _ => rfl
  have F_shown_params := fun_mk (st := s_shown_params) l_shown_params e_shown_params k_shown_params
  have b_shown_params := F_shown_params.binds (ps := ["params"]) fun _ _ _ _ _ _ us hl => match us, hl with | [_], _ => rfl
  have F_block_lines := fun_mk (st := s_block_lines) l_block_lines e_block_lines k_block_lines
  have b_block_lines := F_block_lines.binds (ps := ["parts", "indent"]) fun _ _ _ _ _ _ us hl => match us, hl with | [_, _], _ => rfl
  have F_shown_sum := fun_mk (st := s_shown_sum) l_shown_sum e_shown_sum k_shown_sum
  have b_shown_sum := F_shown_sum.binds (ps := ["expression"]) fun _ _ _ _ _ _ us hl => match us, hl with | [_], _ => rfl
  have F_shown_term := fun_mk (st := s_shown_term) l_shown_term e_shown_term k_shown_term
  have b_shown_term := F_shown_term.binds (ps := ["name", "factor"]) fun _ _ _ _ _ _ us hl => match us, hl with | [_, _], _ => rfl
  have F__law_pool := fun_mk (st := s__law_pool) l__law_pool e__law_pool k__law_pool
  have b__law_pool := F__law_pool.binds (ps := ["_law_script"]) fun _ _ _ _ _ _ us hl => match us, hl with | [_], _ => rfl
  have F__law_mixed := fun_mk (st := s__law_mixed) l__law_mixed e__law_mixed k__law_mixed
  have b__law_mixed := F__law_mixed.binds (ps := ["_law_number", "_law_count", "_law_many"]) fun _ _ _ _ _ _ us hl => match us, hl with | [_, _, _], _ => rfl
  have F__law_draw := fun_mk (st := s__law_draw) l__law_draw e__law_draw k__law_draw
  have b__law_draw := F__law_draw.binds (ps := ["_law_pool_here", "_law_many"]) fun _ _ _ _ _ _ us hl => match us, hl with | [_, _], _ => rfl
  have F__law_names := fun_mk (st := s__law_names) l__law_names e__law_names k__law_names
  have b__law_names := F__law_names.binds (ps := ["_law_pool_here"]) fun _ _ _ _ _ _ us hl => match us, hl with | [_], _ => rfl
  have F__law_same := fun_mk (st := s__law_same) l__law_same e__law_same k__law_same
  have b__law_same := F__law_same.binds (ps := ["_law_actual", "_law_due"]) fun _ _ _ _ _ _ us hl => match us, hl with | [_, _], _ => rfl
  have F__law_term := fun_mk (st := s__law_term) l__law_term e__law_term k__law_term
  have b__law_term := F__law_term.binds (ps := ["_law_name", "_law_number", "_law_is_short"]) fun _ _ _ _ _ _ us hl => match us, hl with | [_, _, _], _ => rfl
  have F__law_written := fun_mk (st := s__law_written) l__law_written e__law_written k__law_written
  have b__law_written := F__law_written.binds (ps := ["_law_expression_here"]) fun _ _ _ _ _ _ us hl => match us, hl with | [_], _ => rfl
  have F_law := fun_mk (st := s_law) l_law e_law k_law
  have T : Txt K mg { f_is_word := f_is_word, f_is_word_d := _, f_is_number := f_is_number, f_is_number_d := _, f_kind_of := f_kind_of, f_kind_of_d := _, f_run_end := f_run_end, f_run_end_d := _, f_tokens_of := f_tokens_of, f_tokens_of_d := _, f_Tokens___init__ := f_Tokens___init__, f_Tokens___init___d := _, f_Tokens_kind_ahead := f_Tokens_kind_ahead, f_Tokens_kind_ahead_d := _, f_Tokens_take := f_Tokens_take, f_Tokens_take_d := _, f_Tokens_skip := f_Tokens_skip, f_Tokens_skip_d := _, f_parse := f_parse, f_parse_d := _, f_read_declared := f_read_declared, f_read_declared_d := _, f_read_function := f_read_function, f_read_function_d := _, f_read_expression := f_read_expression, f_read_expression_d := _, f_read_sign := f_read_sign, f_read_sign_d := _, f_read_term := f_read_term, f_read_term_d := _, f_read_number := f_read_number, f_read_number_d := _, f_show := f_show, f_show_d := _, f_shown_params := f_shown_params, f_shown_params_d := _, f_block_lines := f_block_lines, f_block_lines_d := _, f_shown_sum := f_shown_sum, f_shown_sum_d := _, f_shown_term := f_shown_term, f_shown_term_d := _, f__law_pool := f__law_pool, f__law_pool_d := _, f__law_mixed := f__law_mixed, f__law_mixed_d := _, f__law_draw := f__law_draw, f__law_draw_d := _, f__law_names := f__law_names, f__law_names_d := _, f__law_same := f__law_same, f__law_same_d := _, f__law_term := f__law_term, f__law_term_d := _, f__law_written := f__law_written, f__law_written_d := _, f_law := fa, f_law_d := _, c_Tokens := c_Tokens, t_KEYWORDS := t_KEYWORDS, t_SIGNS := t_SIGNS } := {
    F_is_word := F_is_word,
    b_is_word := b_is_word,
    g_is_word := PySem.W.mg_of X G a_is_word,
    F_is_number := F_is_number,
    b_is_number := b_is_number,
    g_is_number := PySem.W.mg_of X G a_is_number,
    F_kind_of := F_kind_of,
    b_kind_of := b_kind_of,
    g_kind_of := PySem.W.mg_of X G a_kind_of,
    F_run_end := F_run_end,
    b_run_end := b_run_end,
    g_run_end := PySem.W.mg_of X G a_run_end,
    F_tokens_of := F_tokens_of,
    b_tokens_of := b_tokens_of,
    g_tokens_of := PySem.W.mg_of X G a_tokens_of,
    F_Tokens___init__ := F_Tokens___init__,
    b_Tokens___init__ := b_Tokens___init__,
    mk_Tokens := ⟨mk_Tokens, a_Tokens___init__, i_Tokens___init__, kc_Tokens⟩,
    F_Tokens_kind_ahead := F_Tokens_kind_ahead,
    b_Tokens_kind_ahead := b_Tokens_kind_ahead,
    m_Tokens_kind_ahead := ⟨a_Tokens_kind_ahead, i_Tokens_kind_ahead, k_Tokens_kind_ahead⟩,
    F_Tokens_take := F_Tokens_take,
    b_Tokens_take := b_Tokens_take,
    m_Tokens_take := ⟨a_Tokens_take, i_Tokens_take, k_Tokens_take⟩,
    F_Tokens_skip := F_Tokens_skip,
    b_Tokens_skip := b_Tokens_skip,
    m_Tokens_skip := ⟨a_Tokens_skip, i_Tokens_skip, k_Tokens_skip⟩,
    F_parse := F_parse,
    b_parse := b_parse,
    g_parse := PySem.W.mg_of X G a_parse,
    F_read_declared := F_read_declared,
    b_read_declared := b_read_declared,
    g_read_declared := PySem.W.mg_of X G a_read_declared,
    F_read_function := F_read_function,
    b_read_function := b_read_function,
    g_read_function := PySem.W.mg_of X G a_read_function,
    F_read_expression := F_read_expression,
    b_read_expression := b_read_expression,
    g_read_expression := PySem.W.mg_of X G a_read_expression,
    F_read_sign := F_read_sign,
    b_read_sign := b_read_sign,
    g_read_sign := PySem.W.mg_of X G a_read_sign,
    F_read_term := F_read_term,
    b_read_term := b_read_term,
    g_read_term := PySem.W.mg_of X G a_read_term,
    F_read_number := F_read_number,
    b_read_number := b_read_number,
    g_read_number := PySem.W.mg_of X G a_read_number,
    F_show := F_show,
    b_show := b_show,
    g_show := PySem.W.mg_of X G a_show,
    F_shown_params := F_shown_params,
    b_shown_params := b_shown_params,
    g_shown_params := PySem.W.mg_of X G a_shown_params,
    F_block_lines := F_block_lines,
    b_block_lines := b_block_lines,
    g_block_lines := PySem.W.mg_of X G a_block_lines,
    F_shown_sum := F_shown_sum,
    b_shown_sum := b_shown_sum,
    g_shown_sum := PySem.W.mg_of X G a_shown_sum,
    F_shown_term := F_shown_term,
    b_shown_term := b_shown_term,
    g_shown_term := PySem.W.mg_of X G a_shown_term,
    F__law_pool := F__law_pool,
    b__law_pool := b__law_pool,
    g__law_pool := PySem.W.mg_of X G a__law_pool,
    F__law_mixed := F__law_mixed,
    b__law_mixed := b__law_mixed,
    g__law_mixed := PySem.W.mg_of X G a__law_mixed,
    F__law_draw := F__law_draw,
    b__law_draw := b__law_draw,
    g__law_draw := PySem.W.mg_of X G a__law_draw,
    F__law_names := F__law_names,
    b__law_names := b__law_names,
    g__law_names := PySem.W.mg_of X G a__law_names,
    F__law_same := F__law_same,
    b__law_same := b__law_same,
    g__law_same := PySem.W.mg_of X G a__law_same,
    F__law_term := F__law_term,
    b__law_term := b__law_term,
    g__law_term := PySem.W.mg_of X G a__law_term,
    F__law_written := F__law_written,
    b__law_written := b__law_written,
    g__law_written := PySem.W.mg_of X G a__law_written,
    F_law := F_law,
    g_law := PySem.W.mg_of X G a_law,
    cl_Tokens := ⟨pg_Tokens, hd_Tokens, po_Tokens, sa_Tokens⟩,
    mg_Tokens := PySem.W.mg_of X G ac_Tokens,
    n_Tokens_found := nf_Tokens_found,
    n_Tokens_taken := nf_Tokens_taken,
    int := PySem.W.mg_none_of X G z_int,
    len := PySem.W.mg_none_of X G z_len,
    all := PySem.W.mg_none_of X G z_all,
    max := PySem.W.mg_none_of X G z_max,
    isinstance := PySem.W.mg_none_of X G z_isinstance,
    str := PySem.W.mg_none_of X G z_str,
    tuple := PySem.W.mg_none_of X G z_tuple,
    sorted := PySem.W.mg_none_of X G z_sorted,
    abs := PySem.W.mg_none_of X G z_abs,
    range := PySem.W.mg_none_of X G z_range,
    bool := PySem.W.mg_none_of X G z_bool,
    list := PySem.W.mg_none_of X G z_list,
    g_LETTERS := ⟨_, PySem.W.mg_of X G y_LETTERS⟩,
    g_DIGITS := ⟨_, PySem.W.mg_of X G y_DIGITS⟩,
    g_BLANKS := ⟨_, PySem.W.mg_of X G y_BLANKS⟩,
    g_NAME := ⟨_, PySem.W.mg_of X G y_NAME⟩,
    g_NUMBER := ⟨_, PySem.W.mg_of X G y_NUMBER⟩,
    g_WRONG := ⟨_, PySem.W.mg_of X G y_WRONG⟩,
    g_END := ⟨_, PySem.W.mg_of X G y_END⟩,
    g_MOST_DIGITS := ⟨_, PySem.W.mg_of X G y_MOST_DIGITS⟩,
    g_KEYWORDS := PySem.W.mg_of X G u_KEYWORDS,
    q_KEYWORDS := fun H => .inr ⟨_, _, _, w_KEYWORDS, rfl, rfl, v_KEYWORDS.1, v_KEYWORDS.2⟩,
    g_SIGNS := PySem.W.mg_of X G u_SIGNS,
    q_SIGNS := fun H => .inr ⟨_, _, _, w_SIGNS, rfl, rfl, v_SIGNS.1, v_SIGNS.2⟩ }
  exact ⟨PySem.W.fnOf "law" "law" (defArgs s_law) (defBody s_law) (defScope s_law) .none kV_law dc_law pm_law an_law cd_law ct_law, fun s v => .of_eq rfl, fun base _ _ => ok_law T⟩
end K1
open PySem PySem.W PyProof.Rows
set_option maxRecDepth 100000 in
set_option maxHeartbeats 0 in
theorem PySem.Challenge.cw_allornothing_k01_sums_in_texts_holds : PySem.Challenge.rw_allornothing_k01_sums_in_texts.Holds := by
  w_on; o_law; k_head; (case hw => w_witness2)
  k_fill
  refine L2.walk_of (l := PySem.Challenge.rw_allornothing_k01_sums_in_texts) (n := 63) (k := 9) (x := "_law_script") (CX := fun _ => L2.CX0) (sp := fun w => K1.spLaw _) rfl (by decide) rfl ⟨rfl, by decide, by decide⟩ (fun w h Y => PySem.W.kIn_of Y) ?F (fun _ _ a ns hl _ hS => ⟨a, ns, rfl, hS, hl, fun _ => rfl⟩) (fun _ _ _ _ _ h => h)
  case F =>
    intro w mg fa h KX G hmg
    refine' K1.all_mk KX G hmg ?a_is_word ?l_is_word ?e_is_word ?k_is_word ?a_is_number ?l_is_number ?e_is_number ?k_is_number ?a_kind_of ?l_kind_of ?e_kind_of ?k_kind_of ?a_run_end ?l_run_end ?e_run_end ?k_run_end ?a_tokens_of ?l_tokens_of ?e_tokens_of ?k_tokens_of ?a_Tokens___init__ ?l_Tokens___init__ ?e_Tokens___init__ ?k_Tokens___init__ ?i_Tokens___init__ ?a_Tokens_kind_ahead ?l_Tokens_kind_ahead ?e_Tokens_kind_ahead ?k_Tokens_kind_ahead ?dl_Tokens_kind_ahead ?dd_Tokens_kind_ahead ?i_Tokens_kind_ahead ?a_Tokens_take ?l_Tokens_take ?e_Tokens_take ?k_Tokens_take ?i_Tokens_take ?a_Tokens_skip ?l_Tokens_skip ?e_Tokens_skip ?k_Tokens_skip ?i_Tokens_skip ?a_parse ?l_parse ?e_parse ?k_parse ?a_read_declared ?l_read_declared ?e_read_declared ?k_read_declared ?a_read_function ?l_read_function ?e_read_function ?k_read_function ?a_read_expression ?l_read_expression ?e_read_expression ?k_read_expression ?a_read_sign ?l_read_sign ?e_read_sign ?k_read_sign ?a_read_term ?l_read_term ?e_read_term ?k_read_term ?a_read_number ?l_read_number ?e_read_number ?k_read_number ?a_show ?l_show ?e_show ?k_show ?a_shown_params ?l_shown_params ?e_shown_params ?k_shown_params ?a_block_lines ?l_block_lines ?e_block_lines ?k_block_lines ?a_shown_sum ?l_shown_sum ?e_shown_sum ?k_shown_sum ?a_shown_term ?l_shown_term ?e_shown_term ?k_shown_term ?a__law_pool ?l__law_pool ?e__law_pool ?k__law_pool ?a__law_mixed ?l__law_mixed ?e__law_mixed ?k__law_mixed ?a__law_draw ?l__law_draw ?e__law_draw ?k__law_draw ?a__law_names ?l__law_names ?e__law_names ?k__law_names ?a__law_same ?l__law_same ?e__law_same ?k__law_same ?a__law_term ?l__law_term ?e__law_term ?k__law_term ?a__law_written ?l__law_written ?e__law_written ?k__law_written ?a_law ?l_law ?e_law ?k_law ?ac_Tokens ?pg_Tokens ?hd_Tokens ?po_Tokens ?sa_Tokens ?mk_Tokens ?kc_Tokens ?nf_Tokens_found ?nf_Tokens_taken ?z_int ?z_len ?z_all ?z_max ?z_isinstance ?z_str ?z_tuple ?z_sorted ?z_abs ?z_range ?z_bool ?z_list ?y_LETTERS ?y_DIGITS ?y_BLANKS ?y_NAME ?y_NUMBER ?y_WRONG ?y_END ?y_MOST_DIGITS ?u_KEYWORDS ?w_KEYWORDS ?v_KEYWORDS ?u_SIGNS ?w_SIGNS ?v_SIGNS
    (case ac_Tokens => k_is)
    (case a_is_word => k_is)
    (case l_is_word => k_is)
    (case e_is_word => k_is)
    (case k_is_word => k_is)
    (case a_is_number => k_is)
    (case l_is_number => k_is)
    (case e_is_number => k_is)
    (case k_is_number => k_is)
    (case a_kind_of => k_is)
    (case l_kind_of => k_is)
    (case e_kind_of => k_is)
    (case k_kind_of => k_is)
    (case a_run_end => k_is)
    (case l_run_end => k_is)
    (case e_run_end => k_is)
    (case k_run_end => k_is)
    (case a_tokens_of => k_is)
    (case l_tokens_of => k_is)
    (case e_tokens_of => k_is)
    (case k_tokens_of => k_is)
    (case a_Tokens___init__ => k_is)
    (case l_Tokens___init__ => k_is)
    (case e_Tokens___init__ => k_is)
    (case k_Tokens___init__ => k_is)
    (case i_Tokens___init__ => k_is)
    (case a_Tokens_kind_ahead => k_is)
    (case l_Tokens_kind_ahead => k_is)
    (case e_Tokens_kind_ahead => k_is)
    (case k_Tokens_kind_ahead => k_is)
    (case dl_Tokens_kind_ahead => k_is)
    (case dd_Tokens_kind_ahead => exact ⟨rfl, by repeat (first | exact .nil | refine .cons ⟨_, rfl⟩ ?_)⟩)
    (case i_Tokens_kind_ahead => k_is)
    (case a_Tokens_take => k_is)
    (case l_Tokens_take => k_is)
    (case e_Tokens_take => k_is)
    (case k_Tokens_take => k_is)
    (case i_Tokens_take => k_is)
    (case a_Tokens_skip => k_is)
    (case l_Tokens_skip => k_is)
    (case e_Tokens_skip => k_is)
    (case k_Tokens_skip => k_is)
    (case i_Tokens_skip => k_is)
    (case a_parse => k_is)
    (case l_parse => k_is)
    (case e_parse => k_is)
    (case k_parse => k_is)
    (case a_read_declared => k_is)
    (case l_read_declared => k_is)
    (case e_read_declared => k_is)
    (case k_read_declared => k_is)
    (case a_read_function => k_is)
    (case l_read_function => k_is)
    (case e_read_function => k_is)
    (case k_read_function => k_is)
    (case a_read_expression => k_is)
    (case l_read_expression => k_is)
    (case e_read_expression => k_is)
    (case k_read_expression => k_is)
    (case a_read_sign => k_is)
    (case l_read_sign => k_is)
    (case e_read_sign => k_is)
    (case k_read_sign => k_is)
    (case a_read_term => k_is)
    (case l_read_term => k_is)
    (case e_read_term => k_is)
    (case k_read_term => k_is)
    (case a_read_number => k_is)
    (case l_read_number => k_is)
    (case e_read_number => k_is)
    (case k_read_number => k_is)
    (case a_show => k_is)
    (case l_show => k_is)
    (case e_show => k_is)
    (case k_show => k_is)
    (case a_shown_params => k_is)
    (case l_shown_params => k_is)
    (case e_shown_params => k_is)
    (case k_shown_params => k_is)
    (case a_block_lines => k_is)
    (case l_block_lines => k_is)
    (case e_block_lines => k_is)
    (case k_block_lines => k_is)
    (case a_shown_sum => k_is)
    (case l_shown_sum => k_is)
    (case e_shown_sum => k_is)
    (case k_shown_sum => k_is)
    (case a_shown_term => k_is)
    (case l_shown_term => k_is)
    (case e_shown_term => k_is)
    (case k_shown_term => k_is)
    (case a__law_pool => k_is)
    (case l__law_pool => k_is)
    (case e__law_pool => k_is)
    (case k__law_pool => k_is)
    (case a__law_mixed => k_is)
    (case l__law_mixed => k_is)
    (case e__law_mixed => k_is)
    (case k__law_mixed => k_is)
    (case a__law_draw => k_is)
    (case l__law_draw => k_is)
    (case e__law_draw => k_is)
    (case k__law_draw => k_is)
    (case a__law_names => k_is)
    (case l__law_names => k_is)
    (case e__law_names => k_is)
    (case k__law_names => k_is)
    (case a__law_same => k_is)
    (case l__law_same => k_is)
    (case e__law_same => k_is)
    (case k__law_same => k_is)
    (case a__law_term => k_is)
    (case l__law_term => k_is)
    (case e__law_term => k_is)
    (case k__law_term => k_is)
    (case a__law_written => k_is)
    (case l__law_written => k_is)
    (case e__law_written => k_is)
    (case k__law_written => k_is)
    (case a_law => k_is)
    (case l_law => k_is)
    (case e_law => k_is)
    (case k_law => k_is)
    (case pg_Tokens => k_is)
    (case hd_Tokens => k_is)
    (case po_Tokens => k_is)
    (case sa_Tokens => k_is)
    (case mk_Tokens => k_is)
    (case kc_Tokens => k_is)
    (case nf_Tokens_found => k_is)
    (case nf_Tokens_taken => k_is)
    (case z_int => k_is)
    (case z_len => k_is)
    (case z_all => k_is)
    (case z_max => k_is)
    (case z_isinstance => k_is)
    (case z_str => k_is)
    (case z_tuple => k_is)
    (case z_sorted => k_is)
    (case z_abs => k_is)
    (case z_range => k_is)
    (case z_bool => k_is)
    (case z_list => k_is)
    (case y_LETTERS => k_is)
    (case y_DIGITS => k_is)
    (case y_BLANKS => k_is)
    (case y_NAME => k_is)
    (case y_NUMBER => k_is)
    (case y_WRONG => k_is)
    (case y_END => k_is)
    (case y_MOST_DIGITS => k_is)
    (case u_KEYWORDS => k_is)
    (case w_KEYWORDS => k_is)
    (case v_KEYWORDS => exact ⟨by decide, by repeat (first | exact .nil | refine .cons ⟨_, rfl⟩ ?_)⟩)
    (case u_SIGNS => k_is)
    (case w_SIGNS => k_is)
    (case v_SIGNS => exact ⟨by decide, by repeat (first | exact .nil | refine .cons ⟨_, rfl⟩ ?_)⟩)
#print axioms PySem.Challenge.cw_allornothing_k01_sums_in_texts_holds
