import PyProof.Rows.All
import Wide.All
import OpenK.AllK
import Wide.FinOn
import HandS.CallLocal
import HandS.Defaults
import HandS.ForMost
import HandS.Head0
import HandS.Head1
import HandS.Head2
import HandS.Head3
import HandS.HeadEnd
import HandS.HeadHook1
import HandS.HeadHook2
import HandS.HeadHook3
import HandS.IsInst
import HandS.More
import HandS.ReplaceList
import HandS.ReplaceLit
import HandS.Steps
import HandS.Style
import HandS.TupAny
import HandS.Wide
import HandS.Words
import PySem.Challenge.RW_allornothing_k03_texts_and_trees
set_option Elab.async false
set_option linter.all false
set_option maxRecDepth 100000
set_option maxHeartbeats 8000000
namespace K3
open PySem PySem.Spec PyProof.Rows L2 TL
/-! ### words for all -/
theorem pe_gs {X : Cx} {x : Str} {z : Str} {pos : Pos} (hg : Gl X x) (hm : ∃ t, X.mg x = some (.str z t)) (hd : (x == ("__debug__" : Str)) = false := by decide) : PE X (.Name x pos) (tC (.str z)) :=
  hm.elim fun t h => pe_glob (v := .str z) hg h ⟨t, rfl⟩ hd
theorem pe_gi {X : Cx} {x : Str} {z : Int} {pos : Pos} (hg : Gl X x) (hm : ∃ t, X.mg x = some (.int z t)) (hd : (x == ("__debug__" : Str)) = false := by decide) : PE X (.Name x pos) (tC (.int z)) :=
  hm.elim fun t h => pe_glob (v := .int z) hg h ⟨t, rfl⟩ hd
theorem pe_gr {X : Cx} {x : Str} {r : Addr} {pos : Pos} (hg : Gl X x) (hm : X.mg x = some (.ref r)) (hd : (x == ("__debug__" : Str)) = false := by decide) : PE X (.Name x pos) (tC (.ref r)) := pe_glob (v := .ref r) hg hm rfl hd
theorem same_upd {H : Hp} {p : Addr} {o : HO} (h : H p = none) : Same H (upd H p o) := fun b x e => by
  rw [upd_ne (ne_of_none e h)]
  exact e
/-- a new object of ours changes: what stood before stands -/
theorem same_mut {H H' : Hp} {p : Addr} {o : HO} (s : Same H H') (h : H p = none) : Same H (upd H' p o) := fun b x e => by
  rw [upd_ne (ne_of_none e h)]
  exact s _ _ e
def Big (z : Str) : Prop := z.length ≤ 1000000
theorem bigLine {n : Nat} (h : n ≤ 1000000) : n < sizeLine := Nat.lt_of_le_of_lt h (by decide)
theorem bigLe {n : Nat} (h : n ≤ 1000000) : n ≤ sizeLine := Nat.le_of_lt (bigLine h)
theorem st_ite {c : TT} {t1 t2 : TS} {σ : L2.St} {H : Hp} {D : Ends} {b : Bool} (h : Ans c σ H b) (h1 : b = true → t1 D σ H) (h2 : b = false → t2 D σ H) : tIfS c t1 t2 D σ H := by
  cases b with
  | true => exact st_yes h (h1 rfl)
  | false => exact st_no h (h2 rfl)
theorem while_ans {c : TT} {tb : TS} {D : Ends} {σ : L2.St} {H : Hp} (Pv : Nat → L2.St → Hp → Prop) (m : Nat) (h0 : Pv m σ H)
    (hs : ∀ m σ H, Pv m σ H → ∃ b, Ans c σ H b ∧ (b = true → tb { D with nx := fun σ' H' => ∃ m', m' < m ∧ Pv m' σ' H', ct := fun σ' H' => ∃ m', m' < m ∧ Pv m' σ' H', bk := D.nx } σ H) ∧ (b = false → D.nx σ H)) : tWhile c tb D σ H := by
  refine ⟨Pv, ⟨m, h0⟩, fun m σ H p => ?_⟩
  obtain ⟨b, ha, ht, hf⟩ := hs m σ H p
  refine ha _ ?_
  cases b with
  | true => exact ⟨_, fun σ' H' h => h, ht rfl⟩
  | false => exact hf rfl
/-- a comprehension or loop over the signs of a text -/
theorem lc_str {x : Str} {g : TG} {tt : TT} {te : TE} {vs : List Nat} {σ : L2.St} {H1 : Hp} {D : Addr} {Qd : Hp → Prop} (Pv : Nat → Hp → Prop) (h0 : Pv 0 (upd H1 D (.lst [])))
    (hs : ∀ i c H, x.cps[i]? = some c → Pv i H → g (.str ⟨#[c]⟩) (wipe σ vs) H fun σ2 H2 => wipe σ2 vs = wipe σ vs ∧ tt σ2 H2 fun b H3 =>
      if b = true then te σ2 H3 fun y H4 => ∃ acc, H4 D = some (.lst acc) ∧ acc.length < sizeLine ∧ Pv (i + 1) (upd H4 D (.lst (acc ++ [y]))) else Pv (i + 1) H3) (hd : ∀ H, Pv x.cps.size H → Qd H) :
    ∃ W : Nat → Nat → Hp → Prop, (∃ m, W 0 m (upd H1 D (.lst []))) ∧ ∀ i m H, W i m H →
      ((Its x).stop i H ∧ Qd H) ∨ ((Its x).go i H ∧ ∃ Nx : Hp → Prop, (∀ H', Nx H' → ∃ m', m' < m ∧ W (i + 1) m' H') ∧ ∀ x' H', (Its x).yld i H x' H' → g x' (wipe σ vs) H' fun σ2 H2 => wipe σ2 vs = wipe σ vs ∧ tt σ2 H2 fun b H3 =>
        if b = true then te σ2 H3 fun y H4 => ∃ acc, H4 D = some (.lst acc) ∧ acc.length < sizeLine ∧ Nx (upd H4 D (.lst (acc ++ [y]))) else Nx H3) := by
  refine ⟨fun i m H => m = x.cps.size - i ∧ i ≤ x.cps.size ∧ Pv i H, ⟨x.cps.size, by simp, Nat.zero_le _, h0⟩, ?_⟩
  rintro i m H ⟨rfl, hi, p⟩
  by_cases hlt : i < x.cps.size
  · refine .inr ⟨hlt, Pv (i + 1), fun H' p' => ⟨x.cps.size - (i + 1), by omega, rfl, hlt, p'⟩, fun x' H' y => ?_⟩
    obtain ⟨e, c, hc, y⟩ := y
    subst e y
    exact hs i c _ hc p
  · have e : i = x.cps.size := by omega
    subst e
    exact .inl ⟨Nat.le_refl _, hd H p⟩
/-- f of each sign, put into a new list -/
theorem lc_signs {z : Str} {g : TG} {te : TE} {vs : List Nat} {σ : L2.St} {H1 : Hp} {D : Addr} {Qd : Hp → Prop} (f : Nat → Bool) (hz : Big z) (hD : H1 D = none)
    (hs : ∀ c H (Q : VK), Q (.bl (f c)) H → g (.str ⟨#[c]⟩) (wipe σ vs) H fun σ2 H2 => wipe σ2 vs = wipe σ vs ∧ te σ2 H2 Q) (hd : ∀ H, Same H1 H → H D = some (.lst (((tl z).map f).map V.bl)) → Qd H) :
    ∃ W : Nat → Nat → Hp → Prop, (∃ m, W 0 m (upd H1 D (.lst []))) ∧ ∀ i m H, W i m H →
      ((Its z).stop i H ∧ Qd H) ∨ ((Its z).go i H ∧ ∃ Nx : Hp → Prop, (∀ H', Nx H' → ∃ m', m' < m ∧ W (i + 1) m' H') ∧ ∀ x' H', (Its z).yld i H x' H' → g x' (wipe σ vs) H' fun σ2 H2 => wipe σ2 vs = wipe σ vs ∧ tYes σ2 H2 fun b H3 =>
        if b = true then te σ2 H3 fun y H4 => ∃ acc, H4 D = some (.lst acc) ∧ acc.length < sizeLine ∧ Nx (upd H4 D (.lst (acc ++ [y]))) else Nx H3) := by
  refine lc_str (fun i H' => Same H1 H' ∧ H' D = some (.lst ((((tl z).take i).map f).map V.bl))) ⟨same_upd hD, upd_same⟩ ?_ ?_
  · rintro i c H' hi ⟨s2, hD2⟩
    have hi2 : (tl z)[i]? = some c := by rw [Array.getElem?_toList]; exact hi
    have hil : i < z.length := (Array.getElem?_eq_some_iff.mp hi).1
    have hsz : ((((tl z).take i).map f).map V.bl).length < sizeLine := by
      rw [List.length_map, List.length_map, List.length_take]
      exact Nat.lt_of_le_of_lt (Nat.min_le_left _ _) (bigLine (by unfold Big at hz; omega))
    have := hs c H' (fun y H4 => ∃ acc, H4 D = some (.lst acc) ∧ acc.length < sizeLine ∧ (Same H1 (upd H4 D (.lst (acc ++ [y]))) ∧ (upd H4 D (.lst (acc ++ [y]))) D = some (.lst ((((tl z).take (i + 1)).map f).map V.bl)))) ?_
    · exact this
    · refine ⟨_, hD2, hsz, same_mut s2 hD, ?_⟩
      rw [upd_same, List.take_add_one, hi2, List.map_append, List.map_append]
      rfl
  · rintro H' ⟨s2, hD2⟩
    have et : (tl z).take z.cps.size = tl z := List.take_of_length_le (by rw [Array.length_toList]; exact Nat.le_refl _)
    rw [et] at hD2
    exact hd _ s2 hD2
/-! ### the text -/
abbrev LET : Str := "abcdefghijklmnopqrstuvwxyz"
abbrev DIG : Str := "0123456789"
def kws : List V := [.str "globals", .str "kinds", .str "keep", .str "def", .str "if", .str "else", .str "while", .str "risk", .str "raise", .str "try", .str "except", .str "finally", .str "undo", .str "with", .str "swallow", .str "return"]
def sgs : List V := [.str "=", .str "+", .str "-", .str "*", .str "&", .str "?", .str "(", .str ")", .str "{", .str "}", .str ","]
def top (i : Nat) : Stmt := PySem.Challenge.pw_allornothing_k03_texts_and_trees.main.body.getD i (.Pass ⟨0, 0, 0, 0⟩)
abbrev s__wall : Stmt := top 0
abbrev s_show : Stmt := top 3
abbrev s_shown_params : Stmt := top 4
abbrev s_block_lines : Stmt := top 5
abbrev s_statement_lines : Stmt := top 6
abbrev s_block_parts : Stmt := top 7
abbrev s_if_parts : Stmt := top 8
abbrev s_try_parts : Stmt := top 9
abbrev s_shown_with : Stmt := top 10
abbrev s_shown_plain : Stmt := top 11
abbrev s_shown_call : Stmt := top 12
abbrev s_shown_arg : Stmt := top 13
abbrev s_shown_sum : Stmt := top 14
abbrev s_shown_term : Stmt := top 15
abbrev s_is_word : Stmt := top 31
abbrev s_is_number : Stmt := top 32
abbrev s_kind_of : Stmt := top 33
abbrev s_run_end : Stmt := top 34
abbrev s_tokens_of : Stmt := top 35
abbrev s_Tokens___init__ : Stmt := inClass (top 36) 0
abbrev s_Tokens_kind_ahead : Stmt := inClass (top 36) 1
abbrev s_Tokens_here : Stmt := inClass (top 36) 2
abbrev s_Tokens_take : Stmt := inClass (top 36) 3
abbrev s_Tokens_skip : Stmt := inClass (top 36) 4
abbrev s_Tokens_word_ahead : Stmt := inClass (top 36) 5
abbrev s_Tokens_skip_word : Stmt := inClass (top 36) 6
abbrev s_Tokens_take_word : Stmt := inClass (top 36) 7
abbrev s_parse : Stmt := top 40
abbrev s_read_declared : Stmt := top 41
abbrev s_read_function : Stmt := top 42
abbrev s_read_param : Stmt := top 43
abbrev s_read_listed : Stmt := top 44
abbrev s_read_names : Stmt := top 45
abbrev s_read_block : Stmt := top 46
abbrev s_read_statement : Stmt := top 47
abbrev s_read_named : Stmt := top 48
abbrev s_read_call_to : Stmt := top 49
abbrev s_read_call : Stmt := top 50
abbrev s_read_arg : Stmt := top 51
abbrev s_read_risk : Stmt := top 52
abbrev s_read_raise : Stmt := top 53
abbrev s_read_return : Stmt := top 54
abbrev s_read_if : Stmt := top 55
abbrev s_read_while : Stmt := top 56
abbrev s_read_undo : Stmt := top 57
abbrev s_read_try : Stmt := top 58
abbrev s_read_handler : Stmt := top 59
abbrev s_read_with : Stmt := top 60
abbrev s_read_expression : Stmt := top 63
abbrev s_read_sign : Stmt := top 64
abbrev s_read_term : Stmt := top 65
abbrev s_read_number : Stmt := top 66
abbrev s__law_pool : Stmt := top 68
abbrev s__law_mixed : Stmt := top 69
abbrev s__law_draw : Stmt := top 70
abbrev s__law_names : Stmt := top 71
abbrev s__law_expression : Stmt := top 72
abbrev s__law_args : Stmt := top 73
abbrev s__law_call : Stmt := top 74
abbrev s__law_some : Stmt := top 75
abbrev s__law_piece : Stmt := top 76
abbrev s__law_block : Stmt := top 77
abbrev s__law_tree : Stmt := top 78
abbrev s__law_parts : Stmt := top 79
abbrev s__law_size : Stmt := top 80
abbrev s__law_expression_text : Stmt := top 81
abbrev s__law_call_text : Stmt := top 82
abbrev s__law_heads : Stmt := top 83
abbrev s__law_line : Stmt := top 84
abbrev s__law_lines : Stmt := top 85
abbrev s__law_text : Stmt := top 86
abbrev s__law_same : Stmt := top 87
abbrev s__law_wide : Stmt := top 88
abbrev s_law : Stmt := top 89
/-- where the text's defs and classes stand -/
structure Ads where
  f__wall : Addr
  f__wall_d : FuncData
  f_show : Addr
  f_show_d : FuncData
  f_shown_params : Addr
  f_shown_params_d : FuncData
  f_block_lines : Addr
  f_block_lines_d : FuncData
  f_statement_lines : Addr
  f_statement_lines_d : FuncData
  f_block_parts : Addr
  f_block_parts_d : FuncData
  f_if_parts : Addr
  f_if_parts_d : FuncData
  f_try_parts : Addr
  f_try_parts_d : FuncData
  f_shown_with : Addr
  f_shown_with_d : FuncData
  f_shown_plain : Addr
  f_shown_plain_d : FuncData
  f_shown_call : Addr
  f_shown_call_d : FuncData
  f_shown_arg : Addr
  f_shown_arg_d : FuncData
  f_shown_sum : Addr
  f_shown_sum_d : FuncData
  f_shown_term : Addr
  f_shown_term_d : FuncData
  f_is_word : Addr
  f_is_word_d : FuncData
  f_is_number : Addr
  f_is_number_d : FuncData
  f_kind_of : Addr
  f_kind_of_d : FuncData
  f_run_end : Addr
  f_run_end_d : FuncData
  f_tokens_of : Addr
  f_tokens_of_d : FuncData
  f_Tokens___init__ : Addr
  f_Tokens___init___d : FuncData
  f_Tokens_kind_ahead : Addr
  f_Tokens_kind_ahead_d : FuncData
  f_Tokens_here : Addr
  f_Tokens_here_d : FuncData
  f_Tokens_take : Addr
  f_Tokens_take_d : FuncData
  f_Tokens_skip : Addr
  f_Tokens_skip_d : FuncData
  f_Tokens_word_ahead : Addr
  f_Tokens_word_ahead_d : FuncData
  f_Tokens_skip_word : Addr
  f_Tokens_skip_word_d : FuncData
  f_Tokens_take_word : Addr
  f_Tokens_take_word_d : FuncData
  f_parse : Addr
  f_parse_d : FuncData
  f_read_declared : Addr
  f_read_declared_d : FuncData
  f_read_function : Addr
  f_read_function_d : FuncData
  f_read_param : Addr
  f_read_param_d : FuncData
  f_read_listed : Addr
  f_read_listed_d : FuncData
  f_read_names : Addr
  f_read_names_d : FuncData
  f_read_block : Addr
  f_read_block_d : FuncData
  f_read_statement : Addr
  f_read_statement_d : FuncData
  f_read_named : Addr
  f_read_named_d : FuncData
  f_read_call_to : Addr
  f_read_call_to_d : FuncData
  f_read_call : Addr
  f_read_call_d : FuncData
  f_read_arg : Addr
  f_read_arg_d : FuncData
  f_read_risk : Addr
  f_read_risk_d : FuncData
  f_read_raise : Addr
  f_read_raise_d : FuncData
  f_read_return : Addr
  f_read_return_d : FuncData
  f_read_if : Addr
  f_read_if_d : FuncData
  f_read_while : Addr
  f_read_while_d : FuncData
  f_read_undo : Addr
  f_read_undo_d : FuncData
  f_read_try : Addr
  f_read_try_d : FuncData
  f_read_handler : Addr
  f_read_handler_d : FuncData
  f_read_with : Addr
  f_read_with_d : FuncData
  f_read_expression : Addr
  f_read_expression_d : FuncData
  f_read_sign : Addr
  f_read_sign_d : FuncData
  f_read_term : Addr
  f_read_term_d : FuncData
  f_read_number : Addr
  f_read_number_d : FuncData
  f__law_pool : Addr
  f__law_pool_d : FuncData
  f__law_mixed : Addr
  f__law_mixed_d : FuncData
  f__law_draw : Addr
  f__law_draw_d : FuncData
  f__law_names : Addr
  f__law_names_d : FuncData
  f__law_expression : Addr
  f__law_expression_d : FuncData
  f__law_args : Addr
  f__law_args_d : FuncData
  f__law_call : Addr
  f__law_call_d : FuncData
  f__law_some : Addr
  f__law_some_d : FuncData
  f__law_piece : Addr
  f__law_piece_d : FuncData
  f__law_block : Addr
  f__law_block_d : FuncData
  f__law_tree : Addr
  f__law_tree_d : FuncData
  f__law_parts : Addr
  f__law_parts_d : FuncData
  f__law_size : Addr
  f__law_size_d : FuncData
  f__law_expression_text : Addr
  f__law_expression_text_d : FuncData
  f__law_call_text : Addr
  f__law_call_text_d : FuncData
  f__law_heads : Addr
  f__law_heads_d : FuncData
  f__law_line : Addr
  f__law_line_d : FuncData
  f__law_lines : Addr
  f__law_lines_d : FuncData
  f__law_text : Addr
  f__law_text_d : FuncData
  f__law_same : Addr
  f__law_same_d : FuncData
  f__law_wide : Addr
  f__law_wide_d : FuncData
  f_law : Addr
  f_law_d : FuncData
  c_Tokens : Addr
  t_KEYWORDS : Addr
  t_SIGNS : Addr
/-- what the top has left -/
structure Txt (K : PySem.W.Frag) (mg : Str → Option Value) (a : Ads) : Prop where
  F__wall : Fun K "_wall" "_wall" s__wall a.f__wall a.f__wall_d
  b__wall : Binds K a.f__wall_d ["k"] []
  g__wall : mg "_wall" = some (.ref a.f__wall)
  F_show : Fun K "show" "show" s_show a.f_show a.f_show_d
  b_show : Binds K a.f_show_d ["tree"] []
  g_show : mg "show" = some (.ref a.f_show)
  F_shown_params : Fun K "shown_params" "shown_params" s_shown_params a.f_shown_params a.f_shown_params_d
  b_shown_params : Binds K a.f_shown_params_d ["params"] []
  g_shown_params : mg "shown_params" = some (.ref a.f_shown_params)
  F_block_lines : Fun K "block_lines" "block_lines" s_block_lines a.f_block_lines a.f_block_lines_d
  b_block_lines : Binds K a.f_block_lines_d ["parts", "indent"] []
  g_block_lines : mg "block_lines" = some (.ref a.f_block_lines)
  F_statement_lines : Fun K "statement_lines" "statement_lines" s_statement_lines a.f_statement_lines a.f_statement_lines_d
  b_statement_lines : Binds K a.f_statement_lines_d ["statement", "indent"] []
  g_statement_lines : mg "statement_lines" = some (.ref a.f_statement_lines)
  F_block_parts : Fun K "block_parts" "block_parts" s_block_parts a.f_block_parts a.f_block_parts_d
  b_block_parts : Binds K a.f_block_parts_d ["statement"] []
  g_block_parts : mg "block_parts" = some (.ref a.f_block_parts)
  F_if_parts : Fun K "if_parts" "if_parts" s_if_parts a.f_if_parts a.f_if_parts_d
  b_if_parts : Binds K a.f_if_parts_d ["statement"] []
  g_if_parts : mg "if_parts" = some (.ref a.f_if_parts)
  F_try_parts : Fun K "try_parts" "try_parts" s_try_parts a.f_try_parts a.f_try_parts_d
  b_try_parts : Binds K a.f_try_parts_d ["statement"] []
  g_try_parts : mg "try_parts" = some (.ref a.f_try_parts)
  F_shown_with : Fun K "shown_with" "shown_with" s_shown_with a.f_shown_with a.f_shown_with_d
  b_shown_with : Binds K a.f_shown_with_d ["statement"] []
  g_shown_with : mg "shown_with" = some (.ref a.f_shown_with)
  F_shown_plain : Fun K "shown_plain" "shown_plain" s_shown_plain a.f_shown_plain a.f_shown_plain_d
  b_shown_plain : Binds K a.f_shown_plain_d ["statement"] []
  g_shown_plain : mg "shown_plain" = some (.ref a.f_shown_plain)
  F_shown_call : Fun K "shown_call" "shown_call" s_shown_call a.f_shown_call a.f_shown_call_d
  b_shown_call : Binds K a.f_shown_call_d ["call"] []
  g_shown_call : mg "shown_call" = some (.ref a.f_shown_call)
  F_shown_arg : Fun K "shown_arg" "shown_arg" s_shown_arg a.f_shown_arg a.f_shown_arg_d
  b_shown_arg : Binds K a.f_shown_arg_d ["arg"] []
  g_shown_arg : mg "shown_arg" = some (.ref a.f_shown_arg)
  F_shown_sum : Fun K "shown_sum" "shown_sum" s_shown_sum a.f_shown_sum a.f_shown_sum_d
  b_shown_sum : Binds K a.f_shown_sum_d ["expression"] []
  g_shown_sum : mg "shown_sum" = some (.ref a.f_shown_sum)
  F_shown_term : Fun K "shown_term" "shown_term" s_shown_term a.f_shown_term a.f_shown_term_d
  b_shown_term : Binds K a.f_shown_term_d ["name", "factor"] []
  g_shown_term : mg "shown_term" = some (.ref a.f_shown_term)
  F_is_word : Fun K "is_word" "is_word" s_is_word a.f_is_word a.f_is_word_d
  b_is_word : Binds K a.f_is_word_d ["text"] []
  g_is_word : mg "is_word" = some (.ref a.f_is_word)
  F_is_number : Fun K "is_number" "is_number" s_is_number a.f_is_number a.f_is_number_d
  b_is_number : Binds K a.f_is_number_d ["piece"] []
  g_is_number : mg "is_number" = some (.ref a.f_is_number)
  F_kind_of : Fun K "kind_of" "kind_of" s_kind_of a.f_kind_of a.f_kind_of_d
  b_kind_of : Binds K a.f_kind_of_d ["piece"] []
  g_kind_of : mg "kind_of" = some (.ref a.f_kind_of)
  F_run_end : Fun K "run_end" "run_end" s_run_end a.f_run_end a.f_run_end_d
  b_run_end : Binds K a.f_run_end_d ["text", "start"] []
  g_run_end : mg "run_end" = some (.ref a.f_run_end)
  F_tokens_of : Fun K "tokens_of" "tokens_of" s_tokens_of a.f_tokens_of a.f_tokens_of_d
  b_tokens_of : Binds K a.f_tokens_of_d ["text"] []
  g_tokens_of : mg "tokens_of" = some (.ref a.f_tokens_of)
  F_Tokens___init__ : Fun K "__init__" "Tokens.__init__" s_Tokens___init__ a.f_Tokens___init__ a.f_Tokens___init___d
  b_Tokens___init__ : Binds K a.f_Tokens___init___d ["self", "text"] []
  mk_Tokens : Mk K a.c_Tokens a.f_Tokens___init__
  F_Tokens_kind_ahead : FunD K "kind_ahead" "Tokens.kind_ahead" (defArgs s_Tokens_kind_ahead) (defBody s_Tokens_kind_ahead) (defScope s_Tokens_kind_ahead) [.int 0] [] a.f_Tokens_kind_ahead a.f_Tokens_kind_ahead_d
  b_Tokens_kind_ahead : ∃ ds, Vals [.int 0] ds ∧ Binds K a.f_Tokens_kind_ahead_d ["self", "further"] ds
  m_Tokens_kind_ahead : Meth K a.c_Tokens "kind_ahead" a.f_Tokens_kind_ahead
  F_Tokens_here : Fun K "here" "Tokens.here" s_Tokens_here a.f_Tokens_here a.f_Tokens_here_d
  b_Tokens_here : Binds K a.f_Tokens_here_d ["self"] []
  m_Tokens_here : Meth K a.c_Tokens "here" a.f_Tokens_here
  F_Tokens_take : Fun K "take" "Tokens.take" s_Tokens_take a.f_Tokens_take a.f_Tokens_take_d
  b_Tokens_take : Binds K a.f_Tokens_take_d ["self", "kind"] []
  m_Tokens_take : Meth K a.c_Tokens "take" a.f_Tokens_take
  F_Tokens_skip : Fun K "skip" "Tokens.skip" s_Tokens_skip a.f_Tokens_skip a.f_Tokens_skip_d
  b_Tokens_skip : Binds K a.f_Tokens_skip_d ["self", "kind"] []
  m_Tokens_skip : Meth K a.c_Tokens "skip" a.f_Tokens_skip
  F_Tokens_word_ahead : Fun K "word_ahead" "Tokens.word_ahead" s_Tokens_word_ahead a.f_Tokens_word_ahead a.f_Tokens_word_ahead_d
  b_Tokens_word_ahead : Binds K a.f_Tokens_word_ahead_d ["self"] []
  m_Tokens_word_ahead : Meth K a.c_Tokens "word_ahead" a.f_Tokens_word_ahead
  F_Tokens_skip_word : Fun K "skip_word" "Tokens.skip_word" s_Tokens_skip_word a.f_Tokens_skip_word a.f_Tokens_skip_word_d
  b_Tokens_skip_word : Binds K a.f_Tokens_skip_word_d ["self", "word"] []
  m_Tokens_skip_word : Meth K a.c_Tokens "skip_word" a.f_Tokens_skip_word
  F_Tokens_take_word : Fun K "take_word" "Tokens.take_word" s_Tokens_take_word a.f_Tokens_take_word a.f_Tokens_take_word_d
  b_Tokens_take_word : Binds K a.f_Tokens_take_word_d ["self", "words"] []
  m_Tokens_take_word : Meth K a.c_Tokens "take_word" a.f_Tokens_take_word
  F_parse : Fun K "parse" "parse" s_parse a.f_parse a.f_parse_d
  b_parse : Binds K a.f_parse_d ["text"] []
  g_parse : mg "parse" = some (.ref a.f_parse)
  F_read_declared : Fun K "read_declared" "read_declared" s_read_declared a.f_read_declared a.f_read_declared_d
  b_read_declared : Binds K a.f_read_declared_d ["tokens", "keyword"] []
  g_read_declared : mg "read_declared" = some (.ref a.f_read_declared)
  F_read_function : Fun K "read_function" "read_function" s_read_function a.f_read_function a.f_read_function_d
  b_read_function : Binds K a.f_read_function_d ["tokens"] []
  g_read_function : mg "read_function" = some (.ref a.f_read_function)
  F_read_param : Fun K "read_param" "read_param" s_read_param a.f_read_param a.f_read_param_d
  b_read_param : Binds K a.f_read_param_d ["tokens"] []
  g_read_param : mg "read_param" = some (.ref a.f_read_param)
  F_read_listed : Fun K "read_listed" "read_listed" s_read_listed a.f_read_listed a.f_read_listed_d
  b_read_listed : Binds K a.f_read_listed_d ["tokens", "read_one"] []
  g_read_listed : mg "read_listed" = some (.ref a.f_read_listed)
  F_read_names : Fun K "read_names" "read_names" s_read_names a.f_read_names a.f_read_names_d
  b_read_names : Binds K a.f_read_names_d ["tokens"] []
  g_read_names : mg "read_names" = some (.ref a.f_read_names)
  F_read_block : Fun K "read_block" "read_block" s_read_block a.f_read_block a.f_read_block_d
  b_read_block : Binds K a.f_read_block_d ["tokens", "depth"] []
  g_read_block : mg "read_block" = some (.ref a.f_read_block)
  F_read_statement : Fun K "read_statement" "read_statement" s_read_statement a.f_read_statement a.f_read_statement_d
  b_read_statement : Binds K a.f_read_statement_d ["tokens", "depth"] []
  g_read_statement : mg "read_statement" = some (.ref a.f_read_statement)
  F_read_named : Fun K "read_named" "read_named" s_read_named a.f_read_named a.f_read_named_d
  b_read_named : Binds K a.f_read_named_d ["tokens"] []
  g_read_named : mg "read_named" = some (.ref a.f_read_named)
  F_read_call_to : Fun K "read_call_to" "read_call_to" s_read_call_to a.f_read_call_to a.f_read_call_to_d
  b_read_call_to : Binds K a.f_read_call_to_d ["tokens", "target"] []
  g_read_call_to : mg "read_call_to" = some (.ref a.f_read_call_to)
  F_read_call : Fun K "read_call" "read_call" s_read_call a.f_read_call a.f_read_call_d
  b_read_call : Binds K a.f_read_call_d ["tokens"] []
  g_read_call : mg "read_call" = some (.ref a.f_read_call)
  F_read_arg : Fun K "read_arg" "read_arg" s_read_arg a.f_read_arg a.f_read_arg_d
  b_read_arg : Binds K a.f_read_arg_d ["tokens"] []
  g_read_arg : mg "read_arg" = some (.ref a.f_read_arg)
  F_read_risk : Fun K "read_risk" "read_risk" s_read_risk a.f_read_risk a.f_read_risk_d
  b_read_risk : Binds K a.f_read_risk_d ["tokens"] []
  g_read_risk : mg "read_risk" = some (.ref a.f_read_risk)
  F_read_raise : Fun K "read_raise" "read_raise" s_read_raise a.f_read_raise a.f_read_raise_d
  b_read_raise : Binds K a.f_read_raise_d ["tokens"] []
  g_read_raise : mg "read_raise" = some (.ref a.f_read_raise)
  F_read_return : Fun K "read_return" "read_return" s_read_return a.f_read_return a.f_read_return_d
  b_read_return : Binds K a.f_read_return_d ["tokens"] []
  g_read_return : mg "read_return" = some (.ref a.f_read_return)
  F_read_if : Fun K "read_if" "read_if" s_read_if a.f_read_if a.f_read_if_d
  b_read_if : Binds K a.f_read_if_d ["tokens", "depth"] []
  g_read_if : mg "read_if" = some (.ref a.f_read_if)
  F_read_while : Fun K "read_while" "read_while" s_read_while a.f_read_while a.f_read_while_d
  b_read_while : Binds K a.f_read_while_d ["tokens", "depth"] []
  g_read_while : mg "read_while" = some (.ref a.f_read_while)
  F_read_undo : Fun K "read_undo" "read_undo" s_read_undo a.f_read_undo a.f_read_undo_d
  b_read_undo : Binds K a.f_read_undo_d ["tokens", "depth"] []
  g_read_undo : mg "read_undo" = some (.ref a.f_read_undo)
  F_read_try : Fun K "read_try" "read_try" s_read_try a.f_read_try a.f_read_try_d
  b_read_try : Binds K a.f_read_try_d ["tokens", "depth"] []
  g_read_try : mg "read_try" = some (.ref a.f_read_try)
  F_read_handler : Fun K "read_handler" "read_handler" s_read_handler a.f_read_handler a.f_read_handler_d
  b_read_handler : Binds K a.f_read_handler_d ["tokens", "depth"] []
  g_read_handler : mg "read_handler" = some (.ref a.f_read_handler)
  F_read_with : Fun K "read_with" "read_with" s_read_with a.f_read_with a.f_read_with_d
  b_read_with : Binds K a.f_read_with_d ["tokens", "depth"] []
  g_read_with : mg "read_with" = some (.ref a.f_read_with)
  F_read_expression : Fun K "read_expression" "read_expression" s_read_expression a.f_read_expression a.f_read_expression_d
  b_read_expression : Binds K a.f_read_expression_d ["tokens"] []
  g_read_expression : mg "read_expression" = some (.ref a.f_read_expression)
  F_read_sign : Fun K "read_sign" "read_sign" s_read_sign a.f_read_sign a.f_read_sign_d
  b_read_sign : Binds K a.f_read_sign_d ["tokens"] []
  g_read_sign : mg "read_sign" = some (.ref a.f_read_sign)
  F_read_term : Fun K "read_term" "read_term" s_read_term a.f_read_term a.f_read_term_d
  b_read_term : Binds K a.f_read_term_d ["tokens"] []
  g_read_term : mg "read_term" = some (.ref a.f_read_term)
  F_read_number : Fun K "read_number" "read_number" s_read_number a.f_read_number a.f_read_number_d
  b_read_number : Binds K a.f_read_number_d ["tokens"] []
  g_read_number : mg "read_number" = some (.ref a.f_read_number)
  F__law_pool : Fun K "_law_pool" "_law_pool" s__law_pool a.f__law_pool a.f__law_pool_d
  b__law_pool : Binds K a.f__law_pool_d ["_law_script"] []
  g__law_pool : mg "_law_pool" = some (.ref a.f__law_pool)
  F__law_mixed : Fun K "_law_mixed" "_law_mixed" s__law_mixed a.f__law_mixed a.f__law_mixed_d
  b__law_mixed : Binds K a.f__law_mixed_d ["_law_number", "_law_count", "_law_many"] []
  g__law_mixed : mg "_law_mixed" = some (.ref a.f__law_mixed)
  F__law_draw : Fun K "_law_draw" "_law_draw" s__law_draw a.f__law_draw a.f__law_draw_d
  b__law_draw : Binds K a.f__law_draw_d ["_law_pool_here", "_law_many"] []
  g__law_draw : mg "_law_draw" = some (.ref a.f__law_draw)
  F__law_names : Fun K "_law_names" "_law_names" s__law_names a.f__law_names a.f__law_names_d
  b__law_names : Binds K a.f__law_names_d ["_law_pool_here"] []
  g__law_names : mg "_law_names" = some (.ref a.f__law_names)
  F__law_expression : Fun K "_law_expression" "_law_expression" s__law_expression a.f__law_expression a.f__law_expression_d
  b__law_expression : Binds K a.f__law_expression_d ["_law_pool_here", "_law_names_here", "_law_great"] []
  g__law_expression : mg "_law_expression" = some (.ref a.f__law_expression)
  F__law_args : Fun K "_law_args" "_law_args" s__law_args a.f__law_args a.f__law_args_d
  b__law_args : Binds K a.f__law_args_d ["_law_pool_here", "_law_params", "_law_names_here"] []
  g__law_args : mg "_law_args" = some (.ref a.f__law_args)
  F__law_call : Fun K "_law_call" "_law_call" s__law_call a.f__law_call a.f__law_call_d
  b__law_call : Binds K a.f__law_call_d ["_law_pool_here", "_law_env"] []
  g__law_call : mg "_law_call" = some (.ref a.f__law_call)
  F__law_some : Fun K "_law_some" "_law_some" s__law_some a.f__law_some a.f__law_some_d
  b__law_some : Binds K a.f__law_some_d ["_law_pool_here", "_law_kinds"] []
  g__law_some : mg "_law_some" = some (.ref a.f__law_some)
  F__law_piece : Fun K "_law_piece" "_law_piece" s__law_piece a.f__law_piece a.f__law_piece_d
  b__law_piece : Binds K a.f__law_piece_d ["_law_pool_here", "_law_env", "_law_depth", "_law_is_last"] []
  g__law_piece : mg "_law_piece" = some (.ref a.f__law_piece)
  F__law_block : Fun K "_law_block" "_law_block" s__law_block a.f__law_block a.f__law_block_d
  b__law_block : Binds K a.f__law_block_d ["_law_pool_here", "_law_env", "_law_depth", "_law_is_last"] []
  g__law_block : mg "_law_block" = some (.ref a.f__law_block)
  F__law_tree : Fun K "_law_tree" "_law_tree" s__law_tree a.f__law_tree a.f__law_tree_d
  b__law_tree : Binds K a.f__law_tree_d ["_law_pool_here"] []
  g__law_tree : mg "_law_tree" = some (.ref a.f__law_tree)
  F__law_parts : Fun K "_law_parts" "_law_parts" s__law_parts a.f__law_parts a.f__law_parts_d
  b__law_parts : Binds K a.f__law_parts_d ["_law_statement"] []
  g__law_parts : mg "_law_parts" = some (.ref a.f__law_parts)
  F__law_size : Fun K "_law_size" "_law_size" s__law_size a.f__law_size a.f__law_size_d
  b__law_size : Binds K a.f__law_size_d ["_law_block_here"] []
  g__law_size : mg "_law_size" = some (.ref a.f__law_size)
  F__law_expression_text : Fun K "_law_expression_text" "_law_expression_text" s__law_expression_text a.f__law_expression_text a.f__law_expression_text_d
  b__law_expression_text : Binds K a.f__law_expression_text_d ["_law_expression_here"] []
  g__law_expression_text : mg "_law_expression_text" = some (.ref a.f__law_expression_text)
  F__law_call_text : Fun K "_law_call_text" "_law_call_text" s__law_call_text a.f__law_call_text a.f__law_call_text_d
  b__law_call_text : Binds K a.f__law_call_text_d ["_law_call_here"] []
  g__law_call_text : mg "_law_call_text" = some (.ref a.f__law_call_text)
  F__law_heads : Fun K "_law_heads" "_law_heads" s__law_heads a.f__law_heads a.f__law_heads_d
  b__law_heads : Binds K a.f__law_heads_d ["_law_statement"] []
  g__law_heads : mg "_law_heads" = some (.ref a.f__law_heads)
  F__law_line : Fun K "_law_line" "_law_line" s__law_line a.f__law_line a.f__law_line_d
  b__law_line : Binds K a.f__law_line_d ["_law_statement"] []
  g__law_line : mg "_law_line" = some (.ref a.f__law_line)
  F__law_lines : Fun K "_law_lines" "_law_lines" s__law_lines a.f__law_lines a.f__law_lines_d
  b__law_lines : Binds K a.f__law_lines_d ["_law_block_here", "_law_indent"] []
  g__law_lines : mg "_law_lines" = some (.ref a.f__law_lines)
  F__law_text : Fun K "_law_text" "_law_text" s__law_text a.f__law_text a.f__law_text_d
  b__law_text : Binds K a.f__law_text_d ["_law_tree_here"] []
  g__law_text : mg "_law_text" = some (.ref a.f__law_text)
  F__law_same : Fun K "_law_same" "_law_same" s__law_same a.f__law_same a.f__law_same_d
  b__law_same : Binds K a.f__law_same_d ["_law_actual", "_law_due"] []
  g__law_same : mg "_law_same" = some (.ref a.f__law_same)
  F__law_wide : Fun K "_law_wide" "_law_wide" s__law_wide a.f__law_wide a.f__law_wide_d
  b__law_wide : Binds K a.f__law_wide_d ["_law_text_here"] []
  g__law_wide : mg "_law_wide" = some (.ref a.f__law_wide)
  F_law : Fun K "law" "law" s_law a.f_law a.f_law_d
  g_law : mg "law" = some (.ref a.f_law)
  cl_Tokens : Cls K a.c_Tokens
  mg_Tokens : mg "Tokens" = some (.ref a.c_Tokens)
  n_Tokens_found : NoAttr K a.c_Tokens "found"
  n_Tokens_taken : NoAttr K a.c_Tokens "taken"
  int : mg "int" = none
  len : mg "len" = none
  all : mg "all" = none
  max : mg "max" = none
  isinstance : mg "isinstance" = none
  str : mg "str" = none
  tuple : mg "tuple" = none
  sorted : mg "sorted" = none
  abs : mg "abs" = none
  range : mg "range" = none
  bool : mg "bool" = none
  list : mg "list" = none
  sum : mg "sum" = none
  g_LETTERS : ∃ t, mg "LETTERS" = some (.str LET t)
  g_DIGITS : ∃ t, mg "DIGITS" = some (.str DIG t)
  g_BLANKS : ∃ t, mg "BLANKS" = some (.str " \n" t)
  g_NAME : ∃ t, mg "NAME" = some (.str "NAME" t)
  g_NUMBER : ∃ t, mg "NUMBER" = some (.str "NUMBER" t)
  g_WRONG : ∃ t, mg "WRONG" = some (.str "WRONG" t)
  g_END : ∃ t, mg "END" = some (.str "END" t)
  g_INDENT : ∃ t, mg "INDENT" = some (.str "  " t)
  g_MOST_DIGITS : ∃ t, mg "MOST_DIGITS" = some (.int 12 t)
  g_MOST_NESTED : ∃ t, mg "MOST_NESTED" = some (.int 30 t)
  g_KEYWORDS : mg "KEYWORDS" = some (.ref a.t_KEYWORDS)
  q_KEYWORDS : ∀ H, SqT K H a.t_KEYWORDS kws
  g_SIGNS : mg "SIGNS" = some (.ref a.t_SIGNS)
  q_SIGNS : ∀ H, SqT K H a.t_SIGNS sgs

/-! ### the mirror of tokens -/
def letter (c : Nat) : Bool := decide (c ∈ LET.cps.toList)
def digit (c : Nat) : Bool := decide (c ∈ DIG.cps.toList)
def blank (c : Nat) : Bool := decide (c ∈ (Str.ofString " \n").cps.toList)
def alnum (c : Nat) : Bool := letter c || digit c
def isW (z : Str) : Bool := match tl z with
  | [] => false
  | c :: r => letter c && (c :: r).all alnum
def isNum (z : Str) : Bool := match tl z with
  | [] => false
  | c :: r => if decide (V.str ⟨#[c]⟩ = V.str (Str.ofString "0")) = true then decide (V.str z = V.str (Str.ofString "0")) else (c :: r).all digit
def kindOf (z : Str) : Str := if isW z = true then (if inV (.str z) kws = true then z else "NAME") else if isNum z = true then "NUMBER" else if inV (.str z) sgs = true then z else "WRONG"
def runLen (cs : List Nat) : Nat := (cs.takeWhile alnum).length
abbrev Tok3 := Str × Str × Nat
def toksF : Nat → List Nat → Nat → List Tok3
  | 0, _, _ => []
  | _ + 1, [], _ => []
  | n + 1, c :: r, p => if blank c = true then toksF n r (p + 1) else
      (kindOf ⟨((c :: r).take (max 1 (runLen (c :: r)))).toArray⟩, ⟨((c :: r).take (max 1 (runLen (c :: r)))).toArray⟩, p) :: toksF n ((c :: r).drop (max 1 (runLen (c :: r)))) (p + max 1 (runLen (c :: r)))
def toksL (cs : List Nat) (p : Nat) : List Tok3 := toksF cs.length cs p
def toks (z : Str) : List Tok3 := toksL (tl z) 0 ++ ([("END", "", z.length)] : List Tok3)
theorem toksF_fuel : ∀ (n m : Nat) (cs : List Nat) (p : Nat), cs.length ≤ n → cs.length ≤ m → toksF n cs p = toksF m cs p
  | 0, 0, _, _, _, _ => rfl
  | 0, m + 1, [], _, _, _ => rfl
  | 0, m + 1, c :: r, _, h, _ => by simp at h
  | n + 1, 0, [], _, _, _ => rfl
  | n + 1, 0, c :: r, _, _, h => by simp at h
  | n + 1, m + 1, [], _, _, _ => rfl
  | n + 1, m + 1, c :: r, p, h1, h2 => by
    have l1 : r.length ≤ n := by simpa using h1
    have l2 : r.length ≤ m := by simpa using h2
    have ld : ((c :: r).drop (max 1 (runLen (c :: r)))).length ≤ r.length := by
      rw [List.length_drop, List.length_cons]
      omega
    show (if blank c = true then toksF n r (p + 1) else _ :: toksF n _ _) = (if blank c = true then toksF m r (p + 1) else _ :: toksF m _ _)
    rw [toksF_fuel n m r (p + 1) l1 l2, toksF_fuel n m _ (p + max 1 (runLen (c :: r))) (Nat.le_trans ld l1) (Nat.le_trans ld l2)]
theorem toksL_nil (p : Nat) : toksL [] p = [] := rfl
theorem toksL_blank {c : Nat} {r : List Nat} {p : Nat} (h : blank c = true) : toksL (c :: r) p = toksL r (p + 1) := by
  show (if blank c = true then toksF r.length r (p + 1) else _) = _
  rw [if_pos h]
  rfl
theorem toksL_tok {c : Nat} {r : List Nat} {p : Nat} (h : blank c = false) : toksL (c :: r) p =
    (kindOf ⟨((c :: r).take (max 1 (runLen (c :: r)))).toArray⟩, ⟨((c :: r).take (max 1 (runLen (c :: r)))).toArray⟩, p) :: toksL ((c :: r).drop (max 1 (runLen (c :: r)))) (p + max 1 (runLen (c :: r))) := by
  show (if blank c = true then _ else _ :: toksF r.length _ _) = _
  rw [if_neg (by rw [h]; exact Bool.false_ne_true)]
  congr 1
  exact toksF_fuel _ _ _ _ (by rw [List.length_drop, List.length_cons]; omega) (Nat.le_refl _)
theorem isW_cons {z : Str} {c : Nat} {r : List Nat} (e : tl z = c :: r) (hc : letter c = true) : isW z = ((tl z).map alnum).all id := by
  unfold isW
  rw [e]
  show (letter c && (c :: r).all alnum) = ((c :: r).map alnum).all id
  rw [hc, Bool.true_and, List.all_map]
  rfl
theorem isW_not {z : Str} {c : Nat} {r : List Nat} (e : tl z = c :: r) (hc : letter c = false) : isW z = false := by
  unfold isW
  rw [e]
  show (letter c && (c :: r).all alnum) = false
  rw [hc, Bool.false_and]
theorem isW_nil {z : Str} (e : tl z = []) : isW z = false := by
  unfold isW
  rw [e]
theorem tl_empty : tl (Str.ofString "") = [] := by decide +kernel
theorem at0 {z : Str} {c : Nat} {r : List Nat} (e : tl z = c :: r) : atI z.cps.toList 0 = some c := by
  show atI (tl z) 0 = some c
  rw [e]
  exact atI_nat (j := 0) rfl
def spWord : Sp := fun vs H Q _ => ∃ z, vs = [.str z] ∧ Big z ∧ ∀ H', Same H H' → Q (.bl (isW z)) H'
def spNumb : Sp := fun vs H Q _ => ∃ z, vs = [.str z] ∧ Big z ∧ tl z ≠ [] ∧ ∀ H', Same H H' → Q (.bl (isNum z)) H'
def spKind : Sp := fun vs H Q _ => ∃ z, vs = [.str z] ∧ Big z ∧ tl z ≠ [] ∧ ∀ H', Same H H' → Q (.str (kindOf z)) H'
def spRun : Sp := fun vs H Q _ => ∃ (z : Str) (i : Nat), vs = [.str z, .int i] ∧ Big z ∧ i < z.length ∧ Q (.int ((i + max 1 (runLen ((tl z).drop i)) : Nat) : Int)) H
section
variable {P : Program} {w : World} {K : PySem.W.Frag} {mg : Str → Option Value} {base : Heap} {a : Ads}
theorem sc_is_word : FnScope ["text", "sign"] ["text"] (defScope s_is_word) := ⟨rfl, rfl, rfl, by decide +kernel, rfl, by decide +kernel, by decide +kernel⟩
theorem ok_is_word (T : Txt K mg a) : FnOk P w K mg base CX0 1 a.f_is_word a.f_is_word_d ["text"] spWord := by
  refine T.F_is_word.ok sc_is_word (fun vs H Q E h => ?_) (fun cdv A outer s H vs Q E hr h => ?_)
  · obtain ⟨z, rfl, _⟩ := h
    rfl
  obtain ⟨z, rfl, hz, q⟩ := h
  refine ⟨_, (pss_cons (ps_if (PW.pt (pw_or (pt_cmpR op_eq (pv 0) pe_str (nomark _)) (pw_or1 (pt_cmpR op_notIn_sign (pe_ix ix_str (pv 0) pe_int (fun _ _ => rfl)) (pe_gs rfl T.g_LETTERS) (by rfl)))))
      (pss_one (ps_ret pe_bl))
      pss_nil)
    (pss_one (ps_ret (pe_callB (cr_all rfl) (by rfl) T.all (by decide +kernel) (pa_cons (pe_lc (own := [("sign", 1)]) (g := gName 1) (tt := tYes) (by rfl) sc_is_word.nd (pi_str (pv 0)) (blkOk_by (own := [("sign", 1)]) (N := ["text", "sign"]) (sc := defScope s_is_word) (by decide +kernel)) (fun _ _ _ _ _ => pg_name (i := 1) sc_is_word.nd rfl (Or.inl rfl)) (fun _ _ _ _ _ => pts_nil) (fun _ _ _ _ _ => (pe_or (pe_cmpR op_in_sign (pv 1) (pe_gs rfl T.g_LETTERS) (by rfl)) (pe_one (pe_cmpR op_in_sign (pv 1) (pe_gs rfl T.g_DIGITS) (by rfl)))))) pa_nil))))), ?_⟩
  cases hc : tl z with
  | nil =>
    have ez : z = Str.ofString "" := ext_tl (hc.trans tl_empty.symm)
    refine st_seq (st_yes (ans_or1 (ans_eq (fun Q q => ⟨_, rfl, q⟩) (fun Q q => q) rfl (decide_eq_true (congrArg V.str ez)))) ?_)
    have := q H (Same.refl H)
    rw [isW_nil hc] at this
    exact this
  | cons c r =>
    have ez : ¬ z = Str.ofString "" := fun e => by
      rw [e, tl_empty] at hc
      cases hc
    refine st_seq (st_ite (ans_or (ans_eq (fun Q q => ⟨_, rfl, q⟩) (fun Q q => q) rfl (decide_eq_false fun e => ez (V.str.inj e))) (b := !letter c) (fun Q q => ⟨_, rfl, z, 0, c, rfl, rfl, bigLe hz, at0 hc, c, LET, rfl, rfl, _, rfl, q⟩)) (fun e => ?_) (fun e => ?_))
    · have := q H (Same.refl H)
      rw [isW_not hc (by simpa using e)] at this
      exact this
    · have hl : letter c = true := by simpa using e
      refine ⟨_, rfl, z, rfl, fun D hD => lc_signs alnum hz hD (fun c' H' Q' q' => ⟨rfl, _, rfl, c', LET, rfl, rfl, _, rfl, ite2 (fun e => ?_) (fun e => ?_)⟩) (fun H' s2 hD2 => ⟨D, _, rfl, SqL.of hD2, ?_⟩)⟩
      · have : alnum c' = true := by unfold alnum letter; rw [e]; rfl
        rw [this] at q'
        exact q'
      · refine ⟨_, rfl, c', DIG, rfl, rfl, ?_⟩
        have : alnum c' = digit c' := by unfold alnum letter; rw [Bool.eq_false_iff.mpr e, Bool.false_or]
        rw [this] at q'
        exact q'
      · rw [← isW_cons hc hl]
        exact q _ s2
theorem sc_is_number : FnScope ["piece", "sign"] ["piece"] (defScope s_is_number) := ⟨rfl, rfl, rfl, by decide +kernel, rfl, by decide +kernel, by decide +kernel⟩
theorem ok_is_number (T : Txt K mg a) : FnOk P w K mg base CX0 1 a.f_is_number a.f_is_number_d ["piece"] spNumb := by
  refine T.F_is_number.ok sc_is_number (fun vs H Q E h => ?_) (fun cdv A outer s H vs Q E hr h => ?_)
  · obtain ⟨z, rfl, _⟩ := h
    rfl
  obtain ⟨z, rfl, hz, hne, q⟩ := h
  refine ⟨_, (pss_cons (ps_if (pt_cmpR op_eq (pe_ix ix_str (pv 0) pe_int (fun _ _ => rfl)) pe_str (nomark _))
      (pss_one (ps_ret (pe_cmpR op_eq (pv 0) pe_str (nomark _))))
      pss_nil)
    (pss_one (ps_ret (pe_callB (cr_all rfl) (by rfl) T.all (by decide +kernel) (pa_cons (pe_lc (own := [("sign", 1)]) (g := gName 1) (tt := tYes) (by rfl) sc_is_number.nd (pi_str (pv 0)) (blkOk_by (own := [("sign", 1)]) (N := ["piece", "sign"]) (sc := defScope s_is_number) (by decide +kernel)) (fun _ _ _ _ _ => pg_name (i := 1) sc_is_number.nd rfl (Or.inl rfl)) (fun _ _ _ _ _ => pts_nil) (fun _ _ _ _ _ => (pe_cmpR op_in_sign (pv 1) (pe_gs rfl T.g_DIGITS) (by rfl)))) pa_nil))))), ?_⟩
  cases hc : tl z with
  | nil => exact absurd hc hne
  | cons c r =>
    refine st_seq (st_ite (b := decide (V.str ⟨#[c]⟩ = V.str (Str.ofString "0"))) (fun Q q => ⟨_, rfl, z, 0, c, rfl, rfl, bigLe hz, at0 hc, rfl, _, rfl, q⟩) (fun e => ?_) (fun e => ?_))
    · refine ⟨_, rfl, rfl, ?_⟩
      have := q H (Same.refl H)
      unfold isNum at this
      rw [hc] at this
      dsimp only at this
      rw [if_pos e] at this
      exact this
    · refine ⟨_, rfl, z, rfl, fun D hD => lc_signs digit hz hD (fun c' H' Q' q' => ⟨rfl, _, rfl, c', DIG, rfl, rfl, q'⟩) (fun H' s2 hD2 => ⟨D, _, rfl, SqL.of hD2, ?_⟩)⟩
      have := q H' s2
      unfold isNum at this
      rw [hc] at this
      dsimp only at this
      rw [if_neg (by rw [e]; exact Bool.false_ne_true)] at this
      rw [hc, List.all_map]
      exact this
theorem kws_flat : kws.all flatV = true := by decide +kernel
theorem sgs_flat : sgs.all flatV = true := by decide +kernel
theorem sc_kind_of : FnScope ["piece"] ["piece"] (defScope s_kind_of) := ⟨rfl, rfl, rfl, by decide +kernel, rfl, by decide +kernel, by decide +kernel⟩
theorem ok_kind_of (T : Txt K mg a) : FnOk P w K mg base CX0 2 a.f_kind_of a.f_kind_of_d ["piece"] spKind := by
  refine T.F_kind_of.ok sc_kind_of (fun vs H Q E h => ?_) (fun cdv A outer s H vs Q E hr h => ?_)
  · obtain ⟨z, rfl, _⟩ := h
    rfl
  obtain ⟨z, rfl, hz, hne, q⟩ := h
  refine ⟨_, (pss_cons (ps_if (pt_val (pe_call (ok_is_word T) (hr.mono (by decide)) (by rfl) T.g_is_word T.F_is_word.kp T.b_is_word .nil pass0 (pa_cons (pv 0) pa_nil)))
      (pss_one (ps_ret (pe_ifExp (pt_cmpR op_in_seq (pv 0) (pe_gr rfl T.g_KEYWORDS) (by rfl)) (pv 0) (pe_gs rfl T.g_NAME))))
      pss_nil)
    (pss_cons (ps_if (pt_val (pe_call (ok_is_number T) (hr.mono (by decide)) (by rfl) T.g_is_number T.F_is_number.kp T.b_is_number .nil pass0 (pa_cons (pv 0) pa_nil)))
      (pss_one (ps_ret (pe_gs rfl T.g_NUMBER)))
      pss_nil)
    (pss_cons (ps_if (pt_cmpR op_in_seq (pv 0) (pe_gr rfl T.g_SIGNS) (by rfl))
      (pss_one (ps_ret (pv 0)))
      pss_nil)
    (pss_one (ps_ret (pe_gs rfl T.g_WRONG)))))), ?_⟩
  refine ⟨_, rfl, z, rfl, hz, fun H1 s1 => ⟨_, rfl, ite2 (fun e1 => ?_) (fun e1 => ?_)⟩⟩
  · refine ⟨_, rfl, _, kws, rfl, .inr (T.q_KEYWORDS H1), rfl, kws_flat, _, rfl, ite2 (fun e2 => ⟨_, rfl, ?_⟩) (fun e2 => ?_)⟩
    · have e2' : inV (.str z) kws = true := e2
      have := q H1 s1
      unfold kindOf at this
      rw [if_pos e1, if_pos e2'] at this
      exact this
    · have e2' : ¬ inV (.str z) kws = true := e2
      have := q H1 s1
      unfold kindOf at this
      rw [if_pos e1, if_neg e2'] at this
      exact this
  · refine ⟨_, rfl, z, rfl, hz, hne, fun H2 s2 => ⟨_, rfl, ite2 (fun e2 => ?_) (fun e2 => ?_)⟩⟩
    · have := q H2 (s1.trans s2)
      unfold kindOf at this
      rw [if_neg e1, if_pos e2] at this
      exact this
    · refine ⟨_, rfl, _, sgs, rfl, .inr (T.q_SIGNS H2), rfl, sgs_flat, _, rfl, ite2 (fun e3 => ⟨_, rfl, ?_⟩) (fun e3 => ?_)⟩
      · have e3' : inV (.str z) sgs = true := e3
        have := q H2 (s1.trans s2)
        unfold kindOf at this
        rw [if_neg e1, if_neg e2, if_pos e3'] at this
        exact this
      · have e3' : ¬ inV (.str z) sgs = true := e3
        have := q H2 (s1.trans s2)
        unfold kindOf at this
        rw [if_neg e1, if_neg e2, if_neg e3'] at this
        exact this
end
end K3
namespace K3
open PySem PySem.Spec PyProof.Rows L2 TL
theorem cutS_nat (z : Str) {p e : Nat} (h1 : p ≤ e) (h2 : e ≤ z.length) : cutS z (some (p : Int)) (some (e : Int)) = ⟨(((tl z).drop p).take (e - p)).toArray⟩ := by
  unfold cutS
  rw [HT.sIx_nat, HT.sIx_nat, Nat.min_eq_left h2, Nat.min_eq_left (Nat.le_trans h1 h2)]
theorem cutS_len (z : Str) (lo hi : Option Int) : (cutS z lo hi).length ≤ z.length := by
  rw [len_tl, len_tl z]
  show ((z.cps.toList.drop _).take _).toArray.toList.length ≤ _
  rw [List.length_take, List.length_drop]
  show _ ≤ z.cps.toList.length
  omega
theorem atI_tl {z : Str} {j : Nat} (h : j < z.length) : ∃ c, atI z.cps.toList (j : Int) = some c ∧ (tl z).drop j = c :: (tl z).drop (j + 1) := by
  have hj : j < (tl z).length := by rw [← len_tl]; exact h
  exact ⟨(tl z)[j], atI_nat (List.getElem?_eq_getElem hj), List.drop_eq_getElem_cons hj⟩
theorem runLen_hit {c : Nat} {r : List Nat} (h : alnum c = true) : runLen (c :: r) = runLen r + 1 := by
  unfold runLen
  rw [List.takeWhile_cons_of_pos h]
  rfl
theorem runLen_miss {c : Nat} {r : List Nat} (h : alnum c = false) : runLen (c :: r) = 0 := by
  unfold runLen
  rw [List.takeWhile_cons_of_neg (by rw [h]; exact Bool.false_ne_true)]
  rfl
theorem runLen_le (l : List Nat) : runLen l ≤ l.length := by
  unfold runLen
  exact (List.takeWhile_sublist _).length_le
def tok (t : Tok3) : List V := [.str t.1, .str t.2.1, .int (t.2.2 : Int)]
def Rep (H : Hp) : List Addr → List Tok3 → Prop
  | [], [] => True
  | a :: as, t :: ts => H a = some (.tup (tok t)) ∧ Rep H as ts
  | _, _ => False
theorem Rep.same {H H' : Hp} (s : Same H H') : ∀ {as : List Addr} {ts : List Tok3}, Rep H as ts → Rep H' as ts
  | [], [], _ => trivial
  | _ :: _, _ :: _, h => ⟨s _ _ h.1, Rep.same s h.2⟩
  | [], _ :: _, h => h.elim
  | _ :: _, [], h => h.elim
theorem Rep.app {H : Hp} {a : Addr} {t : Tok3} (ha : H a = some (.tup (tok t))) : ∀ {as : List Addr} {ts : List Tok3}, Rep H as ts → Rep H (as ++ [a]) (ts ++ [t])
  | [], [], _ => ⟨ha, trivial⟩
  | _ :: _, _ :: _, h => ⟨h.1, Rep.app ha h.2⟩
  | [], _ :: _, h => h.elim
  | _ :: _, [], h => h.elim
theorem Rep.len {H : Hp} : ∀ {as : List Addr} {ts : List Tok3}, Rep H as ts → as.length = ts.length
  | [], [], _ => rfl
  | _ :: _, _ :: _, h => by rw [List.length_cons, List.length_cons, Rep.len h.2]
  | [], _ :: _, h => h.elim
  | _ :: _, [], h => h.elim
theorem Rep.get {H : Hp} : ∀ {as : List Addr} {ts : List Tok3} {j : Nat} {t : Tok3}, Rep H as ts → ts[j]? = some t → ∃ a, (as.map V.ref)[j]? = some (.ref a) ∧ H a = some (.tup (tok t))
  | [], [], j, t, _, h => by simp at h
  | a :: _, _ :: _, 0, t, h, e => by
    have e' := Option.some.inj e
    subst e'
    exact ⟨a, rfl, h.1⟩
  | _ :: as, _ :: ts, j + 1, t, h, e => by
    obtain ⟨a, h1, h2⟩ := Rep.get (j := j) (t := t) h.2 e
    exact ⟨a, h1, h2⟩
  | [], _ :: _, _, _, h, _ => h.elim
  | _ :: _, [], _, _, h, _ => h.elim
theorem Rep.off {H : Hp} {L : Addr} {xs : List V} {o : HO} (hL : H L = some (.lst xs)) : ∀ {as : List Addr} {ts : List Tok3}, Rep H as ts → Rep (upd H L o) as ts
  | [], [], _ => trivial
  | _ :: _, _ :: _, h => ⟨by rw [upd_ne (ne_of h.1 hL (by intro z; cases z))]; exact h.1, Rep.off hL h.2⟩
  | [], _ :: _, h => h.elim
  | _ :: _, [], h => h.elim
theorem Rep.offI {H : Hp} {o C dx : Addr} {fs : List (Str × V)} {u : HO} (ho : H o = some (.ins C dx fs)) : ∀ {as : List Addr} {ts : List Tok3}, Rep H as ts → Rep (upd H o u) as ts
  | [], [], _ => trivial
  | _ :: _, _ :: _, h => ⟨by rw [upd_ne (ne_of h.1 ho (by intro z; cases z))]; exact h.1, Rep.offI ho h.2⟩
  | [], _ :: _, h => h.elim
  | _ :: _, [], h => h.elim
def spToks : Sp := fun vs H Q _ => ∃ z, vs = [.str z] ∧ Big z ∧ ∀ H' L as, Same H H' → H L = none → H' L = some (.lst (as.map V.ref)) → Rep H' as (toks z) → Q (.ref L) H'
/-! ### a Tokens object -/
def tf (L : Addr) (i : Nat) : List (Str × V) := putF "taken" (.int i) (putF "found" (.ref L) [])
theorem ct : ¬ (("found" : Str) = "taken") := by decide +kernel
theorem tf_eq (L : Addr) (i : Nat) : tf L i = ([("found", V.ref L), ("taken", V.int i)] : List (Str × V)) := by
  show (if ("found" : Str) = "taken" then [(("found" : Str), V.int i)] else (("found" : Str), V.ref L) :: putF "taken" (V.int i) []) = ([("found", V.ref L), ("taken", V.int i)] : List (Str × V))
  rw [if_neg ct]
  all_goals rfl
theorem tf_found (L : Addr) (i : Nat) : (tf L i).lookup ("found" : Str) = some (.ref L) := by
  unfold tf
  rw [lookup_putF, if_neg ct, lookup_putF, if_pos rfl]
theorem tf_taken (L : Addr) (i : Nat) : (tf L i).lookup ("taken" : Str) = some (.int i) := by
  unfold tf
  rw [lookup_putF, if_pos rfl]
theorem tf_no (L : Addr) (i : Nat) {m : Str} (h1 : ¬ m = "taken") (h2 : ¬ m = "found") : (tf L i).lookup m = none := by
  unfold tf
  rw [lookup_putF, if_neg h1, lookup_putF, if_neg h2]
  all_goals rfl
theorem tf_put (L : Addr) (i j : Nat) : putF "taken" (.int j) (tf L i) = tf L j := by
  rw [tf_eq, tf_eq]
  show (if ("found" : Str) = "taken" then _ else (("found" : Str), V.ref L) :: (if ("taken" : Str) = "taken" then [(("taken" : Str), V.int j)] else _)) = ([("found", V.ref L), ("taken", V.int j)] : List (Str × V))
  rw [if_neg ct, if_pos rfl]
/-- a Tokens object at o: its tokens ts, i of them taken -/
def TkAt (C : Addr) (H : Hp) (o L : Addr) (ts : List Tok3) (i : Nat) : Prop := ∃ dx as, H o = some (.ins C dx (tf L i)) ∧ H L = some (.lst (as.map V.ref)) ∧ Rep H as ts ∧ i ≤ ts.length ∧ ts.length ≤ 1000001
theorem TkAt.same {C : Addr} {H H' : Hp} {o L : Addr} {ts : List Tok3} {i : Nat} (h : TkAt C H o L ts i) (s : Same H H') : TkAt C H' o L ts i := by
  obtain ⟨dx, as, h1, h2, h3, h4⟩ := h
  exact ⟨dx, as, s _ _ h1, s _ _ h2, h3.same s, h4⟩
theorem Rep.offX {H : Hp} {L : Addr} {u o : HO} (hL : H L = some u) (hu : ∀ xs, u ≠ .tup xs) : ∀ {as : List Addr} {ts : List Tok3}, Rep H as ts → Rep (upd H L o) as ts
  | [], [], _ => trivial
  | _ :: _, _ :: _, h => ⟨by rw [upd_ne (ne_of h.1 hL (fun z => hu _ z.symm))]; exact h.1, Rep.offX hL hu h.2⟩
  | [], _ :: _, h => h.elim
  | _ :: _, [], h => h.elim
/-- something else changes -/
theorem TkAt.off {C : Addr} {H : Hp} {o L b : Addr} {ts : List Tok3} {i : Nat} {u x : HO} (h : TkAt C H o L ts i) (hb : H b = some u) (h1 : ∀ xs, u ≠ .tup xs) (h2 : ∀ C dx fs, u ≠ .ins C dx fs) (h3 : b ≠ L) : TkAt C (upd H b x) o L ts i := by
  obtain ⟨dx, as, e1, e2, e3, e4⟩ := h
  refine ⟨dx, as, ?_, ?_, e3.offX hb h1, e4⟩
  · rw [upd_ne (ne_of e1 hb (fun z => h2 _ _ _ z.symm))]
    exact e1
  · rw [upd_ne h3.symm]
    exact e2
theorem TkAt.move {C : Addr} {H : Hp} {o : Addr} {ts : List Tok3} {i j : Nat} {L dx : Addr} {as : List Addr} (h1 : H o = some (.ins C dx (tf L i))) (h2 : H L = some (.lst (as.map V.ref))) (h3 : Rep H as ts) (hj : j ≤ ts.length) (hl : ts.length ≤ 1000001) :
    TkAt C (upd H o (.ins C dx (tf L j))) o L ts j := by
  refine ⟨dx, as, upd_same, ?_, ?_, hj, hl⟩
  · rw [upd_ne (ne_of h2 h1 (by intro z; cases z))]
    exact h2
  · clear h2 hj hl
    revert ts
    induction as with
    | nil =>
      intro ts h3
      cases ts with
      | nil => exact trivial
      | cons _ _ => exact h3.elim
    | cons b bs ih =>
      intro ts h3
      cases ts with
      | nil => exact h3.elim
      | cons t ts =>
        refine ⟨?_, ih h3.2⟩
        rw [upd_ne (ne_of h3.1 h1 (by intro z; cases z))]
        exact h3.1
/-- but for o all is as it was -/
def But (o : Addr) (H H' : Hp) : Prop := ∀ b, b ≠ o → H' b = H b
def spInit (C : Addr) : Sp := fun vs H Q _ => ∃ (o dx : Addr) (z : Str), vs = [.ref o, .str z] ∧ H o = some (.ins C dx []) ∧ Big z ∧ ∀ H' L, TkAt C H' o L (toks z) 0 → H L = none → (∀ b x, H b = some x → b ≠ o → H' b = some x) → Q .non H'
def spAhead (C : Addr) : Sp := fun vs H Q _ => ∃ (o L : Addr) (f : Nat) (ts : List Tok3) (i : Nat) (t : Tok3), vs = [.ref o, .int f] ∧ TkAt C H o L ts i ∧ ts[i + f]? = some t ∧ Q (.str t.1) H
def spTake (C : Addr) : Sp := fun vs H Q _ => ∃ (o L : Addr) (ts : List Tok3) (i : Nat) (t : Tok3), vs = [.ref o, .str t.1] ∧ TkAt C H o L ts i ∧ ts[i]? = some t ∧ ∀ H', TkAt C H' o L ts (i + 1) → But o H H' → Q (.str t.2.1) H'
def spSkip (C : Addr) : Sp := fun vs H Q _ => ∃ (o L : Addr) (k : Str) (ts : List Tok3) (i : Nat) (t : Tok3), vs = [.ref o, .str k] ∧ TkAt C H o L ts i ∧ ts[i]? = some t ∧
  (t.1 = k → ∀ H', TkAt C H' o L ts (i + 1) → But o H H' → Q (.bl true) H') ∧ (¬ t.1 = k → Q (.bl false) H)
section
variable {P : Program} {w : World} {K : PySem.W.Frag} {mg : Str → Option Value} {base : Heap} {a : Ads}
theorem sc_run_end : FnScope ["text", "start", "at"] ["text", "start"] (defScope s_run_end) := ⟨rfl, rfl, rfl, by decide +kernel, rfl, by decide +kernel, by decide +kernel⟩
theorem ok_run_end (T : Txt K mg a) : FnOk P w K mg base CX0 1 a.f_run_end a.f_run_end_d ["text", "start"] spRun := by
  refine T.F_run_end.ok sc_run_end (fun vs H Q E h => ?_) (fun cdv A outer s H vs Q E hr h => ?_)
  · obtain ⟨z, i, rfl, _⟩ := h
    rfl
  obtain ⟨z, i, rfl, hz, hi, q⟩ := h
  refine ⟨_, (pss_cons (ps_set (i := 2) sc_run_end.nd rfl (Or.inl rfl) (pv 1))
    (pss_cons (ps_while PassesOwn.never (PW.pt (pw_and (pt_cmpR op_lt (pv 2) (pe_callB call_len_str (by rfl) T.len PySem.boot_len (pa_cons (pv 0) pa_nil)) (nomark _)) (pw_and1 (PW.pt (pw_or (pt_cmpR op_in_sign (pe_ix ix_str (pv 0) (pv 2) (fun _ _ => rfl)) (pe_gs rfl T.g_LETTERS) (by rfl)) (pw_or1 (pt_cmpR op_in_sign (pe_ix ix_str (pv 0) (pv 2) (fun _ _ => rfl)) (pe_gs rfl T.g_DIGITS) (by rfl))))))))
      (pss_one (ps_aug (i := 2) sc_run_end.nd rfl (Or.inl rfl) pe_int ip_add)))
    (pss_one (ps_ret (pe_callB (call_max2 rfl) (by rfl) T.max (by decide +kernel) (pa_cons (pv 2) (pa_cons (pe_op op_add (pv 1) pe_int) pa_nil))))))), ?_⟩
  refine st_seq (st_set (fun Q q => ⟨_, rfl, q⟩) (st_seq (while_ans (fun m σ H' => ∃ j : Nat, σ = [some (.str z), some (.int i), some (.int j)] ∧ H' = H ∧ i ≤ j ∧ j ≤ z.length ∧ m = z.length - j ∧ runLen ((tl z).drop i) = (j - i) + runLen ((tl z).drop j))
    (z.length - i) ⟨i, rfl, rfl, Nat.le_refl _, Nat.le_of_lt hi, rfl, by omega⟩ ?_)))
  rintro m σ H' ⟨j, rfl, rfl, hij, hj, rfl, hrun⟩
  by_cases hlt : j < z.length
  · obtain ⟨c, hc, hd⟩ := atI_tl hlt
    have t1 : Ans (tTest (tOp (rI0 fun i j => .bl (decide (i < j))) (tVar 2) (tCB (fun xs H Q => ∃ z, xs = [.str z] ∧ z.length ≤ sizeLine ∧ Q (.int z.length) H) (tCons (tVar 0) tNil)))) [some (.str z), some (.int i), some (.int j)] H' true :=
      fun Q q => ⟨_, rfl, _, rfl, z, rfl, bigLe hz, _, _, rfl, rfl, _, rfl, (by rw [decide_eq_true (show (j : Int) < (z.length : Int) by omega)]; exact q)⟩
    refine ⟨alnum c, ?_, fun e => ?_, fun e => ?_⟩
    · refine ans_and t1 ?_
      by_cases hl : letter c = true
      · have : alnum c = true := by unfold alnum; rw [hl]; rfl
        rw [this]
        exact ans_or1 (fun Q q => ⟨_, rfl, _, rfl, z, j, c, rfl, rfl, bigLe hz, hc, c, LET, rfl, rfl, _, rfl, (by rw [show decide (c ∈ LET.cps.toList) = true from hl]; exact q)⟩)
      · have hl' : letter c = false := Bool.eq_false_iff.mpr hl
        have : alnum c = digit c := by unfold alnum; rw [hl', Bool.false_or]
        rw [this]
        exact ans_or (fun Q q => ⟨_, rfl, _, rfl, z, j, c, rfl, rfl, bigLe hz, hc, c, LET, rfl, rfl, _, rfl, (by rw [show decide (c ∈ LET.cps.toList) = false from hl']; exact q)⟩)
          (fun Q q => ⟨_, rfl, _, rfl, z, j, c, rfl, rfl, bigLe hz, hc, c, DIG, rfl, rfl, _, rfl, q⟩)
    · refine ⟨_, rfl, _, _, rfl, rfl, z.length - (j + 1), by omega, j + 1, rfl, rfl, by omega, by omega, rfl, ?_⟩
      rw [hrun, hd, runLen_hit e]
      omega
    · refine ⟨_, rfl, _, rfl, _, _, rfl, rfl, _, _, rfl, ?_⟩
      rw [hd, runLen_miss e] at hrun
      rw [hrun] at q
      by_cases hm : j = i
      · subst hm
        rw [if_pos (by omega)]
        rw [show j + max 1 (j - j + 0) = j + 1 by omega] at q
        exact q
      · rw [if_neg (by omega)]
        rw [show i + max 1 (j - i + 0) = j by omega] at q
        exact q
  · have hj' : j = z.length := by omega
    refine ⟨false, ans_and0 (fun Q q => ⟨_, rfl, _, rfl, z, rfl, bigLe hz, _, _, rfl, rfl, _, rfl, (by rw [decide_eq_false (show ¬ (j : Int) < (z.length : Int) by omega)]; exact q)⟩), fun e => (by cases e), fun _ => ?_⟩
    refine ⟨_, rfl, _, rfl, _, _, rfl, rfl, _, _, rfl, ?_⟩
    have e0 : (tl z).drop j = [] := List.drop_eq_nil_of_le (by rw [← len_tl]; omega)
    rw [e0] at hrun
    rw [hrun] at q
    rw [if_neg (by omega)]
    rw [show i + max 1 (j - i + runLen []) = j by show i + max 1 (j - i + 0) = j; omega] at q
    exact q
theorem sc_tokens_of : FnScope ["text", "found", "at", "end"] ["text"] (defScope s_tokens_of) := ⟨rfl, rfl, rfl, by decide +kernel, rfl, by decide +kernel, by decide +kernel⟩
theorem ok_tokens_of (T : Txt K mg a) : FnOk P w K mg base CX0 3 a.f_tokens_of a.f_tokens_of_d ["text"] spToks := by
  refine T.F_tokens_of.ok sc_tokens_of (fun vs H Q E h => ?_) (fun cdv A outer s H vs Q E hr h => ?_)
  · obtain ⟨z, rfl, _⟩ := h
    rfl
  obtain ⟨z, rfl, hz, q⟩ := h
  refine ⟨_, (pss_cons (ps_set (i := 1) sc_tokens_of.nd rfl (Or.inl rfl) (pe_lst pa_nil))
    (pss_cons (ps_set (i := 2) sc_tokens_of.nd rfl (Or.inl rfl) pe_int)
    (pss_cons (ps_while PassesOwn.never (pt_cmpR op_lt (pv 2) (pe_callB call_len_str (by rfl) T.len PySem.boot_len (pa_cons (pv 0) pa_nil)) (nomark _))
      (pss_one (ps_if (pt_cmpR op_in_sign (pe_ix ix_str (pv 0) (pv 2) (fun _ _ => rfl)) (pe_gs rfl T.g_BLANKS) (by rfl))
        (pss_one (ps_aug (i := 2) sc_tokens_of.nd rfl (Or.inl rfl) pe_int ip_add))
        (pss_cons (ps_set (i := 3) sc_tokens_of.nd rfl (Or.inl rfl) (pe_call (ok_run_end T) (hr.mono (by decide)) (by rfl) T.g_run_end T.F_run_end.kp T.b_run_end .nil pass0 (pa_cons (pv 0) (pa_cons (pv 2) pa_nil))))
        (pss_cons (ps_expr (pe_bm PySem.F.plainAttrs_list PySem.F.slot_list_append PySem.F.type_list_append mt_append (pv 1) (pa_cons (pe_tup (pa_cons (pe_call (ok_kind_of T) (hr.mono (by decide)) (by rfl) T.g_kind_of T.F_kind_of.kp T.b_kind_of .nil pass0 (pa_cons (pe_slice sl_str (pv 0) (po_some (pv 2)) (po_some (pv 3))) pa_nil)) (pa_cons (pe_slice sl_str (pv 0) (po_some (pv 2)) (po_some (pv 3))) (pa_cons (pv 2) pa_nil)))) pa_nil)))
        (pss_one (ps_set (i := 2) sc_tokens_of.nd rfl (Or.inl rfl) (pv 3))))))))
    (pss_cons (ps_expr (pe_bm PySem.F.plainAttrs_list PySem.F.slot_list_append PySem.F.type_list_append mt_append (pv 1) (pa_cons (pe_tup (pa_cons (pe_gs rfl T.g_END) (pa_cons pe_str (pa_cons (pe_callB call_len_str (by rfl) T.len PySem.boot_len (pa_cons (pv 0) pa_nil)) pa_nil)))) pa_nil)))
    (pss_one (ps_ret (pv 1))))))), ?_⟩
  refine ⟨Nat.zero_le _, fun L hL => ?_⟩
  dsimp only [gName]
  refine st_seq (st_set (fun Q q => q) (st_seq (while_ans (fun m σ H' => ∃ (p : Nat) (as : List Addr) (pre : List Tok3) (v3 : Option V), σ = [some (.str z), some (.ref L), some (.int p), v3] ∧ Same H H' ∧ p ≤ z.length ∧ m = z.length - p ∧
      H' L = some (.lst (as.map V.ref)) ∧ Rep H' as pre ∧ as.length ≤ p ∧ pre ++ toksL ((tl z).drop p) p = toksL (tl z) 0)
    z.length ⟨0, [], [], none, rfl, same_upd hL, Nat.zero_le _, rfl, upd_same, trivial, Nat.le_refl _, rfl⟩ ?_)))
  rintro m σ H' ⟨p, as, pre, v3, rfl, s1, hp, rfl, hLa, hR, hlen, hpre⟩
  have hz' : z.length ≤ 1000000 := hz
  by_cases hlt : p < z.length
  · refine ⟨true, (fun Q q => ⟨_, rfl, _, rfl, z, rfl, bigLe hz, _, _, rfl, rfl, _, rfl, (by rw [decide_eq_true (show (p : Int) < (z.length : Int) by omega)]; exact q)⟩), fun _ => ?_, fun e => (by cases e)⟩
    obtain ⟨c, hc, hd⟩ := atI_tl hlt
    refine st_ite (b := blank c) (fun Q q => ⟨_, rfl, _, rfl, z, p, c, rfl, rfl, bigLe hz, hc, c, _, rfl, rfl, _, rfl, q⟩) (fun e => ?_) (fun e => ?_)
    · refine ⟨_, rfl, _, _, rfl, rfl, z.length - (p + 1), by omega, p + 1, as, pre, v3, rfl, s1, by omega, rfl, hLa, hR, by omega, ?_⟩
      rw [← hpre, hd, toksL_blank e]
    · refine ⟨_, rfl, _, rfl, z, p, rfl, hz, hlt, ?_⟩
      have hk : max 1 (runLen ((tl z).drop p)) ≤ z.length - p := by
        have h1 := runLen_le ((tl z).drop p)
        rw [List.length_drop, ← len_tl] at h1
        omega
      have hcut : cutS z (some (p : Int)) (some ((p + max 1 (runLen ((tl z).drop p)) : Nat) : Int)) = ⟨((c :: (tl z).drop (p + 1)).take (max 1 (runLen (c :: (tl z).drop (p + 1))))).toArray⟩ := by
        rw [cutS_nat z (by omega) (by omega), ← hd, Nat.add_sub_cancel_left]
      have hbig : Big (cutS z (some (p : Int)) (some ((p + max 1 (runLen ((tl z).drop p)) : Nat) : Int))) := Nat.le_trans (cutS_len _ _ _) hz
      have hne : tl (cutS z (some (p : Int)) (some ((p + max 1 (runLen ((tl z).drop p)) : Nat) : Int))) ≠ [] := by
        rw [hcut]
        show (c :: (tl z).drop (p + 1)).take (max 1 (runLen (c :: (tl z).drop (p + 1)))) ≠ []
        intro e
        have := congrArg List.length e
        rw [List.length_take, List.length_cons] at this
        simp at this
      refine ⟨_, rfl, .inl ⟨rfl, _, SqL.of hLa⟩, _, rfl, _, rfl, _, rfl, _, rfl, _, rfl, z, rfl, bigLe hz, _, rfl, hbig, hne, fun H1 s2 => ?_⟩
      refine ⟨_, rfl, _, rfl, _, rfl, _, rfl, _, rfl, z, rfl, bigLe hz, _, rfl, (by show 3 ≤ sizeLine; decide), fun t ht => ?_⟩
      have htL : t ≠ L := fun e => by
        rw [e, s2 _ _ hLa] at ht
        cases ht
      refine ⟨L, _, _, rfl, rfl, (by rw [upd_ne htL.symm]; exact s2 _ _ hLa), (by rw [List.length_map]; exact bigLine (by omega)), ?_⟩
      refine ⟨_, rfl, z.length - (p + max 1 (runLen ((tl z).drop p))), by omega, p + max 1 (runLen ((tl z).drop p)), as ++ [t], pre ++ [(kindOf (cutS z (some (p : Int)) (some ((p + max 1 (runLen ((tl z).drop p)) : Nat) : Int))), cutS z (some (p : Int)) (some ((p + max 1 (runLen ((tl z).drop p)) : Nat) : Int)), p)], _, rfl, ?_, by omega, rfl, ?_, ?_, ?_, ?_⟩
      · exact same_mut (same_mut (s1.trans s2) (s1.free (s2.free ht))) hL
      · rw [upd_same, List.map_append]
        rfl
      · have r1 : Rep (upd H1 t (.tup (tok (kindOf (cutS z (some (p : Int)) (some ((p + max 1 (runLen ((tl z).drop p)) : Nat) : Int))), cutS z (some (p : Int)) (some ((p + max 1 (runLen ((tl z).drop p)) : Nat) : Int)), p)))) (as ++ [t]) (pre ++ [(kindOf (cutS z (some (p : Int)) (some ((p + max 1 (runLen ((tl z).drop p)) : Nat) : Int))), cutS z (some (p : Int)) (some ((p + max 1 (runLen ((tl z).drop p)) : Nat) : Int)), p)]) :=
          Rep.app upd_same ((hR.same s2).same (same_upd ht))
        exact Rep.off (L := L) (xs := as.map V.ref) (by rw [upd_ne htL.symm]; exact s2 _ _ hLa) r1
      · rw [List.length_append]
        show as.length + 1 ≤ _
        omega
      · rw [← hpre, List.append_assoc, hcut, hd, toksL_tok e]
        congr 1
        rw [← hd, List.drop_drop]
        rfl
  · have hp' : p = z.length := by omega
    refine ⟨false, (fun Q q => ⟨_, rfl, _, rfl, z, rfl, bigLe hz, _, _, rfl, rfl, _, rfl, (by rw [decide_eq_false (show ¬ (p : Int) < (z.length : Int) by omega)]; exact q)⟩), fun e => (by cases e), fun _ => ?_⟩
    refine ⟨_, rfl, .inl ⟨rfl, _, SqL.of hLa⟩, _, rfl, z, rfl, bigLe hz, (by show 3 ≤ sizeLine; decide), fun t ht => ?_⟩
    have htL : t ≠ L := fun e => by
      rw [e, hLa] at ht
      cases ht
    refine ⟨L, _, _, rfl, rfl, (by rw [upd_ne htL.symm]; exact hLa), (by rw [List.length_map]; exact bigLine (by omega)), ?_⟩
    have e0 : (tl z).drop p = [] := List.drop_eq_nil_of_le (by rw [← len_tl]; omega)
    rw [e0, toksL_nil, List.append_nil] at hpre
    refine ⟨_, rfl, q _ L (as ++ [t]) (same_mut (same_mut s1 (s1.free ht)) hL) hL ?_ ?_⟩
    · rw [upd_same, List.map_append]
      rfl
    · unfold toks
      rw [← hpre]
      exact Rep.off (L := L) (xs := as.map V.ref) (by rw [upd_ne htL.symm]; exact hLa) (Rep.app (t := ("END", "", z.length)) upd_same (hR.same (same_upd ht)))
theorem toksF_len : ∀ (n : Nat) (cs : List Nat) (p : Nat), (toksF n cs p).length ≤ cs.length
  | 0, cs, p => by simp [toksF]
  | n + 1, [], p => by simp [toksF]
  | n + 1, c :: r, p => by
    have h1 := toksF_len n r (p + 1)
    have h2 := toksF_len n ((c :: r).drop (max 1 (runLen (c :: r)))) (p + max 1 (runLen (c :: r)))
    rw [List.length_drop, List.length_cons] at h2
    show (if blank c = true then toksF n r (p + 1) else _ :: toksF n _ _).length ≤ r.length + 1
    by_cases hb : blank c = true
    · rw [if_pos hb]
      omega
    · rw [if_neg hb, List.length_cons]
      omega
theorem toks_len (z : Str) : (toks z).length ≤ z.length + 1 := by
  unfold toks toksL
  rw [List.length_append]
  have := toksF_len (tl z).length (tl z) 0
  rw [← len_tl] at this
  rw [← len_tl]
  show _ + 1 ≤ _
  omega
theorem sc_Tokens___init__ : FnScope ["self", "text"] ["self", "text"] (defScope s_Tokens___init__) := ⟨rfl, rfl, rfl, by decide +kernel, rfl, by decide +kernel, by decide +kernel⟩
theorem ok_Tokens___init__ (T : Txt K mg a) : FnOk P w K mg base CX0 4 a.f_Tokens___init__ a.f_Tokens___init___d ["self", "text"] (spInit a.c_Tokens) := by
  refine T.F_Tokens___init__.ok sc_Tokens___init__ (fun vs H Q E h => ?_) (fun cdv A outer s H vs Q E hr h => ?_)
  · obtain ⟨o, dx, z, rfl, _⟩ := h
    rfl
  obtain ⟨o, dx, z, rfl, ho, hz, q⟩ := h
  refine ⟨_, (pss_cons (ps_fld (pv 0) (pe_call (ok_tokens_of T) (hr.mono (by decide)) (by rfl) T.g_tokens_of T.F_tokens_of.kp T.b_tokens_of .nil pass0 (pa_cons (pv 1) pa_nil)) rfl)
    (pss_one (ps_fld (pv 0) pe_int rfl))), ?_⟩
  refine ⟨_, rfl, z, rfl, hz, fun H1 L as s1 nL hL hR => ?_⟩
  have ho1 := s1 _ _ ho
  have hoL : o ≠ L := ne_of_none ho nL
  refine ⟨_, rfl, o, a.c_Tokens, dx, [], rfl, ho1, T.cl_Tokens, T.n_Tokens_found, (by show 0 < 1000; decide), _, rfl, o, a.c_Tokens, dx, _, rfl, upd_same, T.cl_Tokens, T.n_Tokens_taken, (by show 1 < 1000; decide), ?_⟩
  refine q _ L ⟨dx, as, upd_same, ?_, ?_, Nat.zero_le _, ?_⟩ nL (fun b x e hb => ?_)
  · rw [upd_ne hoL.symm, upd_ne hoL.symm]
    exact hL
  · exact Rep.offI (C := a.c_Tokens) (dx := dx) upd_same (Rep.offI ho1 hR)
  · have := toks_len z
    have hz' : z.length ≤ 1000000 := hz
    omega
  · rw [upd_ne hb, upd_ne hb]
    exact s1 _ _ e
theorem sc_Tokens_kind_ahead : FnScope ["self", "further"] ["self", "further"] (defScope s_Tokens_kind_ahead) := ⟨rfl, rfl, rfl, by decide +kernel, rfl, by decide +kernel, by decide +kernel⟩
theorem ok_Tokens_kind_ahead (T : Txt K mg a) : FnOk P w K mg base CX0 1 a.f_Tokens_kind_ahead a.f_Tokens_kind_ahead_d ["self", "further"] (spAhead a.c_Tokens) := by
  refine T.F_Tokens_kind_ahead.ok sc_Tokens_kind_ahead (fun vs H Q E h => ?_) (fun cdv A outer s H vs Q E hr h => ?_)
  · obtain ⟨o, L, f, ts, i, t, rfl, _⟩ := h
    rfl
  obtain ⟨o, L, f, ts, i, t, rfl, ⟨dx, as, ho, hL, hR, hi, hl⟩, ht, q⟩ := h
  refine ⟨_, PSs.nox (pss_one (ps_ret (pe_ix ix_tup (pe_ix ix_list (pe_fld (pv 0) rfl) (pe_op op_add (pe_fld (pv 0) rfl) (pv 1)) (fun _ _ => rfl)) pe_int (fun _ _ => rfl)))), ?_⟩
  obtain ⟨b, hb, hb2⟩ := hR.get ht
  refine ⟨_, rfl, o, a.c_Tokens, dx, _, _, rfl, ho, T.cl_Tokens, T.n_Tokens_found, tf_found _ _, _, rfl, o, a.c_Tokens, dx, _, _, rfl, ho, T.cl_Tokens, T.n_Tokens_taken, tf_taken _ _, _, rfl, _, _, rfl, rfl, L, _, _, _, rfl, rfl, SqL.of hL, at_of (j := i + f) (by omega) hb, b, _, _, _, rfl, rfl, SqT.of hb2, atI_nat (j := 0) rfl, q⟩
theorem sc_Tokens_take : FnScope ["self", "kind"] ["self", "kind"] (defScope s_Tokens_take) := ⟨rfl, rfl, rfl, by decide +kernel, rfl, by decide +kernel, by decide +kernel⟩
theorem ok_Tokens_take (T : Txt K mg a) : FnOk P w K mg base CX0 2 a.f_Tokens_take a.f_Tokens_take_d ["self", "kind"] (spTake a.c_Tokens) := by
  refine T.F_Tokens_take.ok sc_Tokens_take (fun vs H Q E h => ?_) (fun cdv A outer s H vs Q E hr h => ?_)
  · obtain ⟨o, L, ts, i, t, rfl, _⟩ := h
    rfl
  obtain ⟨o, L, ts, i, t, rfl, hT, ht, q⟩ := h
  obtain ⟨dx, as, ho, hL, hR, hi, hl⟩ := id hT
  obtain ⟨ds_Tokens_kind_ahead, v_Tokens_kind_ahead, b_Tokens_kind_ahead⟩ := T.b_Tokens_kind_ahead
  refine ⟨_, (pss_cons (ps_if (pt_cmpR op_ne (pe_meth0 (pv 0) T.cl_Tokens T.m_Tokens_kind_ahead (ok_Tokens_kind_ahead T) (hr.mono (by decide)) b_Tokens_kind_ahead v_Tokens_kind_ahead pass0) (pv 1) (nomark _))
      (pss_one ps_never)
      pss_nil)
    (pss_cons (ps_fldaug (pv 0) pe_int in_add)
    (pss_one (ps_ret (pe_ix ix_tup (pe_ix ix_list (pe_fld (pv 0) rfl) (pe_op op_sub (pe_fld (pv 0) rfl) pe_int) (fun _ _ => rfl)) pe_int (fun _ _ => rfl)))))), ?_⟩
  have hi' : i < ts.length := (List.getElem?_eq_some_iff.mp ht).1
  refine ⟨_, rfl, o, dx, _, rfl, ho, tf_no _ _ (by decide +kernel) (by decide +kernel), o, L, 0, ts, i, t, rfl, hT, ht, _, rfl, rfl, _, rfl, iteNS rfl ?_⟩
  refine ⟨_, rfl, o, a.c_Tokens, dx, _, _, rfl, ho, T.cl_Tokens, T.n_Tokens_taken, tf_taken _ _, _, _, rfl, rfl, _, _, ho, (by rw [tf_eq]; show 2 < 1000; decide), ?_⟩
  have e1 : putF "taken" (V.int ((i : Int) + 1)) (tf L i) = tf L (i + 1) := tf_put L i (i + 1)
  obtain ⟨b, hb, hb2⟩ := hR.get ht
  have ho1 : (upd H o (.ins a.c_Tokens dx (putF "taken" (V.int ((i : Int) + 1)) (tf L i)))) o = some (.ins a.c_Tokens dx (tf L (i + 1))) := by rw [upd_same, e1]
  have hTm : TkAt a.c_Tokens (upd H o (.ins a.c_Tokens dx (putF "taken" (V.int ((i : Int) + 1)) (tf L i)))) o L ts (i + 1) := by
    rw [e1]
    exact TkAt.move ho hL hR (by omega) hl
  have hb3 : (upd H o (.ins a.c_Tokens dx (putF "taken" (V.int ((i : Int) + 1)) (tf L i)))) b = some (.tup (tok t)) := by
    rw [upd_ne (ne_of hb2 ho (by intro z; cases z))]
    exact hb2
  have hL3 : (upd H o (.ins a.c_Tokens dx (putF "taken" (V.int ((i : Int) + 1)) (tf L i)))) L = some (.lst (as.map V.ref)) := by
    rw [upd_ne (ne_of hL ho (by intro z; cases z))]
    exact hL
  refine ⟨_, rfl, o, a.c_Tokens, dx, _, _, rfl, ho1, T.cl_Tokens, T.n_Tokens_found, tf_found _ _, _, rfl, o, a.c_Tokens, dx, _, _, rfl, ho1, T.cl_Tokens, T.n_Tokens_taken, tf_taken _ _, _, _, rfl, rfl, L, _, _, _, rfl, rfl, SqL.of hL3, at_of (j := i) (by omega) hb, b, _, _, _, rfl, rfl, SqT.of hb3, atI_nat (j := 1) rfl, ?_⟩
  exact q _ hTm fun b hb => upd_ne hb
theorem sc_Tokens_skip : FnScope ["self", "kind"] ["self", "kind"] (defScope s_Tokens_skip) := ⟨rfl, rfl, rfl, by decide +kernel, rfl, by decide +kernel, by decide +kernel⟩
theorem ok_Tokens_skip (T : Txt K mg a) : FnOk P w K mg base CX0 2 a.f_Tokens_skip a.f_Tokens_skip_d ["self", "kind"] (spSkip a.c_Tokens) := by
  refine T.F_Tokens_skip.ok sc_Tokens_skip (fun vs H Q E h => ?_) (fun cdv A outer s H vs Q E hr h => ?_)
  · obtain ⟨o, L, k, ts, i, t, rfl, _⟩ := h
    rfl
  obtain ⟨o, L, k, ts, i, t, rfl, hT, ht, q1, q2⟩ := h
  obtain ⟨dx, as, ho, hL, hR, hi, hl⟩ := id hT
  obtain ⟨ds_Tokens_kind_ahead, v_Tokens_kind_ahead, b_Tokens_kind_ahead⟩ := T.b_Tokens_kind_ahead
  refine ⟨_, (pss_cons (ps_if (pt_cmpR op_ne (pe_meth0 (pv 0) T.cl_Tokens T.m_Tokens_kind_ahead (ok_Tokens_kind_ahead T) (hr.mono (by decide)) b_Tokens_kind_ahead v_Tokens_kind_ahead pass0) (pv 1) (nomark _))
      (pss_one (ps_ret pe_bl))
      pss_nil)
    (pss_cons (ps_fldaug (pv 0) pe_int in_add)
    (pss_one (ps_ret pe_bl)))), ?_⟩
  have hi' : i < ts.length := (List.getElem?_eq_some_iff.mp ht).1
  refine ⟨_, rfl, o, dx, _, rfl, ho, tf_no _ _ (by decide +kernel) (by decide +kernel), o, L, 0, ts, i, t, rfl, hT, ht, _, rfl, rfl, _, rfl, ite2 (fun e => ?_) (fun e => ?_)⟩
  · exact q2 fun h => by
      rw [h, decide_eq_true rfl] at e
      cases e
  · have hk : t.1 = k := by
      by_cases h : t.1 = k
      · exact h
      · exact absurd (by rw [decide_eq_false (fun e => h (V.str.inj e))]; rfl) e
    refine ⟨_, rfl, o, a.c_Tokens, dx, _, _, rfl, ho, T.cl_Tokens, T.n_Tokens_taken, tf_taken _ _, _, _, rfl, rfl, _, _, ho, (by rw [tf_eq]; show 2 < 1000; decide), ?_⟩
    have e1 : putF "taken" (V.int ((i : Int) + 1)) (tf L i) = tf L (i + 1) := tf_put L i (i + 1)
    have hTm : TkAt a.c_Tokens (upd H o (.ins a.c_Tokens dx (putF "taken" (V.int ((i : Int) + 1)) (tf L i)))) o L ts (i + 1) := by
      rw [e1]
      exact TkAt.move ho hL hR (by omega) hl
    exact q1 hk _ hTm fun b hb => upd_ne hb
end
end K3
namespace K3
open PySem PySem.Spec PyProof.Rows L2 TL
/-- the i-th token is of this kind and text -/
def At (ts : List Tok3) (i : Nat) (k p : Str) : Prop := ∃ pos, ts[i]? = some (k, p, pos)
/-- all but o stands -/
def Ext (o : Addr) (H H' : Hp) : Prop := ∀ b x, H b = some x → b ≠ o → H' b = some x
theorem Ext.refl (o : Addr) (H : Hp) : Ext o H H := fun _ _ h _ => h
theorem Ext.trans {o : Addr} {H H1 H2 : Hp} (a : Ext o H H1) (b : Ext o H1 H2) : Ext o H H2 := fun c x h n => b c x (a c x h n) n
theorem Ext.of {o : Addr} {H H1 : Hp} (s : Same H H1) : Ext o H H1 := fun c x h _ => s c x h
theorem Ext.but {o : Addr} {H H1 : Hp} (s : But o H H1) : Ext o H H1 := fun c x h n => by
  rw [s c n]
  exact h
theorem Ext.mut {o : Addr} {H H1 : Hp} {p : Addr} {u : HO} (s : Ext o H H1) (h : H p = none) : Ext o H (upd H1 p u) := fun b x e n => by
  rw [upd_ne (ne_of_none e h)]
  exact s _ _ e n
theorem Ext.free {o : Addr} {H H' : Hp} (e : Ext o H H') {l : Addr} (h : H' l = none) (n : l ≠ o) : H l = none := by
  cases q : H l with
  | none => rfl
  | some x =>
    rw [e l x q n] at h
    cases h
theorem TkAt.no {C : Addr} {H : Hp} {o L b : Addr} {ts : List Tok3} {i : Nat} (h : TkAt C H o L ts i) (hb : H b = none) : b ≠ o ∧ b ≠ L := by
  obtain ⟨dx, as, e1, e2, _⟩ := h
  exact ⟨(ne_of_none e1 hb).symm, (ne_of_none e2 hb).symm⟩
/-- numbers as they are written -/
structure Good (d : Str) (n : Int) : Prop where
  int : PySem.intText? d = some n
  len : d.length ≤ 12
  lo : 0 ≤ n
  hi : n < 1000000000000
theorem nu_nm : ¬ ("NUMBER" : Str) = "NAME" := by decide +kernel
inductive Tm3 where
  | nm (v : Str)
  | nu (d : Str) (n : Int)
  | pr (d : Str) (n : Int) (v : Str)
def Tm3.size : Tm3 → Nat
  | .nm _ => 1
  | .nu _ _ => 1
  | .pr _ _ _ => 3
def Tm3.val : Tm3 → Int
  | .nm _ => 1
  | .nu _ n => n
  | .pr _ n _ => n
def Tm3.name : Tm3 → Option Str
  | .nm v => some v
  | .nu _ _ => none
  | .pr _ _ v => some v
def nameV : Option Str → V
  | none => .non
  | some v => .str v
def TmAt (ts : List Tok3) (i : Nat) : Tm3 → Prop
  | .nm v => At ts i "NAME" v
  | .nu d n => Good d n ∧ At ts i "NUMBER" d ∧ ∃ k p, At ts (i + 1) k p ∧ k ≠ "*"
  | .pr d n v => Good d n ∧ At ts i "NUMBER" d ∧ At ts (i + 1) "*" "*" ∧ At ts (i + 2) "NAME" v
theorem TmAt.val {ts : List Tok3} {i : Nat} {t : Tm3} (h : TmAt ts i t) : 0 ≤ t.val ∧ t.val < 1000000000000 := by
  cases t with
  | nm v => exact ⟨by show (0 : Int) ≤ 1; decide, by show (1 : Int) < 1000000000000; decide⟩
  | nu d n => exact ⟨h.1.lo, h.1.hi⟩
  | pr d n v => exact ⟨h.1.lo, h.1.hi⟩
theorem TmAt.kind {ts : List Tok3} {i : Nat} {t : Tm3} (h : TmAt ts i t) : ∃ k p, At ts i k p ∧ (k = "NAME" ∨ k = "NUMBER") := by
  cases t with
  | nm v => exact ⟨_, _, h, .inl rfl⟩
  | nu d n => exact ⟨_, _, h.2.1, .inr rfl⟩
  | pr d n v => exact ⟨_, _, h.2.1, .inr rfl⟩
def spDecl (C : Addr) : Sp := fun vs H Q _ => ∃ (o L : Addr) (kw : Str) (ts : List Tok3) (i : Nat), vs = [.ref o, .str kw] ∧ TkAt C H o L ts i ∧
  ((∃ k p, At ts i k p ∧ k ≠ kw ∧ ∀ H' p, Ext o H H' → TkAt C H' o L ts i → H' p = some (.tup []) → Q (.ref p) H') ∨
   (∃ (kp : Str) (ns : List Str), At ts i kw kp ∧ 0 < ns.length ∧ ns.length ≤ 1000 ∧ (∀ j v, ns[j]? = some v → At ts (i + 1 + j) "NAME" v) ∧ (∃ k p, At ts (i + 1 + ns.length) k p ∧ k ≠ "NAME") ∧
     ∀ H' p, Ext o H H' → TkAt C H' o L ts (i + 1 + ns.length) → H' p = some (.tup (ns.map V.str)) → Q (.ref p) H'))
def spNum (C : Addr) : Sp := fun vs H Q _ => ∃ (o L : Addr) (ts : List Tok3) (i : Nat) (d : Str) (n : Int), vs = [.ref o] ∧ TkAt C H o L ts i ∧ At ts i "NUMBER" d ∧ Good d n ∧
  ∀ H', But o H H' → TkAt C H' o L ts (i + 1) → Q (.int n) H'
def spTerm (C : Addr) : Sp := fun vs H Q _ => ∃ (o L : Addr) (ts : List Tok3) (i : Nat) (t : Tm3), vs = [.ref o] ∧ TkAt C H o L ts i ∧ TmAt ts i t ∧
  ∀ H' p, Ext o H H' → TkAt C H' o L ts (i + t.size) → H' p = some (.tup [nameV t.name, .int t.val]) → Q (.ref p) H'
def spSign (C : Addr) : Sp := fun vs H Q _ => ∃ (o L : Addr) (ts : List Tok3) (i : Nat) (k p : Str), vs = [.ref o] ∧ TkAt C H o L ts i ∧ At ts i k p ∧
  (k = "+" → ∀ H', But o H H' → TkAt C H' o L ts (i + 1) → Q (.int 1) H') ∧ (k = "-" → ∀ H', But o H H' → TkAt C H' o L ts (i + 1) → Q (.int (-1)) H') ∧ (k ≠ "+" → k ≠ "-" → Q (.int 0) H)
section
variable {P : Program} {w : World} {K : PySem.W.Frag} {mg : Str → Option Value} {base : Heap} {a : Ads}
theorem sc_read_number : FnScope ["tokens", "digits"] ["tokens"] (defScope s_read_number) := ⟨rfl, rfl, rfl, by decide +kernel, rfl, by decide +kernel, by decide +kernel⟩
theorem ok_read_number (T : Txt K mg a) : FnOk P w K mg base CX0 3 a.f_read_number a.f_read_number_d ["tokens"] (spNum a.c_Tokens) := by
  refine T.F_read_number.ok sc_read_number (fun vs H Q E h => ?_) (fun cdv A outer s H vs Q E hr h => ?_)
  · obtain ⟨o, L, ts, i, d, n, rfl, _⟩ := h
    rfl
  obtain ⟨o, L, ts, i, d, n, rfl, hT, ⟨pos, ht⟩, g, q⟩ := h
  obtain ⟨dx, as, ho, _⟩ := id hT
  refine ⟨_, (pss_cons (ps_set (i := 1) sc_read_number.nd rfl (Or.inl rfl) (pe_meth (pv 0) T.cl_Tokens T.m_Tokens_take (ok_Tokens_take T) (hr.mono (by decide)) T.b_Tokens_take .nil pass0 (pa_cons (pe_gs rfl T.g_NUMBER) pa_nil)))
    (pss_cons (ps_if (pt_cmpR op_gt (pe_callB call_len_str (by rfl) T.len PySem.boot_len (pa_cons (pv 1) pa_nil)) (pe_gi rfl T.g_MOST_DIGITS) (nomark _))
      (pss_one ps_never)
      pss_nil)
    (pss_one (ps_ret (pe_callTy call_int_str (by rfl) T.int (by decide +kernel) (pa_cons (pv 1) pa_nil)))))), ?_⟩
  refine ⟨_, rfl, o, dx, _, rfl, ho, tf_no _ _ (by decide +kernel) (by decide +kernel), o, L, ts, i, _, rfl, hT, ht, fun H1 hT1 b1 => ?_⟩
  have hd := g.len
  refine ⟨_, rfl, d, rfl, bigLe (by omega), _, _, rfl, rfl, _, rfl, ite2 (fun e => ?_) (fun e => ?_)⟩
  · have := of_decide_eq_true e
    omega
  · exact ⟨_, rfl, d, n, rfl, g.int, by omega, q H1 b1 hT1⟩
theorem sc_read_term : FnScope ["tokens", "number"] ["tokens"] (defScope s_read_term) := ⟨rfl, rfl, rfl, by decide +kernel, rfl, by decide +kernel, by decide +kernel⟩
theorem ok_read_term (T : Txt K mg a) : FnOk P w K mg base CX0 4 a.f_read_term a.f_read_term_d ["tokens"] (spTerm a.c_Tokens) := by
  refine T.F_read_term.ok sc_read_term (fun vs H Q E h => ?_) (fun cdv A outer s H vs Q E hr h => ?_)
  · obtain ⟨o, L, ts, i, t, rfl, _⟩ := h
    rfl
  obtain ⟨o, L, ts, i, t, rfl, hT, ht, q⟩ := h
  obtain ⟨ds_Tokens_kind_ahead, v_Tokens_kind_ahead, b_Tokens_kind_ahead⟩ := T.b_Tokens_kind_ahead
  obtain ⟨dx, as, ho, _⟩ := id hT
  refine ⟨_, (pss_cons (ps_if (pt_cmpR op_eq (pe_meth0 (pv 0) T.cl_Tokens T.m_Tokens_kind_ahead (ok_Tokens_kind_ahead T) (hr.mono (by decide)) b_Tokens_kind_ahead v_Tokens_kind_ahead pass0) (pe_gs rfl T.g_NAME) (nomark _))
      (pss_one (ps_ret (pe_tup (pa_cons (pe_meth (pv 0) T.cl_Tokens T.m_Tokens_take (ok_Tokens_take T) (hr.mono (by decide)) T.b_Tokens_take .nil pass0 (pa_cons (pe_gs rfl T.g_NAME) pa_nil)) (pa_cons pe_int pa_nil)))))
      pss_nil)
    (pss_cons (ps_set (i := 1) sc_read_term.nd rfl (Or.inl rfl) (pe_call (ok_read_number T) (hr.mono (by decide)) (by rfl) T.g_read_number T.F_read_number.kp T.b_read_number .nil pass0 (pa_cons (pv 0) pa_nil)))
    (pss_cons (ps_if (pt_val (pe_meth (pv 0) T.cl_Tokens T.m_Tokens_skip (ok_Tokens_skip T) (hr.mono (by decide)) T.b_Tokens_skip .nil pass0 (pa_cons pe_str pa_nil)))
      (pss_one (ps_ret (pe_tup (pa_cons (pe_meth (pv 0) T.cl_Tokens T.m_Tokens_take (ok_Tokens_take T) (hr.mono (by decide)) T.b_Tokens_take .nil pass0 (pa_cons (pe_gs rfl T.g_NAME) pa_nil)) (pa_cons (pv 1) pa_nil)))))
      pss_nil)
    (pss_one (ps_ret (pe_tup (pa_cons pe_non (pa_cons (pv 1) pa_nil)))))))), ?_⟩
  have nA : (tf L i).lookup ("kind_ahead" : Str) = none := tf_no _ _ (by decide +kernel) (by decide +kernel)
  have nT : ∀ j, (tf L j).lookup ("take" : Str) = none := fun j => tf_no _ _ (by decide +kernel) (by decide +kernel)
  have nS : ∀ j, (tf L j).lookup ("skip" : Str) = none := fun j => tf_no _ _ (by decide +kernel) (by decide +kernel)
  cases t with
  | nm v =>
    obtain ⟨pos, hp⟩ := ht
    refine ⟨_, rfl, o, dx, _, rfl, ho, nA, o, L, 0, ts, i, _, rfl, hT, hp, rfl, _, rfl, ite2 (fun e => ?_) (fun e => absurd (decide_eq_true rfl) e)⟩
    refine ⟨_, rfl, o, dx, _, rfl, ho, nT _, o, L, ts, i, _, rfl, hT, hp, fun H1 hT1 b1 => ⟨(by show 2 ≤ sizeLine; decide), fun p np => ?_⟩⟩
    exact q _ p ((Ext.but b1).trans (Ext.of (same_upd np))) (hT1.same (same_upd np)) upd_same
  | nu d n =>
    obtain ⟨g, ⟨pos, hp⟩, k, p, ⟨pos2, hk⟩, hn⟩ := ht
    refine ⟨_, rfl, o, dx, _, rfl, ho, nA, o, L, 0, ts, i, _, rfl, hT, hp, rfl, _, rfl, ite2 (fun e => absurd (V.str.inj (of_decide_eq_true e)) nu_nm) (fun e => ?_)⟩
    refine ⟨_, rfl, o, L, ts, i, d, n, rfl, hT, ⟨pos, hp⟩, g, fun H1 b1 hT1 => ?_⟩
    obtain ⟨dx1, as1, ho1, _⟩ := id hT1
    refine ⟨_, rfl, o, dx1, _, rfl, ho1, nS _, o, L, _, ts, i + 1, _, rfl, hT1, hk, fun e => absurd e hn, fun _ => ⟨_, rfl, iteF ?_⟩⟩
    refine ⟨_, rfl, (by show 2 ≤ sizeLine; decide), fun p np => ?_⟩
    exact q _ p ((Ext.but b1).trans (Ext.of (same_upd np))) (hT1.same (same_upd np)) upd_same
  | pr d n v =>
    obtain ⟨g, ⟨pos, hp⟩, ⟨pos2, hk⟩, ⟨pos3, hv⟩⟩ := ht
    refine ⟨_, rfl, o, dx, _, rfl, ho, nA, o, L, 0, ts, i, _, rfl, hT, hp, rfl, _, rfl, ite2 (fun e => absurd (V.str.inj (of_decide_eq_true e)) nu_nm) (fun e => ?_)⟩
    refine ⟨_, rfl, o, L, ts, i, d, n, rfl, hT, ⟨pos, hp⟩, g, fun H1 b1 hT1 => ?_⟩
    obtain ⟨dx1, as1, ho1, _⟩ := id hT1
    refine ⟨_, rfl, o, dx1, _, rfl, ho1, nS _, o, L, _, ts, i + 1, _, rfl, hT1, hk, fun e H2 hT2 b2 => ⟨_, rfl, iteT ?_⟩, fun e => absurd rfl e⟩
    obtain ⟨dx2, as2, ho2, _⟩ := id hT2
    refine ⟨_, rfl, o, dx2, _, rfl, ho2, nT _, o, L, ts, i + 2, _, rfl, hT2, hv, fun H3 hT3 b3 => ⟨_, rfl, (by show 2 ≤ sizeLine; decide), fun p np => ?_⟩⟩
    exact q _ p ((((Ext.but b1).trans (Ext.but b2)).trans (Ext.but b3)).trans (Ext.of (same_upd np))) (hT3.same (same_upd np)) upd_same
theorem sc_read_sign : FnScope ["tokens"] ["tokens"] (defScope s_read_sign) := ⟨rfl, rfl, rfl, by decide +kernel, rfl, by decide +kernel, by decide +kernel⟩
theorem ok_read_sign (T : Txt K mg a) : FnOk P w K mg base CX0 3 a.f_read_sign a.f_read_sign_d ["tokens"] (spSign a.c_Tokens) := by
  refine T.F_read_sign.ok sc_read_sign (fun vs H Q E h => ?_) (fun cdv A outer s H vs Q E hr h => ?_)
  · obtain ⟨o, L, ts, i, k, p, rfl, _⟩ := h
    rfl
  obtain ⟨o, L, ts, i, k, p, rfl, hT, ⟨pos, ht⟩, q1, q2, q3⟩ := h
  obtain ⟨dx, as, ho, _⟩ := id hT
  refine ⟨_, (pss_cons (ps_if (pt_val (pe_meth (pv 0) T.cl_Tokens T.m_Tokens_skip (ok_Tokens_skip T) (hr.mono (by decide)) T.b_Tokens_skip .nil pass0 (pa_cons pe_str pa_nil)))
      (pss_one (ps_ret pe_int))
      pss_nil)
    (pss_one (ps_ret (pe_ifExp (pt_val (pe_meth (pv 0) T.cl_Tokens T.m_Tokens_skip (ok_Tokens_skip T) (hr.mono (by decide)) T.b_Tokens_skip .nil pass0 (pa_cons pe_str pa_nil))) (pe_un un_neg pe_int) pe_int)))), ?_⟩
  have nS : ∀ j, (tf L j).lookup ("skip" : Str) = none := fun j => tf_no _ _ (by decide +kernel) (by decide +kernel)
  refine ⟨_, rfl, o, dx, _, rfl, ho, nS _, o, L, _, ts, i, _, rfl, hT, ht, fun e H1 hT1 b1 => ⟨_, rfl, iteT (q1 e H1 b1 hT1)⟩, fun e1 => ⟨_, rfl, iteF ?_⟩⟩
  refine ⟨_, rfl, o, dx, _, rfl, ho, nS _, o, L, _, ts, i, _, rfl, hT, ht, fun e H1 hT1 b1 => ⟨_, rfl, iteT ?_⟩, fun e2 => ⟨_, rfl, iteF (q3 e1 e2)⟩⟩
  exact ⟨_, rfl, q2 e H1 b1 hT1⟩
theorem sc_read_declared : FnScope ["tokens", "keyword", "names"] ["tokens", "keyword"] (defScope s_read_declared) := ⟨rfl, rfl, rfl, by decide +kernel, rfl, by decide +kernel, by decide +kernel⟩
theorem ok_read_declared (T : Txt K mg a) : FnOk P w K mg base CX0 3 a.f_read_declared a.f_read_declared_d ["tokens", "keyword"] (spDecl a.c_Tokens) := by
  refine T.F_read_declared.ok sc_read_declared (fun vs H Q E h => ?_) (fun cdv A outer s H vs Q E hr h => ?_)
  · obtain ⟨o, L, kw, ts, i, rfl, _⟩ := h
    rfl
  obtain ⟨o, L, kw, ts, i, rfl, hT, h⟩ := h
  obtain ⟨ds_Tokens_kind_ahead, v_Tokens_kind_ahead, b_Tokens_kind_ahead⟩ := T.b_Tokens_kind_ahead
  obtain ⟨dx, as, ho, _⟩ := id hT
  have nA : ∀ j, (tf L j).lookup ("kind_ahead" : Str) = none := fun j => tf_no _ _ (by decide +kernel) (by decide +kernel)
  have nT : ∀ j, (tf L j).lookup ("take" : Str) = none := fun j => tf_no _ _ (by decide +kernel) (by decide +kernel)
  have nS : ∀ j, (tf L j).lookup ("skip" : Str) = none := fun j => tf_no _ _ (by decide +kernel) (by decide +kernel)
  refine ⟨_, (pss_cons (ps_if (pt_not (pt_val (pe_meth (pv 0) T.cl_Tokens T.m_Tokens_skip (ok_Tokens_skip T) (hr.mono (by decide)) T.b_Tokens_skip .nil pass0 (pa_cons (pv 1) pa_nil))))
      (pss_one (ps_ret (pe_tup pa_nil)))
      pss_nil)
    (pss_cons (ps_set (i := 2) sc_read_declared.nd rfl (Or.inl rfl) (pe_lst (pa_cons (pe_meth (pv 0) T.cl_Tokens T.m_Tokens_take (ok_Tokens_take T) (hr.mono (by decide)) T.b_Tokens_take .nil pass0 (pa_cons (pe_gs rfl T.g_NAME) pa_nil)) pa_nil)))
    (pss_cons (ps_while PassesOwn.never (pt_cmpR op_eq (pe_meth0 (pv 0) T.cl_Tokens T.m_Tokens_kind_ahead (ok_Tokens_kind_ahead T) (hr.mono (by decide)) b_Tokens_kind_ahead v_Tokens_kind_ahead pass0) (pe_gs rfl T.g_NAME) (nomark _))
      (pss_one (ps_expr (pe_bm PySem.F.plainAttrs_list PySem.F.slot_list_append PySem.F.type_list_append mt_append (pv 2) (pa_cons (pe_meth (pv 0) T.cl_Tokens T.m_Tokens_take (ok_Tokens_take T) (hr.mono (by decide)) T.b_Tokens_take .nil pass0 (pa_cons (pe_gs rfl T.g_NAME) pa_nil)) pa_nil)))))
    (pss_one (ps_ret (pe_callTy call_tuple_of (by rfl) T.tuple (by decide +kernel) (pa_cons (pv 2) pa_nil))))))), ?_⟩
  rcases h with ⟨k, p, ⟨pos, ht⟩, hn, q⟩ | ⟨kp, ns, ⟨pos, ht⟩, h0, h1000, hns, ⟨k, p, ⟨pos2, he⟩, hn⟩, q⟩
  · refine ⟨_, rfl, o, dx, _, rfl, ho, nS _, _, rfl, o, L, kw, ts, i, _, rfl, hT, ht, fun e => absurd e hn, fun _ => ⟨_, rfl, iteT ?_⟩⟩
    refine ⟨(by show 0 ≤ sizeLine; decide), fun p np => ?_⟩
    exact q _ p (Ext.of (same_upd np)) (hT.same (same_upd np)) upd_same
  · refine ⟨_, rfl, o, dx, _, rfl, ho, nS _, _, rfl, o, L, kw, ts, i, _, rfl, hT, ht, fun _ H1 hT1 b1 => ⟨_, rfl, iteF ?_⟩, fun e => absurd rfl e⟩
    obtain ⟨v0, hv0⟩ : ∃ v0, ns[0]? = some v0 := ⟨ns[0], List.getElem?_eq_getElem h0⟩
    obtain ⟨dx1, as1, ho1, _⟩ := id hT1
    obtain ⟨pos0, ht0⟩ := hns 0 v0 hv0
    refine ⟨_, rfl, o, dx1, _, rfl, ho1, nT _, o, L, ts, i + 1, _, rfl, hT1, ht0, fun H2 hT2 b2 => ⟨(by show 1 ≤ sizeLine; decide), fun N nN => ?_⟩⟩
    have hNoL := hT2.no nN
    have x2 : Ext o H H2 := (Ext.but b1).trans (Ext.but b2)
    have nN0 : H N = none := x2.free nN hNoL.1
    dsimp only [gName]
    refine st_seq (while_ans (fun m σ H' => ∃ j : Nat, σ = [some (.ref o), some (.str kw), some (.ref N)] ∧ Ext o H H' ∧ TkAt a.c_Tokens H' o L ts (i + 1 + j) ∧ 1 ≤ j ∧ j ≤ ns.length ∧ m = ns.length - j ∧ H' N = some (.lst ((ns.take j).map V.str)))
      (ns.length - 1) ⟨1, rfl, x2.trans (Ext.of (same_upd nN)), hT2.same (same_upd nN), Nat.le_refl _, h0, rfl, ?_⟩ ?_)
    · rw [upd_same]
      cases ns with
      | nil => simp at h0
      | cons x r =>
        have e : x = v0 := Option.some.inj hv0
        rw [e]
        rfl
    rintro m σ H' ⟨j, rfl, x3, hT3, h1, hj, rfl, hN⟩
    obtain ⟨dx3, as3, ho3, _⟩ := id hT3
    by_cases hlt : j < ns.length
    · obtain ⟨v, hv⟩ : ∃ v, ns[j]? = some v := ⟨ns[j], List.getElem?_eq_getElem hlt⟩
      obtain ⟨posj, htj⟩ := hns j v hv
      refine ⟨true, (fun Q q => ⟨_, rfl, o, dx3, _, rfl, ho3, nA _, o, L, 0, ts, i + 1 + j, _, rfl, hT3, htj, rfl, _, rfl, (by rw [decide_eq_true rfl]; exact q)⟩), fun _ => ?_, fun e => (by cases e)⟩
      refine ⟨_, rfl, .inl ⟨rfl, _, SqL.of hN⟩, _, rfl, o, dx3, _, rfl, ho3, nT _, o, L, ts, i + 1 + j, _, rfl, hT3, htj, fun H4 hT4 b4 => ?_⟩
      have hN4 : H4 N = some (.lst ((ns.take j).map V.str)) := by
        rw [b4 N hNoL.1]
        exact hN
      refine ⟨N, _, _, rfl, rfl, hN4, ?_, ns.length - (j + 1), by omega, j + 1, rfl, (x3.trans (Ext.but b4)).mut nN0, hT4.off hN4 (fun _ z => by cases z) (fun _ _ _ z => by cases z) hNoL.2, by omega, by omega, rfl, ?_⟩
      · rw [List.length_map, List.length_take]
        exact bigLine (by omega)
      · rw [upd_same, List.take_add_one, hv, List.map_append]
        rfl
    · have ej : j = ns.length := by omega
      subst ej
      refine ⟨false, (fun Q q => ⟨_, rfl, o, dx3, _, rfl, ho3, nA _, o, L, 0, ts, i + 1 + ns.length, _, rfl, hT3, he, rfl, _, rfl, (by rw [decide_eq_false (fun z => hn (V.str.inj z))]; exact q)⟩), fun e => (by cases e), fun _ => ?_⟩
      rw [List.take_length] at hN
      refine ⟨_, rfl, N, _, rfl, .inl ⟨SqL.of hN, fun p np => ?_⟩⟩
      exact q _ p (x3.trans (Ext.of (same_upd np))) (hT3.same (same_upd np)) upd_same
end
end K3
namespace K3
open PySem PySem.Spec PyProof.Rows L2 TL
/-! ### sums -/
abbrev Item := Bool × Tm3
def sgn (b : Bool) : Int := if b = true then -1 else 1
def contrib (x : Item) : Int := sgn x.1 * x.2.val
def nsum (o : Option Str) (l : List Item) : Int := (l.map fun x => if x.2.name = o then contrib x else 0).sum
theorem nsum_app (o : Option Str) (l : List Item) (x : Item) : nsum o (l ++ [x]) = nsum o l + if x.2.name = o then contrib x else 0 := by
  unfold nsum
  rw [List.map_append, List.sum_append]
  simp
theorem nsum_none {o : Option Str} : ∀ {l : List Item}, (∀ x ∈ l, ¬ x.2.name = o) → nsum o l = 0
  | [], _ => rfl
  | x :: r, h => by
    unfold nsum
    rw [List.map_cons, List.sum_cons, if_neg (h x List.mem_cons_self)]
    have := nsum_none (o := o) (l := r) fun y hy => h y (List.mem_cons_of_mem _ hy)
    unfold nsum at this
    rw [this]
    rfl
def RestAt (ts : List Tok3) : Nat → List Item → Prop
  | j, [] => ∃ k p, At ts j k p ∧ k ≠ "+" ∧ k ≠ "-"
  | j, (b, t) :: r => (∃ p, At ts j (if b = true then "-" else "+") p) ∧ TmAt ts (j + 1) t ∧ RestAt ts (j + 1 + t.size) r
def endR : Nat → List Item → Nat
  | j, [] => j
  | j, (_, t) :: r => endR (j + 1 + t.size) r
def ExprAt (ts : List Tok3) (i : Nat) (b : Bool) (t : Tm3) (r : List Item) : Prop := if b = true then (∃ p, At ts i "-" p) ∧ TmAt ts (i + 1) t ∧ RestAt ts (i + 1 + t.size) r else TmAt ts i t ∧ RestAt ts (i + t.size) r
def endE (i : Nat) (b : Bool) (t : Tm3) (r : List Item) : Nat := if b = true then endR (i + 1 + t.size) r else endR (i + t.size) r
/-- names and their sums, as new pairs -/
def RepP (H : Hp) : List Addr → List (Str × Int) → Prop
  | [], [] => True
  | a :: as, t :: ts => H a = some (.tup [.str t.1, .int t.2]) ∧ RepP H as ts
  | _, _ => False
theorem RepP.same {H H' : Hp} (s : Same H H') : ∀ {as : List Addr} {ts : List (Str × Int)}, RepP H as ts → RepP H' as ts
  | [], [], _ => trivial
  | _ :: _, _ :: _, h => ⟨s _ _ h.1, RepP.same s h.2⟩
  | [], _ :: _, h => h.elim
  | _ :: _, [], h => h.elim
theorem RepP.app {H : Hp} {a : Addr} {t : Str × Int} (ha : H a = some (.tup [.str t.1, .int t.2])) : ∀ {as : List Addr} {ts : List (Str × Int)}, RepP H as ts → RepP H (as ++ [a]) (ts ++ [t])
  | [], [], _ => ⟨ha, trivial⟩
  | _ :: _, _ :: _, h => ⟨h.1, RepP.app ha h.2⟩
  | [], _ :: _, h => h.elim
  | _ :: _, [], h => h.elim
theorem RepP.offX {H : Hp} {L : Addr} {u o : HO} (hL : H L = some u) (hu : ∀ xs, u ≠ .tup xs) : ∀ {as : List Addr} {ts : List (Str × Int)}, RepP H as ts → RepP (upd H L o) as ts
  | [], [], _ => trivial
  | _ :: _, _ :: _, h => ⟨by rw [upd_ne (ne_of h.1 hL (fun z => hu _ z.symm))]; exact h.1, RepP.offX hL hu h.2⟩
  | [], _ :: _, h => h.elim
  | _ :: _, [], h => h.elim
theorem RepP.len {H : Hp} : ∀ {as : List Addr} {ts : List (Str × Int)}, RepP H as ts → as.length = ts.length
  | [], [], _ => rfl
  | _ :: _, _ :: _, h => by rw [List.length_cons, List.length_cons, RepP.len h.2]
  | [], _ :: _, h => h.elim
  | _ :: _, [], h => h.elim
def termsOf (ys : List Str) (l : List Item) : List (Str × Int) := (ys.filter fun y => !decide (V.int (nsum (some y) l) = V.int 0)).map fun y => (y, nsum (some y) l)
theorem termsOf_yes {y : Str} {l : List Item} (e : (!decide (V.int (nsum (some y) l) = V.int 0)) = true) : termsOf [y] l = [(y, nsum (some y) l)] := by
  unfold termsOf
  rw [List.filter_cons_of_pos (p := fun y => !decide (V.int (nsum (some y) l) = V.int 0)) (a := y) (l := []) e]
  rfl
theorem termsOf_no {y : Str} {l : List Item} (e : ¬ (!decide (V.int (nsum (some y) l) = V.int 0)) = true) : termsOf [y] l = [] := by
  unfold termsOf
  rw [List.filter_cons_of_neg (p := fun y => !decide (V.int (nsum (some y) l) = V.int 0)) (a := y) (l := []) e]
  rfl
/-- the dict of the sums so far -/
structure DictOk (H : Hp) (D : Addr) (l : List Item) (kvs : List (Key × V)) (ks : List Str) : Prop where
  at_ : H D = some (.dK kvs)
  keys : kvs.map (·.1) = ks.map Sum.inr
  nd : ks.Nodup
  val : ∀ v, valV kvs (Sum.inr v) = if v ∈ ks then some (.int (nsum (some v) l)) else none
  mem : ∀ v, v ∈ ks ↔ ∃ x ∈ l, x.2.name = some v
  len : ks.length ≤ l.length
theorem putK_keys (kvs : List (Key × V)) (k : Key) (v : V) : (putK kvs k v).map (·.1) = if (valV kvs k).isSome = true then kvs.map (·.1) else kvs.map (·.1) ++ [k] := by
  unfold putK
  rw [valV_any]
  by_cases h : (valV kvs k).isSome = true
  · rw [if_pos h, if_pos h, List.map_map]
    congr 1
    funext kv
    by_cases e : kv.1 = k
    · simp [e]
    · simp [e]
  · rw [if_neg h, if_neg h, List.map_append]
    rfl
theorem DictOk.get {H : Hp} {D : Addr} {l : List Item} {kvs : List (Key × V)} {ks : List Str} (d : DictOk H D l kvs ks) (v : Str) : (valV kvs (Sum.inr v)).getD (.int 0) = .int (nsum (some v) l) := by
  rw [d.val v]
  by_cases h : v ∈ ks
  · rw [if_pos h]
    rfl
  · rw [if_neg h, nsum_none fun x hx e => h ((d.mem v).mpr ⟨x, hx, e⟩)]
    rfl
theorem DictOk.put {H : Hp} {D : Addr} {l : List Item} {kvs : List (Key × V)} {ks : List Str} (d : DictOk H D l kvs ks) {x : Item} {v : Str} (hx : x.2.name = some v) :
    DictOk (upd H D (.dK (putK kvs (Sum.inr v) (.int (nsum (some v) l + contrib x))))) D (l ++ [x]) (putK kvs (Sum.inr v) (.int (nsum (some v) l + contrib x))) (if v ∈ ks then ks else ks ++ [v]) := by
  have hs : (valV kvs (Sum.inr v)).isSome = decide (v ∈ ks) := by
    rw [d.val v]
    by_cases h : v ∈ ks
    · rw [if_pos h, decide_eq_true h]; rfl
    · rw [if_neg h, decide_eq_false h]; rfl
  refine ⟨upd_same, ?_, ?_, fun u => ?_, fun u => ?_, ?_⟩
  · rw [putK_keys, hs, d.keys]
    by_cases h : v ∈ ks
    · rw [if_pos h, if_pos (decide_eq_true h)]
    · rw [if_neg h, if_neg (by rw [decide_eq_false h]; exact Bool.false_ne_true), List.map_append]
      rfl
  · by_cases h : v ∈ ks
    · rw [if_pos h]
      exact d.nd
    · rw [if_neg h]
      exact List.nodup_append.mpr ⟨d.nd, by simp, fun y hy z hz => by
        rw [List.mem_singleton.mp hz]
        exact fun e => h (e ▸ hy)⟩
  · rw [valV_put, nsum_app, hx]
    by_cases e : u = v
    · subst e
      rw [if_pos rfl, if_pos rfl, if_pos]
      by_cases h : u ∈ ks
      · rw [if_pos h]
        exact h
      · rw [if_neg h]
        exact List.mem_append_right _ (List.mem_singleton.mpr rfl)
    · rw [if_neg (fun q => e (Sum.inr.inj q)), if_neg (fun q => e (Option.some.inj q).symm), Int.add_zero, d.val u]
      by_cases h : v ∈ ks
      · rw [if_pos h]
      · rw [if_neg h]
        by_cases hu : u ∈ ks
        · rw [if_pos hu, if_pos (List.mem_append_left _ hu)]
        · rw [if_neg hu, if_neg (fun q => (List.mem_append.mp q).elim hu fun z => e (List.mem_singleton.mp z))]
  · have e1 : (∃ y ∈ l ++ [x], y.2.name = some u) ↔ (∃ y ∈ l, y.2.name = some u) ∨ u = v := by
      constructor
      · rintro ⟨y, hy, e⟩
        rcases List.mem_append.mp hy with hy | hy
        · exact .inl ⟨y, hy, e⟩
        · rw [List.mem_singleton.mp hy, hx] at e
          exact .inr (Option.some.inj e).symm
      · rintro (⟨y, hy, e⟩ | rfl)
        · exact ⟨y, List.mem_append_left _ hy, e⟩
        · exact ⟨x, List.mem_append_right _ (List.mem_singleton.mpr rfl), hx⟩
    rw [e1, ← d.mem u]
    by_cases h : v ∈ ks
    · rw [if_pos h]
      exact ⟨.inl, fun q => q.elim id fun z => z ▸ h⟩
    · rw [if_neg h, List.mem_append, List.mem_singleton]
  · rw [List.length_append]
    have := d.len
    by_cases h : v ∈ ks
    · rw [if_pos h]
      omega
    · rw [if_neg h, List.length_append]
      show ks.length + 1 ≤ l.length + 1
      omega
theorem DictOk.more {H : Hp} {D : Addr} {l : List Item} {kvs : List (Key × V)} {ks : List Str} (d : DictOk H D l kvs ks) {x : Item} (hx : x.2.name = none) : DictOk H D (l ++ [x]) kvs ks := by
  refine ⟨d.at_, d.keys, d.nd, fun u => ?_, fun u => ?_, ?_⟩
  · rw [d.val u, nsum_app, hx, if_neg (show ¬ (none : Option Str) = some u from fun z => by cases z), Int.add_zero]
  · rw [d.mem u]
    constructor
    · rintro ⟨y, hy, e⟩
      exact ⟨y, List.mem_append_left _ hy, e⟩
    · rintro ⟨y, hy, e⟩
      rcases List.mem_append.mp hy with hy | hy
      · exact ⟨y, hy, e⟩
      · rw [List.mem_singleton.mp hy, hx] at e
        cases e
  · rw [List.length_append]
    exact Nat.le_trans d.len (Nat.le_add_right _ _)
def spExpr (C : Addr) : Sp := fun vs H Q _ => ∃ (o L : Addr) (ts : List Tok3) (i : Nat) (b : Bool) (t : Tm3) (r : List Item), vs = [.ref o] ∧ TkAt C H o L ts i ∧ ExprAt ts i b t r ∧ r.length < 60 ∧
  ∀ (H' : Hp) (p p2 : Addr) (as : List Addr) (ks ys : List Str), Ext o H H' → TkAt C H' o L ts (endE i b t r) → H' p = some (.tup [.int (nsum none ((b, t) :: r)), .ref p2]) → H' p2 = some (.tup (as.map V.ref)) → RepP H' as (termsOf ys ((b, t) :: r)) →
    ys.Perm ks → sortedS ys = true → ks.Nodup → (∀ v, v ∈ ks ↔ ∃ x ∈ (b, t) :: r, x.2.name = some v) → Q (.ref p) H'
section
variable {P : Program} {w : World} {K : PySem.W.Frag} {mg : Str → Option Value} {base : Heap} {a : Ads}
theorem sc_read_expression : FnScope ["tokens", "constant", "factors", "sign", "terms", "name", "number"] ["tokens"] (defScope s_read_expression) := ⟨rfl, rfl, rfl, by decide +kernel, rfl, by decide +kernel, by decide +kernel⟩
theorem ok_read_expression (T : Txt K mg a) : FnOk P w K mg base CX0 5 a.f_read_expression a.f_read_expression_d ["tokens"] (spExpr a.c_Tokens) := by
  refine T.F_read_expression.ok sc_read_expression (fun vs H Q E h => ?_) (fun cdv A outer s H vs Q E hr h => ?_)
  · obtain ⟨o, L, ts, i, b, t, r, rfl, _⟩ := h
    rfl
  obtain ⟨o, L, ts, i, b, t, r, rfl, hT, hE, hlen, q⟩ := h
  have nS : ∀ j, (tf L j).lookup ("skip" : Str) = none := fun j => tf_no _ _ (by decide +kernel) (by decide +kernel)
  refine ⟨_, (pss_cons (ps_set (i := 1) sc_read_expression.nd rfl (Or.inl rfl) pe_int)
    (pss_cons (ps_set (i := 2) sc_read_expression.nd rfl (Or.inr rfl) pe_dnewK)
    (pss_cons (ps_set (i := 3) sc_read_expression.nd rfl (Or.inl rfl) (pe_ifExp (pt_val (pe_meth (pv 0) T.cl_Tokens T.m_Tokens_skip (ok_Tokens_skip T) (hr.mono (by decide)) T.b_Tokens_skip .nil pass0 (pa_cons pe_str pa_nil))) (pe_un un_neg pe_int) pe_int))
    (pss_cons (ps_while PassesOwn.never (pt_cmpR op_ne (pv 3) pe_int (nomark _))
      (pss_cons (ps_asg (pe_call (ok_read_term T) (hr.mono (by decide)) (by rfl) T.g_read_term T.F_read_term.kp T.b_read_term .nil pass0 (pa_cons (pv 0) pa_nil)) (pg_tup (by rfl) (pgs_cons (pg_name (i := 5) sc_read_expression.nd rfl (Or.inl rfl)) (pgs_cons (pg_name (i := 6) sc_read_expression.nd rfl (Or.inl rfl)) pgs_nil))))
      (pss_cons (ps_if (pt_cmpR op_isN (pv 5) pe_non (nomark _))
        (pss_one (ps_aug (i := 1) sc_read_expression.nd rfl (Or.inl rfl) (pe_op op_mul (pv 3) (pv 6)) ip_add))
        (pss_one (ps_dput (hu_of hr) (pv 2) (pv 5) (pe_op op_add (pe_dget2 (hu_of hr) (pv 2) (pv 5) pe_int ⟨rfl, rfl, rfl, rfl⟩) (pe_op op_mul (pv 3) (pv 6))) rfl)))
      (pss_one (ps_set (i := 3) sc_read_expression.nd rfl (Or.inl rfl) (pe_call (ok_read_sign T) (hr.mono (by decide)) (by rfl) T.g_read_sign T.F_read_sign.kp T.b_read_sign .nil pass0 (pa_cons (pv 0) pa_nil)))))))
    (pss_cons (ps_setLc (i := 4) (own := [("name", 5)]) (g := gName 5) (tt := _) (by rfl) sc_read_expression.nd rfl rfl (sw_true rfl rfl rfl (by decide +kernel)) (pi_list (pe_callB (call_sortedD rfl) (by rfl) T.sorted (by decide +kernel) (pa_cons (pv 2) pa_nil))) (blkOk_by (own := [("name", 5)]) (N := ["tokens", "constant", "factors", "sign", "terms", "name", "number"]) (sc := defScope s_read_expression) (by decide +kernel)) (fun _ _ _ _ _ => pg_name (i := 5) sc_read_expression.nd rfl (Or.inl rfl)) (fun _ _ _ _ _ => (pts_one (pt_cmpR op_ne (pe_dget (hu_of hr) (pv 2) (pv 5) (fun _ _ => rfl)) pe_int (nomark _)))) (fun _ _ _ _ _ => (pe_tup (pa_cons (pv 5) (pa_cons (pe_dget (hu_of hr) (pv 2) (pv 5) (fun _ _ => rfl)) pa_nil)))))
    (pss_one (ps_ret (pe_tup (pa_cons (pv 1) (pa_cons (pe_callTy call_tuple_of (by rfl) T.tuple (by decide +kernel) (pa_cons (pv 4) pa_nil)) pa_nil)))))))))), ?_⟩
  refine st_seq (st_set (fun Q q => q) ?_)
  intro D hD
  dsimp only [gName]
  have hDo := hT.no hD
  have hT0 := hT.same (same_upd (o := .dK []) hD)
  obtain ⟨dx, as, ho, _⟩ := id hT0
  refine st_seq (st_setH (PV := fun v H0 => v = .int (sgn b) ∧ Ext o H H0 ∧ DictOk H0 D [] [] [] ∧ ∃ j, TkAt a.c_Tokens H0 o L ts j ∧ TmAt ts j t ∧ RestAt ts (j + t.size) r ∧ endR (j + t.size) r = endE i b t r) (fun Q' q' => ?_) ?_)
  · have dOk : ∀ H0, H0 D = some (.dK []) → DictOk H0 D [] [] [] := fun H0 h => ⟨h, rfl, List.nodup_nil, fun v => by simp [valV_nil], fun v => by simp, Nat.le_refl _⟩
    cases b with
    | true =>
      obtain ⟨⟨p, pos, hp⟩, h1, h2⟩ := (show (∃ p, At ts i "-" p) ∧ TmAt ts (i + 1) t ∧ RestAt ts (i + 1 + t.size) r from hE)
      refine ⟨_, rfl, o, dx, _, rfl, ho, nS _, o, L, _, ts, i, _, rfl, hT0, hp, fun _ H1 hT1 b1 => ⟨_, rfl, iteT ⟨_, rfl, ?_⟩⟩, fun e => absurd rfl e⟩
      exact q' _ _ ⟨rfl, (Ext.of (same_upd hD)).trans (Ext.but b1), dOk _ (by rw [b1 D hDo.1]; exact upd_same), i + 1, hT1, h1, h2, rfl⟩
    | false =>
      obtain ⟨h1, h2⟩ := (show TmAt ts i t ∧ RestAt ts (i + t.size) r from hE)
      obtain ⟨k, p, ⟨pos, hp⟩, hk⟩ := h1.kind
      have hn : ¬ k = "-" := by
        rcases hk with rfl | rfl
        · decide +kernel
        · decide +kernel
      refine ⟨_, rfl, o, dx, _, rfl, ho, nS _, o, L, _, ts, i, _, rfl, hT0, hp, fun e => absurd e hn, fun _ => ⟨_, rfl, iteF ?_⟩⟩
      exact q' _ _ ⟨rfl, Ext.of (same_upd hD), dOk _ upd_same, i, hT0, h1, h2, rfl⟩
  rintro _ H0 ⟨rfl, x0, d0, j0, hTj, hm0, hr0, he0⟩
  dsimp only [gName]
  have nD0 : H D = none := hD
  refine st_seq (while_ans (fun m σ H' => ∃ (dn : List Item) (kvs : List (Key × V)) (ks : List Str) (sg : Int) (v5 v6 : Option V), σ = [some (.ref o), some (.int (nsum none dn)), some (.ref D), some (.int sg), none, v5, v6] ∧ Ext o H H' ∧ DictOk H' D dn kvs ks ∧
      ((∃ b' t' r' j, sg = sgn b' ∧ TkAt a.c_Tokens H' o L ts j ∧ TmAt ts j t' ∧ RestAt ts (j + t'.size) r' ∧ (b, t) :: r = dn ++ (b', t') :: r' ∧ m = r'.length + 1 ∧ endR (j + t'.size) r' = endE i b t r) ∨
       (sg = 0 ∧ (b, t) :: r = dn ∧ m = 0 ∧ TkAt a.c_Tokens H' o L ts (endE i b t r))))
    (r.length + 1) ⟨[], [], [], sgn b, none, none, rfl, x0, d0, .inl ⟨b, t, r, j0, rfl, hTj, hm0, hr0, rfl, rfl, he0⟩⟩ ?_)
  rintro m σ H' ⟨dn, kvs, ks, sg, v5, v6, rfl, x1, d1, h⟩
  rcases h with ⟨b', t', r', j, rfl, hTj, hm, hrr, hall, rfl, hend⟩ | ⟨rfl, hall, rfl, hTj⟩
  · have hs0 : ¬ sgn b' = 0 := by
      unfold sgn
      cases b'
      · decide
      · decide
    refine ⟨true, (fun Q q => ⟨_, rfl, rfl, _, rfl, (by rw [decide_eq_false (fun z => hs0 (V.int.inj z))]; exact q)⟩), fun _ => ?_, fun e => (by cases e)⟩
    -- name, number = read_term(tokens)
    refine ⟨_, rfl, o, L, ts, j, t', rfl, hTj, hm, fun H1 p x2 hT2 hp => ?_⟩
    have d2 : DictOk H1 D dn kvs ks := ⟨x2 _ _ d1.at_ hDo.1, d1.keys, d1.nd, d1.val, d1.mem, d1.len⟩
    refine ⟨p, _, rfl, .inl (.inl hp), rfl, nameV t'.name, [.int t'.val], rfl, .int t'.val, [], rfl, rfl, ?_⟩
    have hsb : -(2 ^ 64) < sgn b' ∧ sgn b' < 2 ^ 64 := by
      unfold sgn
      cases b'
      · decide
      · decide
    have hlen2 : dn.length < 64 := by
      have := congrArg List.length hall
      rw [List.length_append, List.length_cons, List.length_cons] at this
      omega
    -- what follows the sums: the next sign
    have sign : ∀ (H2 : Hp) (kvs2 : List (Key × V)) (ks2 : List Str), Ext o H H2 → DictOk H2 D (dn ++ [(b', t')]) kvs2 ks2 → TkAt a.c_Tokens H2 o L ts (j + t'.size) →
        tAsg (tCall (spSign a.c_Tokens) [] E0 (tCons (tVar 0) tNil)) (gName 3) { rt := Q, nx := fun σ' H' => ∃ m', m' < r'.length + 1 ∧ ∃ (dn : List Item) (kvs : List (Key × V)) (ks : List Str) (sg : Int) (v5 v6 : Option V), σ' = [some (.ref o), some (.int (nsum none dn)), some (.ref D), some (.int sg), none, v5, v6] ∧ Ext o H H' ∧ DictOk H' D dn kvs ks ∧
          ((∃ b' t' r' j, sg = sgn b' ∧ TkAt a.c_Tokens H' o L ts j ∧ TmAt ts j t' ∧ RestAt ts (j + t'.size) r' ∧ (b, t) :: r = dn ++ (b', t') :: r' ∧ m' = r'.length + 1 ∧ endR (j + t'.size) r' = endE i b t r) ∨
           (sg = 0 ∧ (b, t) :: r = dn ∧ m' = 0 ∧ TkAt a.c_Tokens H' o L ts (endE i b t r))) }
        [some (.ref o), some (.int (nsum none (dn ++ [(b', t')]))), some (.ref D), some (.int (sgn b')), none, some (nameV t'.name), some (.int t'.val)] H2 := by
      intro H2 kvs2 ks2 x3 d3 hT3
      have dB : ∀ H3, But o H2 H3 → DictOk H3 D (dn ++ [(b', t')]) kvs2 ks2 := fun H3 b3 => ⟨by rw [b3 D hDo.1]; exact d3.at_, d3.keys, d3.nd, d3.val, d3.mem, d3.len⟩
      cases r' with
      | nil =>
        obtain ⟨k, p, hk, n1, n2⟩ := hrr
        refine ⟨_, rfl, o, L, ts, j + t'.size, k, p, rfl, hT3, hk, fun e => absurd e n1, fun e => absurd e n2, fun _ _ => ?_⟩
        refine ⟨0, by omega, dn ++ [(b', t')], kvs2, ks2, 0, _, _, rfl, x3, d3, .inr ⟨rfl, hall, rfl, ?_⟩⟩
        rw [← hend]
        exact hT3
      | cons y r'' =>
        obtain ⟨b2, t2⟩ := y
        obtain ⟨⟨p, hk⟩, hm2, hr2⟩ := hrr
        have fin : ∀ H3, But o H2 H3 → TkAt a.c_Tokens H3 o L ts (j + t'.size + 1) → ∃ m', m' < ((b2, t2) :: r'').length + 1 ∧ ∃ (dn' : List Item) (kvs : List (Key × V)) (ks : List Str) (sg : Int) (v5 v6 : Option V), [some (.ref o), some (.int (nsum none (dn ++ [(b', t')]))), some (.ref D), some (V.int (sgn b2)), none, some (nameV t'.name), some (.int t'.val)] = [some (.ref o), some (.int (nsum none dn')), some (.ref D), some (.int sg), none, v5, v6] ∧ Ext o H H3 ∧ DictOk H3 D dn' kvs ks ∧
          ((∃ b' t' r' j, sg = sgn b' ∧ TkAt a.c_Tokens H3 o L ts j ∧ TmAt ts j t' ∧ RestAt ts (j + t'.size) r' ∧ (b, t) :: r = dn' ++ (b', t') :: r' ∧ m' = r'.length + 1 ∧ endR (j + t'.size) r' = endE i b t r) ∨
           (sg = 0 ∧ (b, t) :: r = dn' ∧ m' = 0 ∧ TkAt a.c_Tokens H3 o L ts (endE i b t r))) := fun H3 b3 hT4 =>
          ⟨r''.length + 1, by rw [List.length_cons]; omega, dn ++ [(b', t')], kvs2, ks2, sgn b2, _, _, rfl, x3.trans (Ext.but b3), dB _ b3, .inl ⟨b2, t2, r'', j + t'.size + 1, rfl, hT4, hm2, hr2, by rw [hall, List.append_assoc]; rfl, rfl, hend⟩⟩
        refine ⟨_, rfl, o, L, ts, j + t'.size, _, p, rfl, hT3, hk, fun e H3 b3 hT4 => ?_, fun e H3 b3 hT4 => ?_, fun n1 n2 => ?_⟩
        · have : b2 = false := by
            cases b2
            · rfl
            · exact absurd e (by decide +kernel)
          subst this
          exact fin H3 b3 hT4
        · have : b2 = true := by
            cases b2
            · exact absurd e (by decide +kernel)
            · rfl
          subst this
          exact fin H3 b3 hT4
        · cases b2
          · exact absurd rfl n1
          · exact absurd rfl n2
    cases hnm : t'.name with
    | none =>
      have hc : nsum none (dn ++ [(b', t')]) = nsum none dn + sgn b' * t'.val := by
        rw [nsum_app, hnm, if_pos rfl]
        rfl
      refine ⟨_, rfl, rfl, _, rfl, ite2 (fun _ => ?_) (fun e => absurd (decide_eq_true rfl) e)⟩
      refine ⟨_, rfl, _, rfl, _, rfl, _, _, rfl, rfl, .inl hsb, _, _, rfl, rfl, ?_⟩
      have := sign H1 kvs ks (x1.trans x2) (d2.more hnm) hT2
      rw [hc, hnm] at this
      exact this
    | some v =>
      have hc : nsum none (dn ++ [(b', t')]) = nsum none dn := by
        rw [nsum_app, hnm, if_neg (show ¬ (some v : Option Str) = none from fun z => by cases z), Int.add_zero]
      refine ⟨_, rfl, rfl, _, rfl, ite2 (fun e => by cases of_decide_eq_true e) (fun _ => ?_)⟩
      have hk2 : kvs.length < sizeLine := by
        have h1 := congrArg List.length d2.keys
        rw [List.length_map, List.length_map] at h1
        have := d2.len
        exact bigLine (by omega)
      refine ⟨_, rfl, D, rfl, .inl ⟨kvs, .inl d2.at_⟩, _, rfl, valV kvs (Sum.inr v), DGet.k (k := Sum.inr v) d2.at_, _, rfl, _, rfl, _, _, rfl, rfl, .inl hsb, nsum (some v) dn, _, d2.get v, rfl, _, rfl, _, rfl, D, _, rfl, DPut.k (k := Sum.inr v) d2.at_ hk2, ?_⟩
      have := sign _ _ _ ((x1.trans x2).mut nD0) (d2.put (x := (b', t')) hnm) (hT2.off d2.at_ (fun _ z => by cases z) (fun _ _ _ z => by cases z) hDo.2)
      rw [hc, hnm] at this
      exact this
  · -- the end: the sorted sums
    refine ⟨false, (fun Q q => ⟨_, rfl, rfl, _, rfl, (by rw [decide_eq_true rfl]; exact q)⟩), fun e => (by cases e), fun _ => ?_⟩
    subst hall
    have hk64 : ks.length < 64 := by
      have := d1.len
      rw [List.length_cons] at this
      omega
    have nz : ∀ v, v ∈ ks → valV kvs (Sum.inr v) = some (.int (nsum (some v) ((b, t) :: r))) := fun v hv => by rw [d1.val v, if_pos hv]
    refine ⟨_, rfl, D, kvs, ks, rfl, .inl d1.at_, d1.keys, hk64, fun ys p hperm hsort np => ⟨p, rfl, ⟨_, SqL.of upd_same⟩, fun M nM => ?_⟩⟩
    have hpM : p ≠ M := ne_of_none upd_same nM
    have sp : Same H' (upd H' p (.lst (ys.map V.str))) := same_upd np
    have nM' : H' M = none := sp.free nM
    have hyl : ys.length < 64 := by
      rw [hperm.length_eq]
      exact hk64
    refine lc_list (K := K) (a := p) (xs := ys.map V.str) (fun i H2 => Same H' H2 ∧ H2 p = some (.lst (ys.map V.str)) ∧ ∃ as : List Addr, H2 M = some (.lst (as.map V.ref)) ∧ as.length ≤ i ∧ RepP H2 as (termsOf (ys.take i) ((b, t) :: r)))
      ⟨sp.trans (same_upd nM), by rw [upd_ne hpM]; exact upd_same, [], upd_same, Nat.le_refl _, trivial⟩ (fun i H2 _ hh => SqL.of hh.2.1) ?_ ?_
    · rintro i' x H2 hi ⟨s2, hp2, as2, hM2, hal, hR2⟩
      obtain ⟨y, hy, rfl⟩ : ∃ y, ys[i']? = some y ∧ x = V.str y := by
        rw [List.getElem?_map] at hi
        cases e : ys[i']? with
        | none => rw [e] at hi; cases hi
        | some y => rw [e] at hi; exact ⟨y, rfl, (Option.some.inj hi).symm⟩
      have hyk : y ∈ ks := hperm.subset (List.mem_of_getElem? hy)
      have hil : i' < ys.length := (List.getElem?_eq_some_iff.mp hy).1
      have hD2 := s2 _ _ d1.at_
      have g1 : DGet H2 D (.str y) (some (.int (nsum (some y) ((b, t) :: r)))) := by
        have := DGet.k (k := Sum.inr y) hD2
        rw [nz y hyk] at this
        exact this
      have et : termsOf (ys.take (i' + 1)) ((b, t) :: r) = termsOf (ys.take i') ((b, t) :: r) ++ termsOf [y] ((b, t) :: r) := by
        unfold termsOf
        rw [List.take_add_one, hy, List.filter_append, List.map_append]
        rfl
      refine ⟨rfl, _, rfl, _, rfl, D, _, rfl, g1, rfl, _, rfl, ite2 (fun e => ?_) (fun e => ?_)⟩
      · refine ⟨_, rfl, _, rfl, _, rfl, D, _, rfl, g1, (by show 2 ≤ sizeLine; decide), fun q1 nq => ?_⟩
        have hMq : M ≠ q1 := ne_of_none hM2 nq
        have hpq : p ≠ q1 := ne_of_none hp2 nq
        refine ⟨_, by rw [upd_ne hMq]; exact hM2, by rw [List.length_map]; exact bigLine (by omega), ?_, ?_, as2 ++ [q1], ?_, ?_, ?_⟩
        · exact same_mut (s2.trans (same_upd nq)) nM'
        · rw [upd_ne hpM, upd_ne hpq]
          exact hp2
        · rw [upd_same, List.map_append]
          rfl
        · rw [List.length_append]
          show as2.length + 1 ≤ i' + 1
          omega
        · rw [et, termsOf_yes e]
          exact RepP.offX (u := .lst (as2.map V.ref)) (by rw [upd_ne hMq]; exact hM2) (fun _ z => by cases z) (RepP.app (t := (y, nsum (some y) ((b, t) :: r))) upd_same (hR2.same (same_upd nq)))
      · refine ⟨s2, hp2, as2, hM2, by omega, ?_⟩
        rw [et, termsOf_no e, List.append_nil]
        exact hR2
    · rintro H2 ⟨s2, hp2, as2, hM2, hal, hR2⟩
      rw [List.length_map, List.take_length] at hR2
      refine ⟨_, rfl, _, rfl, M, _, rfl, .inl ⟨SqL.of hM2, fun p2 n2 => ⟨(by show 2 ≤ sizeLine; decide), fun p3 n3 => ?_⟩⟩⟩
      have s3 := (same_upd (o := .tup (as2.map V.ref)) n2)
      have s4 := (same_upd (o := .tup [.int (nsum none ((b, t) :: r)), .ref p2]) n3)
      exact q _ p3 p2 as2 ks ys (x1.trans (Ext.of ((s2.trans s3).trans s4))) (((hTj.same s2).same s3).same s4) upd_same (s4 _ _ upd_same) ((hR2.same s3).same s4) hperm hsort d1.nd d1.mem
end
end K3
namespace K3
open PySem PySem.Spec PyProof.Rows L2 TL
/-- no tuple stands at o -/
def NT (H : Hp) (o : Addr) : Prop := ∀ xs, H o ≠ some (.tup xs)
theorem NT.of {H : Hp} {o : Addr} {u : HO} (h : H o = some u) (n : ∀ xs, u ≠ .tup xs) : NT H o := fun xs e => by
  rw [h] at e
  exact n xs (Option.some.inj e)
theorem Ext.tup {o q : Addr} {H H' : Hp} {xs : List V} (x : Ext o H H') (ho : NT H o) (h : H q = some (.tup xs)) : H' q = some (.tup xs) := x _ _ h fun e => ho xs (e ▸ h)
theorem ext_upd (H : Hp) (o : Addr) (u : HO) : Ext o H (upd H o u) := fun b x e n => by
  rw [upd_ne n]
  exact e
theorem RepP.ext {o : Addr} {H H' : Hp} (x : Ext o H H') (ho : NT H o) : ∀ {as : List Addr} {ts : List (Str × Int)}, RepP H as ts → RepP H' as ts
  | [], [], _ => trivial
  | _ :: _, _ :: _, h => ⟨x.tup ho h.1, RepP.ext x ho h.2⟩
  | [], _ :: _, h => h.elim
  | _ :: _, [], h => h.elim
/-! ### names with commas -/
structure NamesAt (ts : List Tok3) (i : Nat) (ns : List Str) : Prop where
  nm : ∀ (j : Nat) (v : Str), ns[j]? = some v → At ts (i + 2 * j) "NAME" v
  cm : ∀ j : Nat, j + 1 < ns.length → ∃ p, At ts (i + 2 * j + 1) "," p
  ne : 0 < ns.length
  sz : ns.length ≤ 1000
  en : ∃ k p, At ts (i + 2 * ns.length - 1) k p ∧ k ≠ ","
def spNms (C : Addr) : Sp := fun vs H Q _ => ∃ (o L : Addr) (ts : List Tok3) (i : Nat) (ns : List Str), vs = [.ref o] ∧ TkAt C H o L ts i ∧ NamesAt ts i ns ∧
  ∀ H' p, Ext o H H' → TkAt C H' o L ts (i + 2 * ns.length - 1) → H' p = some (.tup (ns.map V.str)) → Q (.ref p) H'
/-! ### parameters and args -/
inductive El where
  | par (v : Str) (b : Bool)
  | val (b : Bool) (t : Tm3) (r : List Item)
  | pla (v : Str)
def ElAt (ts : List Tok3) (i : Nat) : El → Prop
  | .par v false => At ts i "NAME" v
  | .par v true => (∃ p, At ts i "&" p) ∧ At ts (i + 1) "NAME" v
  | .pla v => (∃ p, At ts i "&" p) ∧ At ts (i + 1) "NAME" v
  | .val b t r => ExprAt ts i b t r ∧ r.length < 60
/-- the place behind it -/
def endEl (i : Nat) : El → Nat
  | .par _ false => i + 1
  | .par _ true => i + 2
  | .pla _ => i + 2
  | .val b t r => endE i b t r
/-- a sum that was read -/
def SumAt (H : Hp) (pe : Addr) (its : List Item) : Prop := ∃ (pt : Addr) (as : List Addr) (ks ys : List Str), H pe = some (.tup [.int (nsum none its), .ref pt]) ∧ H pt = some (.tup (as.map V.ref)) ∧ RepP H as (termsOf ys its) ∧
  ys.Perm ks ∧ sortedS ys = true ∧ ks.Nodup ∧ (∀ v, v ∈ ks ↔ ∃ x ∈ its, x.2.name = some v)
theorem SumAt.ext {o : Addr} {H H' : Hp} (x : Ext o H H') (ho : NT H o) {pe : Addr} {its : List Item} (h : SumAt H pe its) : SumAt H' pe its := by
  obtain ⟨pt, as, ks, ys, h1, h2, h3, h4⟩ := h
  exact ⟨pt, as, ks, ys, x.tup ho h1, x.tup ho h2, h3.ext x ho, h4⟩
def ElRep (H : Hp) (q : Addr) : El → Prop
  | .par v b => H q = some (.tup [.str v, .bl b])
  | .pla v => H q = some (.tup [.str "place", .str v])
  | .val b t r => ∃ pe, H q = some (.tup [.str "value", .ref pe]) ∧ SumAt H pe ((b, t) :: r)
theorem ElRep.ext {o : Addr} {H H' : Hp} (x : Ext o H H') (ho : NT H o) {q : Addr} : ∀ {e : El}, ElRep H q e → ElRep H' q e
  | .par _ _, h => x.tup ho h
  | .pla _, h => x.tup ho h
  | .val _ _ _, ⟨pe, h1, h2⟩ => ⟨pe, x.tup ho h1, h2.ext x ho⟩
def ElsRep (H : Hp) : List Addr → List El → Prop
  | [], [] => True
  | q :: qs, e :: es => ElRep H q e ∧ ElsRep H qs es
  | _, _ => False
theorem ElsRep.ext {o : Addr} {H H' : Hp} (x : Ext o H H') (ho : NT H o) : ∀ {qs : List Addr} {es : List El}, ElsRep H qs es → ElsRep H' qs es
  | [], [], _ => trivial
  | _ :: _, _ :: _, h => ⟨h.1.ext x ho, ElsRep.ext x ho h.2⟩
  | [], _ :: _, h => h.elim
  | _ :: _, [], h => h.elim
theorem ElsRep.app {H : Hp} {q : Addr} {e : El} (hq : ElRep H q e) : ∀ {qs : List Addr} {es : List El}, ElsRep H qs es → ElsRep H (qs ++ [q]) (es ++ [e])
  | [], [], _ => ⟨hq, trivial⟩
  | _ :: _, _ :: _, h => ⟨h.1, ElsRep.app hq h.2⟩
  | [], _ :: _, h => h.elim
  | _ :: _, [], h => h.elim
theorem ElsRep.len {H : Hp} : ∀ {qs : List Addr} {es : List El}, ElsRep H qs es → qs.length = es.length
  | [], [], _ => rfl
  | _ :: _, _ :: _, h => by rw [List.length_cons, List.length_cons, ElsRep.len h.2]
  | [], _ :: _, h => h.elim
  | _ :: _, [], h => h.elim
def spEl (C : Addr) (ok : El → Bool) : Sp := fun vs H Q _ => ∃ (o L : Addr) (ts : List Tok3) (i : Nat) (e : El), vs = [.ref o] ∧ ok e = true ∧ TkAt C H o L ts i ∧ ElAt ts i e ∧
  ∀ H' q, Ext o H H' → TkAt C H' o L ts (endEl i e) → ElRep H' q e → Q (.ref q) H'
theorem nm_amp : ¬ ("NAME" : Str) = "&" := by decide +kernel
def isPar : El → Bool
  | .par _ _ => true
  | _ => false
def isArg (e : El) : Bool := !isPar e
section
variable {P : Program} {w : World} {K : PySem.W.Frag} {mg : Str → Option Value} {base : Heap} {a : Ads}
theorem sc_read_names : FnScope ["tokens", "names"] ["tokens"] (defScope s_read_names) := ⟨rfl, rfl, rfl, by decide +kernel, rfl, by decide +kernel, by decide +kernel⟩
theorem ok_read_names (T : Txt K mg a) : FnOk P w K mg base CX0 3 a.f_read_names a.f_read_names_d ["tokens"] (spNms a.c_Tokens) := by
  refine T.F_read_names.ok sc_read_names (fun vs H Q E h => ?_) (fun cdv A outer s H vs Q E hr h => ?_)
  · obtain ⟨o, L, ts, i, ns, rfl, _⟩ := h
    rfl
  obtain ⟨o, L, ts, i, ns, rfl, hT, hn, q⟩ := h
  obtain ⟨dx, as, ho, _⟩ := id hT
  have nT : ∀ j, (tf L j).lookup ("take" : Str) = none := fun j => tf_no _ _ (by decide +kernel) (by decide +kernel)
  have nS : ∀ j, (tf L j).lookup ("skip" : Str) = none := fun j => tf_no _ _ (by decide +kernel) (by decide +kernel)
  refine ⟨_, (pss_cons (ps_set (i := 1) sc_read_names.nd rfl (Or.inl rfl) (pe_lst (pa_cons (pe_meth (pv 0) T.cl_Tokens T.m_Tokens_take (ok_Tokens_take T) (hr.mono (by decide)) T.b_Tokens_take .nil pass0 (pa_cons (pe_gs rfl T.g_NAME) pa_nil)) pa_nil)))
    (pss_cons (ps_while PassesOwn.never (pt_val (pe_meth (pv 0) T.cl_Tokens T.m_Tokens_skip (ok_Tokens_skip T) (hr.mono (by decide)) T.b_Tokens_skip .nil pass0 (pa_cons pe_str pa_nil)))
      (pss_one (ps_expr (pe_bm PySem.F.plainAttrs_list PySem.F.slot_list_append PySem.F.type_list_append mt_append (pv 1) (pa_cons (pe_meth (pv 0) T.cl_Tokens T.m_Tokens_take (ok_Tokens_take T) (hr.mono (by decide)) T.b_Tokens_take .nil pass0 (pa_cons (pe_gs rfl T.g_NAME) pa_nil)) pa_nil)))))
    (pss_one (ps_ret (pe_callTy call_tuple_of (by rfl) T.tuple (by decide +kernel) (pa_cons (pv 1) pa_nil)))))), ?_⟩
  obtain ⟨v0, hv0⟩ : ∃ v0, ns[0]? = some v0 := ⟨ns[0]'hn.ne, List.getElem?_eq_getElem hn.ne⟩
  obtain ⟨pos0, ht0⟩ := hn.nm 0 v0 hv0
  refine ⟨_, rfl, o, dx, _, rfl, ho, nT _, o, L, ts, i, _, rfl, hT, ht0, fun H2 hT2 b2 => ⟨(by show 1 ≤ sizeLine; decide), fun N nN => ?_⟩⟩
  have hNoL := hT2.no nN
  have x2 : Ext o H H2 := Ext.but b2
  have nN0 : H N = none := x2.free nN hNoL.1
  dsimp only [gName]
  refine st_seq ⟨fun m σ H' => ∃ j : Nat, σ = [some (.ref o), some (.ref N)] ∧ Ext o H H' ∧ TkAt a.c_Tokens H' o L ts (i + 2 * j - 1) ∧ 1 ≤ j ∧ j ≤ ns.length ∧ m = ns.length - j ∧ H' N = some (.lst ((ns.take j).map V.str)),
    ⟨ns.length - 1, 1, rfl, x2.trans (Ext.of (same_upd nN)), hT2.same (same_upd nN), Nat.le_refl _, hn.ne, rfl, ?_⟩, ?_⟩
  · rw [upd_same]
    cases ns with
    | nil => cases hv0
    | cons x r =>
      have e : x = v0 := Option.some.inj hv0
      rw [e]
      rfl
  rintro m σ H' ⟨j, rfl, x3, hT3, h1, hj, rfl, hN⟩
  obtain ⟨dx3, as3, ho3, _⟩ := id hT3
  by_cases hlt : j < ns.length
  · obtain ⟨v, hv⟩ : ∃ v, ns[j]? = some v := ⟨ns[j], List.getElem?_eq_getElem hlt⟩
    obtain ⟨posj, htj⟩ := hn.nm j v hv
    obtain ⟨pc, posc, htc⟩ := hn.cm (j - 1) (by omega)
    rw [show i + 2 * (j - 1) + 1 = i + 2 * j - 1 by omega] at htc
    refine ⟨_, rfl, o, dx3, _, rfl, ho3, nS _, o, L, _, ts, i + 2 * j - 1, _, rfl, hT3, htc, fun _ H4 hT4 b4 => ⟨_, rfl, iteT ?_⟩, fun e => absurd rfl e⟩
    refine ⟨_, fun σ' H' h => h, ?_⟩
    rw [show i + 2 * j - 1 + 1 = i + 2 * j by omega] at hT4
    obtain ⟨dx4, as4, ho4, _⟩ := id hT4
    have hN4 : H4 N = some (.lst ((ns.take j).map V.str)) := by rw [b4 N hNoL.1]; exact hN
    refine ⟨_, rfl, .inl ⟨rfl, _, SqL.of hN4⟩, _, rfl, o, dx4, _, rfl, ho4, nT _, o, L, ts, i + 2 * j, _, rfl, hT4, htj, fun H5 hT5 b5 => ?_⟩
    have hN5 : H5 N = some (.lst ((ns.take j).map V.str)) := by rw [b5 N hNoL.1]; exact hN4
    refine ⟨N, _, _, rfl, rfl, hN5, ?_, ns.length - (j + 1), by omega, j + 1, rfl, ((x3.trans (Ext.but b4)).trans (Ext.but b5)).mut nN0, ?_, by omega, by omega, rfl, ?_⟩
    · rw [List.length_map, List.length_take]
      have := hn.sz
      exact bigLine (by omega)
    · rw [show i + 2 * (j + 1) - 1 = i + 2 * j + 1 by omega]
      exact hT5.off hN5 (fun _ z => by cases z) (fun _ _ _ z => by cases z) hNoL.2
    · rw [upd_same, List.take_add_one, hv, List.map_append]
      rfl
  · have ej : j = ns.length := by omega
    subst ej
    obtain ⟨k, p, ⟨pos, hte⟩, hk⟩ := hn.en
    refine ⟨_, rfl, o, dx3, _, rfl, ho3, nS _, o, L, _, ts, _, _, rfl, hT3, hte, fun e => absurd e hk, fun _ => ⟨_, rfl, iteF ?_⟩⟩
    rw [List.take_length] at hN
    refine ⟨_, rfl, N, _, rfl, .inl ⟨SqL.of hN, fun p np => ?_⟩⟩
    exact q _ p (x3.trans (Ext.of (same_upd np))) (hT3.same (same_upd np)) upd_same
theorem sc_read_param : FnScope ["tokens", "by_place"] ["tokens"] (defScope s_read_param) := ⟨rfl, rfl, rfl, by decide +kernel, rfl, by decide +kernel, by decide +kernel⟩
theorem ok_read_param (T : Txt K mg a) : FnOk P w K mg base CX0 6 a.f_read_param a.f_read_param_d ["tokens"] (spEl a.c_Tokens isPar) := by
  refine T.F_read_param.ok sc_read_param (fun vs H Q E h => ?_) (fun cdv A outer s H vs Q E hr h => ?_)
  · obtain ⟨o, L, ts, i, e, rfl, _⟩ := h
    rfl
  obtain ⟨o, L, ts, i, e, rfl, hok, hT, he, q⟩ := h
  obtain ⟨dx, as, ho, _⟩ := id hT
  have nT : ∀ j, (tf L j).lookup ("take" : Str) = none := fun j => tf_no _ _ (by decide +kernel) (by decide +kernel)
  have nS : ∀ j, (tf L j).lookup ("skip" : Str) = none := fun j => tf_no _ _ (by decide +kernel) (by decide +kernel)
  refine ⟨_, (pss_cons (ps_set (i := 1) sc_read_param.nd rfl (Or.inl rfl) (pe_meth (pv 0) T.cl_Tokens T.m_Tokens_skip (ok_Tokens_skip T) (hr.mono (by decide)) T.b_Tokens_skip .nil pass0 (pa_cons pe_str pa_nil)))
    (pss_one (ps_ret (pe_tup (pa_cons (pe_meth (pv 0) T.cl_Tokens T.m_Tokens_take (ok_Tokens_take T) (hr.mono (by decide)) T.b_Tokens_take .nil pass0 (pa_cons (pe_gs rfl T.g_NAME) pa_nil)) (pa_cons (pv 1) pa_nil)))))), ?_⟩
  match e, hok, he, q with
  | .par v false, _, he, q =>
    obtain ⟨pos, ht⟩ := he
    refine ⟨_, rfl, o, dx, _, rfl, ho, nS _, o, L, _, ts, i, _, rfl, hT, ht, fun z => absurd z nm_amp, fun _ => ?_⟩
    refine ⟨_, rfl, o, dx, _, rfl, ho, nT _, o, L, ts, i, _, rfl, hT, ht, fun H1 hT1 b1 => ⟨_, rfl, (by show 2 ≤ sizeLine; decide), fun p np => ?_⟩⟩
    exact q _ p ((Ext.but b1).trans (Ext.of (same_upd np))) (hT1.same (same_upd np)) upd_same
  | .par v true, _, he, q =>
    obtain ⟨⟨pa, posa, hta⟩, ⟨pos, ht⟩⟩ := he
    refine ⟨_, rfl, o, dx, _, rfl, ho, nS _, o, L, _, ts, i, _, rfl, hT, hta, fun _ H1 hT1 b1 => ?_, fun z => absurd rfl z⟩
    obtain ⟨dx1, as1, ho1, _⟩ := id hT1
    refine ⟨_, rfl, o, dx1, _, rfl, ho1, nT _, o, L, ts, i + 1, _, rfl, hT1, ht, fun H2 hT2 b2 => ⟨_, rfl, (by show 2 ≤ sizeLine; decide), fun p np => ?_⟩⟩
    exact q _ p (((Ext.but b1).trans (Ext.but b2)).trans (Ext.of (same_upd np))) (hT2.same (same_upd np)) upd_same
theorem sc_read_arg : FnScope ["tokens"] ["tokens"] (defScope s_read_arg) := ⟨rfl, rfl, rfl, by decide +kernel, rfl, by decide +kernel, by decide +kernel⟩
theorem ok_read_arg (T : Txt K mg a) : FnOk P w K mg base CX0 6 a.f_read_arg a.f_read_arg_d ["tokens"] (spEl a.c_Tokens isArg) := by
  refine T.F_read_arg.ok sc_read_arg (fun vs H Q E h => ?_) (fun cdv A outer s H vs Q E hr h => ?_)
  · obtain ⟨o, L, ts, i, e, rfl, _⟩ := h
    rfl
  obtain ⟨o, L, ts, i, e, rfl, hok, hT, he, q⟩ := h
  obtain ⟨dx, as, ho, _⟩ := id hT
  have nT : ∀ j, (tf L j).lookup ("take" : Str) = none := fun j => tf_no _ _ (by decide +kernel) (by decide +kernel)
  have nS : ∀ j, (tf L j).lookup ("skip" : Str) = none := fun j => tf_no _ _ (by decide +kernel) (by decide +kernel)
  refine ⟨_, (pss_cons (ps_if (pt_val (pe_meth (pv 0) T.cl_Tokens T.m_Tokens_skip (ok_Tokens_skip T) (hr.mono (by decide)) T.b_Tokens_skip .nil pass0 (pa_cons pe_str pa_nil)))
      (pss_one (ps_ret (pe_tup (pa_cons pe_str (pa_cons (pe_meth (pv 0) T.cl_Tokens T.m_Tokens_take (ok_Tokens_take T) (hr.mono (by decide)) T.b_Tokens_take .nil pass0 (pa_cons (pe_gs rfl T.g_NAME) pa_nil)) pa_nil)))))
      pss_nil)
    (pss_one (ps_ret (pe_tup (pa_cons pe_str (pa_cons (pe_call (ok_read_expression T) (hr.mono (by decide)) (by rfl) T.g_read_expression T.F_read_expression.kp T.b_read_expression .nil pass0 (pa_cons (pv 0) pa_nil)) pa_nil)))))), ?_⟩
  match e, hok, he, q with
  | .par _ _, hok, _, _ => cases hok
  | .pla v, _, he, q =>
    obtain ⟨⟨pa, posa, hta⟩, ⟨pos, ht⟩⟩ := he
    refine ⟨_, rfl, o, dx, _, rfl, ho, nS _, o, L, _, ts, i, _, rfl, hT, hta, fun _ H1 hT1 b1 => ⟨_, rfl, iteT ?_⟩, fun z => absurd rfl z⟩
    obtain ⟨dx1, as1, ho1, _⟩ := id hT1
    refine ⟨_, rfl, o, dx1, _, rfl, ho1, nT _, o, L, ts, i + 1, _, rfl, hT1, ht, fun H2 hT2 b2 => ⟨(by show 2 ≤ sizeLine; decide), fun p np => ?_⟩⟩
    exact q _ p (((Ext.but b1).trans (Ext.but b2)).trans (Ext.of (same_upd np))) (hT2.same (same_upd np)) upd_same
  | .val b t r, _, ⟨he, hrl⟩, q =>
    obtain ⟨k, p, ⟨pos, ht⟩, hk⟩ : ∃ k p, At ts i k p ∧ ¬ k = "&" := by
      unfold ExprAt at he
      cases b with
      | true =>
        rw [if_pos rfl] at he
        obtain ⟨⟨p, h⟩, _⟩ := he
        exact ⟨_, p, h, by decide +kernel⟩
      | false =>
        rw [if_neg (by decide)] at he
        obtain ⟨k, p, h, hk⟩ := he.1.kind
        rcases hk with rfl | rfl
        · exact ⟨_, p, h, by decide +kernel⟩
        · exact ⟨_, p, h, by decide +kernel⟩
    refine ⟨_, rfl, o, dx, _, rfl, ho, nS _, o, L, _, ts, i, _, rfl, hT, ht, fun z => absurd z hk, fun _ => ⟨_, rfl, iteF ?_⟩⟩
    refine ⟨_, rfl, o, L, ts, i, b, t, r, rfl, hT, he, hrl, fun H6 pe pt as ks ys x6 hT6 hpe hpt hR hperm hsort hnd hmem => ⟨(by show 2 ≤ sizeLine; decide), fun p np => ?_⟩⟩
    have sp := same_upd (o := .tup [.str "value", .ref pe]) np
    exact q _ p (x6.trans (Ext.of sp)) (hT6.same sp) ⟨pe, upd_same, pt, as, ks, ys, sp _ _ hpe, sp _ _ hpt, hR.same sp, hperm, hsort, hnd, hmem⟩
end
end K3
namespace K3
open PySem PySem.Spec PyProof.Rows L2 TL
/-! ### lists in brackets -/
def TailAt (ts : List Tok3) : Nat → List El → Prop
  | j, [] => ∃ p, At ts j ")" p
  | j, x :: r => (∃ p, At ts j "," p) ∧ ElAt ts (j + 1) x ∧ TailAt ts (endEl (j + 1) x) r
def endT : Nat → List El → Nat
  | j, [] => j + 1
  | j, x :: r => endT (endEl (j + 1) x) r
def ListedAt (ts : List Tok3) (i : Nat) : List El → Prop
  | [] => (∃ p, At ts i "(" p) ∧ ∃ p, At ts (i + 1) ")" p
  | x :: r => (∃ p, At ts i "(" p) ∧ ElAt ts (i + 1) x ∧ TailAt ts (endEl (i + 1) x) r
def endListed (i : Nat) : List El → Nat
  | [] => i + 2
  | x :: r => endT (endEl (i + 1) x) r
theorem sum_first {ts : List Tok3} {i : Nat} {b : Bool} {t : Tm3} {r : List Item} (he : ExprAt ts i b t r) : ∃ k p, At ts i k p ∧ (k = "-" ∨ k = "NAME" ∨ k = "NUMBER") := by
  unfold ExprAt at he
  cases b with
  | true =>
    rw [if_pos rfl] at he
    obtain ⟨⟨p, h⟩, _⟩ := he
    exact ⟨_, p, h, .inl rfl⟩
  | false =>
    rw [if_neg (by decide)] at he
    obtain ⟨k, p, h, hk⟩ := he.1.kind
    exact ⟨k, p, h, .inr hk⟩
theorem br_nm : ¬ ("NAME" : Str) = ")" := by decide +kernel
theorem br_nu : ¬ ("NUMBER" : Str) = ")" := by decide +kernel
theorem br_mi : ¬ ("-" : Str) = ")" := by decide +kernel
theorem br_am : ¬ ("&" : Str) = ")" := by decide +kernel
theorem br_co : ¬ (")" : Str) = "," := by decide +kernel
theorem el_first {ts : List Tok3} {i : Nat} : ∀ {e : El}, ElAt ts i e → ∃ k p, At ts i k p ∧ ¬ k = ")"
  | .par v false, h => ⟨_, _, h, br_nm⟩
  | .par v true, ⟨⟨p, h⟩, _⟩ => ⟨_, p, h, br_am⟩
  | .pla v, ⟨⟨p, h⟩, _⟩ => ⟨_, p, h, br_am⟩
  | .val b t r, ⟨h, _⟩ => by
    obtain ⟨k, p, h1, rfl | rfl | rfl⟩ := sum_first h
    · exact ⟨_, p, h1, br_mi⟩
    · exact ⟨_, p, h1, br_nm⟩
    · exact ⟨_, p, h1, br_nu⟩
def spListed (P : Program) (w : World) (K : PySem.W.Frag) (mg : Str → Option Value) (base : Heap) (C : Addr) : Sp := fun vs H Q _ => ∃ (o L f : Addr) (ok : El → Bool) (ts : List Tok3) (i : Nat) (es : List El), vs = [.ref o, .ref f] ∧ Held P w K mg base 6 f (spEl C ok) ∧ (∀ e ∈ es, ok e = true) ∧
  TkAt C H o L ts i ∧ es.length ≤ 1000 ∧ ListedAt ts i es ∧ ∀ H' p qs, Ext o H H' → TkAt C H' o L ts (endListed i es) → H' p = some (.tup (qs.map V.ref)) → ElsRep H' qs es → Q (.ref p) H'
section
variable {P : Program} {w : World} {K : PySem.W.Frag} {mg : Str → Option Value} {base : Heap} {a : Ads}
theorem sc_read_listed : FnScope ["tokens", "read_one", "found"] ["tokens", "read_one"] (defScope s_read_listed) := ⟨rfl, rfl, rfl, by decide +kernel, rfl, by decide +kernel, by decide +kernel⟩
theorem ok_read_listed (T : Txt K mg a) : FnOk P w K mg base CX0 7 a.f_read_listed a.f_read_listed_d ["tokens", "read_one"] (spListed P w K mg base a.c_Tokens) := by
  refine T.F_read_listed.ok sc_read_listed (fun vs H Q E h => ?_) (fun cdv A outer s H vs Q E hr h => ?_)
  · obtain ⟨o, L, f, ok, ts, i, es, rfl, _⟩ := h
    rfl
  obtain ⟨o, L, f, ok, ts, i, es, rfl, hH, hok, hT, hsz, hes, q⟩ := h
  obtain ⟨S, hSf, hS⟩ : ∃ S : Addr → Option Sp, S f = some (spEl a.c_Tokens ok) ∧ ∀ f' sp, S f' = some sp → Held P w K mg base 6 f' sp := ⟨fun f' => if f' = f then some (spEl a.c_Tokens ok) else none, if_pos rfl, fun f' sp e => by
    dsimp only at e
    by_cases h : f' = f
    · subst h
      rw [if_pos rfl] at e
      cases e
      exact hH
    · rw [if_neg h] at e
      cases e⟩
  obtain ⟨dx, as, ho, _⟩ := id hT
  have nT : ∀ j, (tf L j).lookup ("take" : Str) = none := fun j => tf_no _ _ (by decide +kernel) (by decide +kernel)
  have nS : ∀ j, (tf L j).lookup ("skip" : Str) = none := fun j => tf_no _ _ (by decide +kernel) (by decide +kernel)
  refine ⟨_, (pss_cons (ps_expr (pe_meth (pv 0) T.cl_Tokens T.m_Tokens_take (ok_Tokens_take T) (hr.mono (by decide)) T.b_Tokens_take .nil pass0 (pa_cons pe_str pa_nil)))
    (pss_cons (ps_if (pt_val (pe_meth (pv 0) T.cl_Tokens T.m_Tokens_skip (ok_Tokens_skip T) (hr.mono (by decide)) T.b_Tokens_skip .nil pass0 (pa_cons pe_str pa_nil)))
      (pss_one (ps_ret (pe_tup pa_nil)))
      pss_nil)
    (pss_cons (ps_set (i := 2) sc_read_listed.nd rfl (Or.inl rfl) (pe_lst (pa_cons (pe_callA (i := 1) (S := S) hS (hr.mono (by decide)) rfl (Or.inl rfl) (pa_cons (pv 0) pa_nil)) pa_nil)))
    (pss_cons (ps_while PassesOwn.never (pt_val (pe_meth (pv 0) T.cl_Tokens T.m_Tokens_skip (ok_Tokens_skip T) (hr.mono (by decide)) T.b_Tokens_skip .nil pass0 (pa_cons pe_str pa_nil)))
      (pss_one (ps_expr (pe_bm PySem.F.plainAttrs_list PySem.F.slot_list_append PySem.F.type_list_append mt_append (pv 2) (pa_cons (pe_callA (i := 1) (S := S) hS (hr.mono (by decide)) rfl (Or.inl rfl) (pa_cons (pv 0) pa_nil)) pa_nil)))))
    (pss_cons (ps_expr (pe_meth (pv 0) T.cl_Tokens T.m_Tokens_take (ok_Tokens_take T) (hr.mono (by decide)) T.b_Tokens_take .nil pass0 (pa_cons pe_str pa_nil)))
    (pss_one (ps_ret (pe_callTy call_tuple_of (by rfl) T.tuple (by decide +kernel) (pa_cons (pv 2) pa_nil))))))))), ?_⟩
  obtain ⟨p0, pos0, ht0⟩ : ∃ p, At ts i "(" p := by
    cases es with
    | nil => exact hes.1
    | cons x r => exact hes.1
  refine ⟨_, rfl, o, dx, _, rfl, ho, nT _, o, L, ts, i, _, rfl, hT, ht0, fun H1 hT1 b1 => ?_⟩
  obtain ⟨dx1, as1, ho1, _⟩ := id hT1
  cases es with
  | nil =>
    obtain ⟨_, p1, pos1, ht1⟩ := hes
    refine ⟨_, rfl, o, dx1, _, rfl, ho1, nS _, o, L, _, ts, i + 1, _, rfl, hT1, ht1, fun _ H2 hT2 b2 => ⟨_, rfl, iteT ?_⟩, fun z => absurd rfl z⟩
    refine ⟨(by show 0 ≤ sizeLine; decide), fun p np => ?_⟩
    exact q _ p [] (((Ext.but b1).trans (Ext.but b2)).trans (Ext.of (same_upd np))) (hT2.same (same_upd np)) upd_same trivial
  | cons x r =>
    obtain ⟨_, hx, hr0⟩ := hes
    obtain ⟨k, p1, ⟨pos1, ht1⟩, hk⟩ := el_first hx
    refine ⟨_, rfl, o, dx1, _, rfl, ho1, nS _, o, L, _, ts, i + 1, _, rfl, hT1, ht1, fun z => absurd z hk, fun _ => ⟨_, rfl, iteF ?_⟩⟩
    refine ⟨f, _, rfl, hSf, _, rfl, o, L, ts, i + 1, x, rfl, hok x List.mem_cons_self, hT1, hx, fun H2 q1 x2 hT2 hq1 => ⟨(by show 1 ≤ sizeLine; decide), fun N nN => ?_⟩⟩
    have hNoL := hT2.no nN
    have x12 : Ext o H H2 := (Ext.but b1).trans x2
    have nN0 : H N = none := x12.free nN hNoL.1
    have sN := same_upd (o := .lst [.ref q1]) nN
    obtain ⟨dx2, as2, ho2, _⟩ := id hT2
    dsimp only [gName]
    refine st_seq ⟨fun m σ H' => ∃ (j : Nat) (dn rest : List El) (qs : List Addr), σ = [some (.ref o), some (.ref f), some (.ref N)] ∧ Ext o H H' ∧ TkAt a.c_Tokens H' o L ts j ∧ x :: r = dn ++ rest ∧ TailAt ts j rest ∧ endT j rest = endT (endEl (i + 1) x) r ∧ m = rest.length ∧ H' N = some (.lst (qs.map V.ref)) ∧ ElsRep H' qs dn,
      ⟨r.length, endEl (i + 1) x, [x], r, [q1], rfl, x12.trans (Ext.of sN), hT2.same sN, rfl, hr0, rfl, rfl, upd_same, (hq1.ext (Ext.of sN) (NT.of ho2 (fun _ z => by cases z))), trivial⟩, ?_⟩
    rintro m σ H' ⟨j, dn, rest, qs, rfl, x3, hT3, hall, htail, hend, rfl, hN, hR⟩
    obtain ⟨dx3, as3, ho3, _⟩ := id hT3
    have hqn := hR.len
    have hdn : dn.length ≤ 1000 := by
      have := congrArg List.length hall
      rw [List.length_append] at this
      omega
    cases rest with
    | cons y r' =>
      obtain ⟨⟨pc, posc, htc⟩, hy, htail'⟩ := htail
      refine ⟨_, rfl, o, dx3, _, rfl, ho3, nS _, o, L, _, ts, j, _, rfl, hT3, htc, fun _ H4 hT4 b4 => ⟨_, rfl, iteT ?_⟩, fun e => absurd rfl e⟩
      refine ⟨_, fun σ' H' h => h, ?_⟩
      have hN4 : H4 N = some (.lst (qs.map V.ref)) := by rw [b4 N hNoL.1]; exact hN
      refine ⟨_, rfl, .inl ⟨rfl, _, SqL.of hN4⟩, f, _, rfl, hSf, _, rfl, o, L, ts, j + 1, y, rfl, hok y (by rw [hall]; exact List.mem_append_right _ List.mem_cons_self), hT4, hy, fun H5 q5 x5 hT5 hq5 => ?_⟩
      have hN5 : H5 N = some (.lst (qs.map V.ref)) := x5 _ _ hN4 hNoL.1
      have nt3 : NT H' o := NT.of ho3 (fun _ z => by cases z)
      have hR5 := hR.ext ((Ext.but b4).trans x5) nt3
      have ntN : NT H5 N := NT.of hN5 (fun _ z => by cases z)
      refine ⟨N, _, _, rfl, rfl, hN5, ?_, r'.length, by rw [List.length_cons]; omega, endEl (j + 1) y, dn ++ [y], r', qs ++ [q5], rfl, ((x3.trans (Ext.but b4)).trans x5).mut nN0, hT5.off hN5 (fun _ z => by cases z) (fun _ _ _ z => by cases z) hNoL.2, by rw [hall, List.append_assoc]; rfl, htail', hend, rfl, ?_, ?_⟩
      · rw [List.length_map]
        exact bigLine (by omega)
      · rw [upd_same, List.map_append]
        rfl
      · exact (ElsRep.app hq5 hR5).ext (ext_upd H5 N _) ntN
    | nil =>
      obtain ⟨pc, posc, htc⟩ := htail
      refine ⟨_, rfl, o, dx3, _, rfl, ho3, nS _, o, L, _, ts, j, _, rfl, hT3, htc, fun e => absurd e br_co, fun _ => ⟨_, rfl, iteF ?_⟩⟩
      refine ⟨_, rfl, o, dx3, _, rfl, ho3, nT _, o, L, ts, j, _, rfl, hT3, htc, fun H4 hT4 b4 => ?_⟩
      have hN4 : H4 N = some (.lst (qs.map V.ref)) := by rw [b4 N hNoL.1]; exact hN
      have nt3 : NT H' o := NT.of ho3 (fun _ z => by cases z)
      have hR4 := hR.ext (Ext.but b4) nt3
      obtain ⟨dx4, as4, ho4, _⟩ := id hT4
      refine ⟨_, rfl, N, _, rfl, .inl ⟨SqL.of hN4, fun p np => ?_⟩⟩
      have sp := same_upd (o := .tup (qs.map V.ref)) np
      rw [List.append_nil] at hall
      rw [hall] at q
      refine q _ p qs ((x3.trans (Ext.but b4)).trans (Ext.of sp)) ?_ upd_same (hR4.ext (Ext.of sp) (NT.of ho4 (fun _ z => by cases z)))
      have he : endListed i dn = j + 1 := by
        rw [← hall]
        exact hend.symm
      rw [he]
      exact hT4.same sp
end
end K3
namespace K3
open PySem PySem.Spec PyProof.Rows L2 TL
/-! ### calls, and statements without blocks -/
def CallRep (H : Hp) (q : Addr) (v : Str) (es : List El) : Prop := ∃ (p : Addr) (qs : List Addr), H q = some (.tup [.str v, .ref p]) ∧ H p = some (.tup (qs.map V.ref)) ∧ ElsRep H qs es
structure CallAt (ts : List Tok3) (i : Nat) (v : Str) (es : List El) : Prop where
  nm : At ts i "NAME" v
  ls : ListedAt ts (i + 1) es
  ok : ∀ e ∈ es, isArg e = true
  sz : es.length ≤ 1000
theorem CallAt.op {ts : List Tok3} {i : Nat} {v : Str} {es : List El} (h : CallAt ts i v es) : ∃ p, At ts (i + 1) "(" p := by
  have := h.ls
  cases es with
  | nil => exact this.1
  | cons x r => exact this.1
def spCall (C : Addr) : Sp := fun vs H Q _ => ∃ (o L : Addr) (ts : List Tok3) (i : Nat) (v : Str) (es : List El), vs = [.ref o] ∧ TkAt C H o L ts i ∧ CallAt ts i v es ∧
  ∀ H' q, Ext o H H' → TkAt C H' o L ts (endListed (i + 1) es) → CallRep H' q v es → Q (.ref q) H'
/-- statements without blocks -/
inductive Pl where
  | set (v : Str) (b : Bool) (t : Tm3) (r : List Item)
  | inp (v : Str)
  | call (tg : Option Str) (f : Str) (es : List El)
  | risk (ks : List Str)
  | rse (k : Str)
  | ret (b : Bool) (t : Tm3) (r : List Item)
def PlRep (H : Hp) (q : Addr) : Pl → Prop
  | .set v b t r => ∃ pe, H q = some (.tup [.str "set", .str v, .ref pe]) ∧ SumAt H pe ((b, t) :: r)
  | .inp v => H q = some (.tup [.str "input", .str v])
  | .call tg f es => ∃ (p : Addr) (qs : List Addr), H q = some (.tup [.str "call", nameV tg, .str f, .ref p]) ∧ H p = some (.tup (qs.map V.ref)) ∧ ElsRep H qs es
  | .risk ks => ∃ p, H q = some (.tup [.str "risk", .ref p]) ∧ H p = some (.tup (ks.map V.str))
  | .rse k => H q = some (.tup [.str "raise", .str k])
  | .ret b t r => ∃ pe, H q = some (.tup [.str "return", .ref pe]) ∧ SumAt H pe ((b, t) :: r)
def spCallTo (C : Addr) : Sp := fun vs H Q _ => ∃ (o L : Addr) (ts : List Tok3) (i : Nat) (tg : Option Str) (v : Str) (es : List El), vs = [.ref o, nameV tg] ∧ TkAt C H o L ts i ∧ CallAt ts i v es ∧
  ∀ H' q, Ext o H H' → TkAt C H' o L ts (endListed (i + 1) es) → PlRep H' q (.call tg v es) → Q (.ref q) H'
/-- what stands behind the word of such a statement -/
def RestPl (ts : List Tok3) (i : Nat) : Pl → Prop
  | .risk ks => NamesAt ts i ks
  | .rse k => At ts i "NAME" k
  | .ret b t r => ExprAt ts i b t r ∧ r.length < 60
  | _ => False
def endPl (i : Nat) : Pl → Nat
  | .risk ks => i + 2 * ks.length - 1
  | .rse _ => i + 1
  | .ret b t r => endE i b t r
  | _ => i
def isRisk : Pl → Bool
  | .risk _ => true
  | _ => false
def isRse : Pl → Bool
  | .rse _ => true
  | _ => false
def isRet : Pl → Bool
  | .ret _ _ _ => true
  | _ => false
def spPl (C : Addr) (ok : Pl → Bool) : Sp := fun vs H Q _ => ∃ (o L : Addr) (ts : List Tok3) (i : Nat) (e : Pl), vs = [.ref o] ∧ ok e = true ∧ TkAt C H o L ts i ∧ RestPl ts i e ∧
  ∀ H' q, Ext o H H' → TkAt C H' o L ts (endPl i e) → PlRep H' q e → Q (.ref q) H'
/-- a statement that begins with a name -/
def NamedAt (ts : List Tok3) (i : Nat) : Pl → Prop
  | .set v b t r => At ts i "NAME" v ∧ At ts (i + 1) "=" "=" ∧ ExprAt ts (i + 2) b t r ∧ r.length < 60 ∧ ∃ k p, At ts (i + 3) k p ∧ ¬ k = "("
  | .inp v => At ts i "NAME" v ∧ At ts (i + 1) "=" "=" ∧ At ts (i + 2) "?" "?"
  | .call none f es => CallAt ts i f es
  | .call (some v) f es => At ts i "NAME" v ∧ At ts (i + 1) "=" "=" ∧ CallAt ts (i + 2) f es
  | _ => False
def endNamed (i : Nat) : Pl → Nat
  | .set v b t r => endE (i + 2) b t r
  | .inp v => i + 3
  | .call none f es => endListed (i + 1) es
  | .call (some v) f es => endListed (i + 3) es
  | _ => i
def spNamed (C : Addr) : Sp := fun vs H Q _ => ∃ (o L : Addr) (ts : List Tok3) (i : Nat) (e : Pl), vs = [.ref o] ∧ TkAt C H o L ts i ∧ NamedAt ts i e ∧
  ∀ H' q, Ext o H H' → TkAt C H' o L ts (endNamed i e) → PlRep H' q e → Q (.ref q) H'
theorem eq_br : ¬ ("=" : Str) = "(" := by decide +kernel
theorem qu_nm : ¬ ("NAME" : Str) = "?" := by decide +kernel
theorem qu_nu : ¬ ("NUMBER" : Str) = "?" := by decide +kernel
theorem qu_mi : ¬ ("-" : Str) = "?" := by decide +kernel
theorem mi_nm : ¬ ("-" : Str) = "NAME" := by decide +kernel
section
variable {P : Program} {w : World} {K : PySem.W.Frag} {mg : Str → Option Value} {base : Heap} {a : Ads}
theorem sc_read_call : FnScope ["tokens", "name"] ["tokens"] (defScope s_read_call) := ⟨rfl, rfl, rfl, by decide +kernel, rfl, by decide +kernel, by decide +kernel⟩
theorem ok_read_call (T : Txt K mg a) : FnOk P w K mg base CX0 8 a.f_read_call a.f_read_call_d ["tokens"] (spCall a.c_Tokens) := by
  refine T.F_read_call.ok sc_read_call (fun vs H Q E h => ?_) (fun cdv A outer s H vs Q E hr h => ?_)
  · obtain ⟨o, L, ts, i, v, es, rfl, _⟩ := h
    rfl
  obtain ⟨o, L, ts, i, v, es, rfl, hT, ⟨⟨pos, ht⟩, hes, hok, hsz⟩, q⟩ := h
  obtain ⟨dx, as, ho, _⟩ := id hT
  have nT : ∀ j, (tf L j).lookup ("take" : Str) = none := fun j => tf_no _ _ (by decide +kernel) (by decide +kernel)
  refine ⟨_, (pss_cons (ps_set (i := 1) sc_read_call.nd rfl (Or.inl rfl) (pe_meth (pv 0) T.cl_Tokens T.m_Tokens_take (ok_Tokens_take T) (hr.mono (by decide)) T.b_Tokens_take .nil pass0 (pa_cons (pe_gs rfl T.g_NAME) pa_nil)))
    (pss_one (ps_ret (pe_tup (pa_cons (pv 1) (pa_cons (pe_call (ok_read_listed T) (hr.mono (by decide)) (by rfl) T.g_read_listed T.F_read_listed.kp T.b_read_listed .nil pass0 (pa_cons (pv 0) (pa_cons (pe_gr rfl T.g_read_arg) pa_nil))) pa_nil)))))), ?_⟩
  refine ⟨_, rfl, o, dx, _, rfl, ho, nT _, o, L, ts, i, _, rfl, hT, ht, fun H1 hT1 b1 => ?_⟩
  refine ⟨_, rfl, _, rfl, o, L, a.f_read_arg, isArg, ts, i + 1, es, rfl, ⟨_, _, ok_read_arg T, T.F_read_arg.kp, T.b_read_arg⟩, hok, hT1, hsz, hes, fun H2 p2 qs x2 hT2 hp2 hq2 => ⟨(by show 2 ≤ sizeLine; decide), fun p np => ?_⟩⟩
  have sp := same_upd (o := .tup [.str v, .ref p2]) np
  obtain ⟨dx2, as2, ho2, _⟩ := id hT2
  exact q _ p (((Ext.but b1).trans x2).trans (Ext.of sp)) (hT2.same sp) ⟨p2, qs, upd_same, sp _ _ hp2, hq2.ext (Ext.of sp) (NT.of ho2 (fun _ z => by cases z))⟩
theorem sc_read_call_to : FnScope ["tokens", "target", "name", "args"] ["tokens", "target"] (defScope s_read_call_to) := ⟨rfl, rfl, rfl, by decide +kernel, rfl, by decide +kernel, by decide +kernel⟩
theorem ok_read_call_to (T : Txt K mg a) : FnOk P w K mg base CX0 9 a.f_read_call_to a.f_read_call_to_d ["tokens", "target"] (spCallTo a.c_Tokens) := by
  refine T.F_read_call_to.ok sc_read_call_to (fun vs H Q E h => ?_) (fun cdv A outer s H vs Q E hr h => ?_)
  · obtain ⟨o, L, ts, i, tg, v, es, rfl, _⟩ := h
    rfl
  obtain ⟨o, L, ts, i, tg, v, es, rfl, hT, hc, q⟩ := h
  refine ⟨_, (pss_cons (ps_asg (pe_call (ok_read_call T) (hr.mono (by decide)) (by rfl) T.g_read_call T.F_read_call.kp T.b_read_call .nil pass0 (pa_cons (pv 0) pa_nil)) (pg_tup (by rfl) (pgs_cons (pg_name (i := 2) sc_read_call_to.nd rfl (Or.inl rfl)) (pgs_cons (pg_name (i := 3) sc_read_call_to.nd rfl (Or.inl rfl)) pgs_nil))))
    (pss_one (ps_ret (pe_tup (pa_cons pe_str (pa_cons (pv 1) (pa_cons (pv 2) (pa_cons (pv 3) pa_nil)))))))), ?_⟩
  refine ⟨_, rfl, o, L, ts, i, v, es, rfl, hT, hc, fun H1 q1 x1 hT1 ⟨p1, qs, h1, h2, h3⟩ => ?_⟩
  refine ⟨q1, _, rfl, .inl (.inl h1), rfl, .str v, [.ref p1], rfl, .ref p1, [], rfl, rfl, ?_⟩
  refine ⟨_, rfl, _, rfl, _, rfl, (by show 4 ≤ sizeLine; decide), fun p np => ?_⟩
  have sp := same_upd (o := .tup [.str "call", nameV tg, .str v, .ref p1]) np
  obtain ⟨dx1, as1, ho1, _⟩ := id hT1
  exact q _ p (x1.trans (Ext.of sp)) (hT1.same sp) ⟨p1, qs, upd_same, sp _ _ h2, h3.ext (Ext.of sp) (NT.of ho1 (fun _ z => by cases z))⟩
theorem sc_read_risk : FnScope ["tokens"] ["tokens"] (defScope s_read_risk) := ⟨rfl, rfl, rfl, by decide +kernel, rfl, by decide +kernel, by decide +kernel⟩
theorem ok_read_risk (T : Txt K mg a) : FnOk P w K mg base CX0 6 a.f_read_risk a.f_read_risk_d ["tokens"] (spPl a.c_Tokens isRisk) := by
  refine T.F_read_risk.ok sc_read_risk (fun vs H Q E h => ?_) (fun cdv A outer s H vs Q E hr h => ?_)
  · obtain ⟨o, L, ts, i, e, rfl, _⟩ := h
    rfl
  obtain ⟨o, L, ts, i, e, rfl, hok, hT, he, q⟩ := h
  refine ⟨_, (pss_one (ps_ret (pe_tup (pa_cons pe_str (pa_cons (pe_call (ok_read_names T) (hr.mono (by decide)) (by rfl) T.g_read_names T.F_read_names.kp T.b_read_names .nil pass0 (pa_cons (pv 0) pa_nil)) pa_nil))))), ?_⟩
  match e, hok, he, q with
  | .risk ks, _, he, q =>
    refine ⟨_, rfl, o, L, ts, i, ks, rfl, hT, he, fun H1 p1 x1 hT1 h1 => ⟨(by show 2 ≤ sizeLine; decide), fun p np => ?_⟩⟩
    have sp := same_upd (o := .tup [.str "risk", .ref p1]) np
    exact q _ p (x1.trans (Ext.of sp)) (hT1.same sp) ⟨p1, upd_same, sp _ _ h1⟩
theorem sc_read_raise : FnScope ["tokens"] ["tokens"] (defScope s_read_raise) := ⟨rfl, rfl, rfl, by decide +kernel, rfl, by decide +kernel, by decide +kernel⟩
theorem ok_read_raise (T : Txt K mg a) : FnOk P w K mg base CX0 6 a.f_read_raise a.f_read_raise_d ["tokens"] (spPl a.c_Tokens isRse) := by
  refine T.F_read_raise.ok sc_read_raise (fun vs H Q E h => ?_) (fun cdv A outer s H vs Q E hr h => ?_)
  · obtain ⟨o, L, ts, i, e, rfl, _⟩ := h
    rfl
  obtain ⟨o, L, ts, i, e, rfl, hok, hT, he, q⟩ := h
  obtain ⟨dx, as, ho, _⟩ := id hT
  have nT : ∀ j, (tf L j).lookup ("take" : Str) = none := fun j => tf_no _ _ (by decide +kernel) (by decide +kernel)
  refine ⟨_, (pss_one (ps_ret (pe_tup (pa_cons pe_str (pa_cons (pe_meth (pv 0) T.cl_Tokens T.m_Tokens_take (ok_Tokens_take T) (hr.mono (by decide)) T.b_Tokens_take .nil pass0 (pa_cons (pe_gs rfl T.g_NAME) pa_nil)) pa_nil))))), ?_⟩
  match e, hok, he, q with
  | .rse k, _, ⟨pos, ht⟩, q =>
    refine ⟨_, rfl, o, dx, _, rfl, ho, nT _, o, L, ts, i, _, rfl, hT, ht, fun H1 hT1 b1 => ⟨(by show 2 ≤ sizeLine; decide), fun p np => ?_⟩⟩
    exact q _ p ((Ext.but b1).trans (Ext.of (same_upd np))) (hT1.same (same_upd np)) upd_same
theorem sc_read_return : FnScope ["tokens"] ["tokens"] (defScope s_read_return) := ⟨rfl, rfl, rfl, by decide +kernel, rfl, by decide +kernel, by decide +kernel⟩
theorem ok_read_return (T : Txt K mg a) : FnOk P w K mg base CX0 6 a.f_read_return a.f_read_return_d ["tokens"] (spPl a.c_Tokens isRet) := by
  refine T.F_read_return.ok sc_read_return (fun vs H Q E h => ?_) (fun cdv A outer s H vs Q E hr h => ?_)
  · obtain ⟨o, L, ts, i, e, rfl, _⟩ := h
    rfl
  obtain ⟨o, L, ts, i, e, rfl, hok, hT, he, q⟩ := h
  refine ⟨_, (pss_one (ps_ret (pe_tup (pa_cons pe_str (pa_cons (pe_call (ok_read_expression T) (hr.mono (by decide)) (by rfl) T.g_read_expression T.F_read_expression.kp T.b_read_expression .nil pass0 (pa_cons (pv 0) pa_nil)) pa_nil))))), ?_⟩
  match e, hok, he, q with
  | .ret b t r, _, ⟨he, hrl⟩, q =>
    refine ⟨_, rfl, o, L, ts, i, b, t, r, rfl, hT, he, hrl, fun H6 pe pt as ks ys x6 hT6 hpe hpt hR hperm hsort hnd hmem => ⟨(by show 2 ≤ sizeLine; decide), fun p np => ?_⟩⟩
    have sp := same_upd (o := .tup [.str "return", .ref pe]) np
    exact q _ p (x6.trans (Ext.of sp)) (hT6.same sp) ⟨pe, upd_same, pt, as, ks, ys, sp _ _ hpe, sp _ _ hpt, hR.same sp, hperm, hsort, hnd, hmem⟩
end
end K3
namespace K3
open PySem PySem.Spec PyProof.Rows L2 TL
theorem sum_not_qu {k : Str} (h : k = "-" ∨ k = "NAME" ∨ k = "NUMBER") : ¬ k = "?" := by
  rcases h with rfl | rfl | rfl
  · exact qu_mi
  · exact qu_nm
  · exact qu_nu
section
variable {P : Program} {w : World} {K : PySem.W.Frag} {mg : Str → Option Value} {base : Heap} {a : Ads}
theorem ahead1 (T : Txt K mg a) : ∃ ds, Vals [] ds ∧ Binds K a.f_Tokens_kind_ahead_d ["self", "further"] ds :=
  T.F_Tokens_kind_ahead.binds1 (ps := ["self", "further"]) 2 1 (by simp) rfl (fun _ _ _ _ _ _ _ us its hu hi => match us, hu, its, hi with | [_, _], _, [_], _ => ⟨_, rfl, rfl⟩)
theorem sc_read_named : FnScope ["tokens", "target"] ["tokens"] (defScope s_read_named) := ⟨rfl, rfl, rfl, by decide +kernel, rfl, by decide +kernel, by decide +kernel⟩
theorem ok_read_named (T : Txt K mg a) : FnOk P w K mg base CX0 10 a.f_read_named a.f_read_named_d ["tokens"] (spNamed a.c_Tokens) := by
  refine T.F_read_named.ok sc_read_named (fun vs H Q E h => ?_) (fun cdv A outer s H vs Q E hr h => ?_)
  · obtain ⟨o, L, ts, i, e, rfl, _⟩ := h
    rfl
  obtain ⟨o, L, ts, i, e, rfl, hT, he, q⟩ := h
  obtain ⟨dx, as, ho, _⟩ := id hT
  have nT : ∀ j, (tf L j).lookup ("take" : Str) = none := fun j => tf_no _ _ (by decide +kernel) (by decide +kernel)
  have nS : ∀ j, (tf L j).lookup ("skip" : Str) = none := fun j => tf_no _ _ (by decide +kernel) (by decide +kernel)
  have nA : ∀ j, (tf L j).lookup ("kind_ahead" : Str) = none := fun j => tf_no _ _ (by decide +kernel) (by decide +kernel)
  obtain ⟨ds_Tokens_kind_ahead, v_Tokens_kind_ahead, b_Tokens_kind_ahead⟩ := T.b_Tokens_kind_ahead
  obtain ⟨dsA1, vA1, bA1⟩ := ahead1 T
  refine ⟨_, (pss_cons (ps_if (pt_cmpR op_eq (pe_meth (pv 0) T.cl_Tokens T.m_Tokens_kind_ahead (ok_Tokens_kind_ahead T) (hr.mono (by decide)) bA1 vA1 pass0 (pa_cons pe_int pa_nil)) pe_str (nomark _))
      (pss_one (ps_ret (pe_call (ok_read_call_to T) (hr.mono (by decide)) (by rfl) T.g_read_call_to T.F_read_call_to.kp T.b_read_call_to .nil pass0 (pa_cons (pv 0) (pa_cons pe_non pa_nil)))))
      pss_nil)
    (pss_cons (ps_set (i := 1) sc_read_named.nd rfl (Or.inl rfl) (pe_meth (pv 0) T.cl_Tokens T.m_Tokens_take (ok_Tokens_take T) (hr.mono (by decide)) T.b_Tokens_take .nil pass0 (pa_cons (pe_gs rfl T.g_NAME) pa_nil)))
    (pss_cons (ps_expr (pe_meth (pv 0) T.cl_Tokens T.m_Tokens_take (ok_Tokens_take T) (hr.mono (by decide)) T.b_Tokens_take .nil pass0 (pa_cons pe_str pa_nil)))
    (pss_cons (ps_if (pt_val (pe_meth (pv 0) T.cl_Tokens T.m_Tokens_skip (ok_Tokens_skip T) (hr.mono (by decide)) T.b_Tokens_skip .nil pass0 (pa_cons pe_str pa_nil)))
      (pss_one (ps_ret (pe_tup (pa_cons pe_str (pa_cons (pv 1) pa_nil)))))
      pss_nil)
    (pss_cons (ps_if (PW.pt (pw_and (pt_cmpR op_eq (pe_meth0 (pv 0) T.cl_Tokens T.m_Tokens_kind_ahead (ok_Tokens_kind_ahead T) (hr.mono (by decide)) b_Tokens_kind_ahead v_Tokens_kind_ahead pass0) (pe_gs rfl T.g_NAME) (nomark _)) (pw_and1 (pt_cmpR op_eq (pe_meth (pv 0) T.cl_Tokens T.m_Tokens_kind_ahead (ok_Tokens_kind_ahead T) (hr.mono (by decide)) bA1 vA1 pass0 (pa_cons pe_int pa_nil)) pe_str (nomark _)))))
      (pss_one (ps_ret (pe_call (ok_read_call_to T) (hr.mono (by decide)) (by rfl) T.g_read_call_to T.F_read_call_to.kp T.b_read_call_to .nil pass0 (pa_cons (pv 0) (pa_cons (pv 1) pa_nil)))))
      pss_nil)
    (pss_one (ps_ret (pe_tup (pa_cons pe_str (pa_cons (pv 1) (pa_cons (pe_call (ok_read_expression T) (hr.mono (by decide)) (by rfl) T.g_read_expression T.F_read_expression.kp T.b_read_expression .nil pass0 (pa_cons (pv 0) pa_nil)) pa_nil))))))))))), ?_⟩
  match e, he, q with
  | .call none f es, he, q =>
    obtain ⟨pb, posb, htb⟩ := he.op
    refine st_seq (st_yes (fun Q q => ⟨_, rfl, o, dx, _, rfl, ho, nA _, o, L, 1, ts, i, _, rfl, hT, htb, rfl, _, rfl, (by rw [decide_eq_true rfl]; exact q)⟩) ?_)
    exact ⟨_, rfl, o, L, ts, i, none, f, es, rfl, hT, he, fun H' q1 x1 hT1 h1 => q H' q1 x1 hT1 h1⟩
  | .call (some v) f es, ⟨⟨pos, ht⟩, ⟨pose, hte⟩, hc⟩, q =>
    refine st_seq (st_no (fun Q q => ⟨_, rfl, o, dx, _, rfl, ho, nA _, o, L, 1, ts, i, _, rfl, hT, hte, rfl, _, rfl, (by rw [decide_eq_false (fun z => eq_br (V.str.inj z))]; exact q)⟩) ?_)
    dsimp only [tNext]
    refine ⟨_, rfl, o, dx, _, rfl, ho, nT _, o, L, ts, i, _, rfl, hT, ht, fun H1 hT1 b1 => ?_⟩
    obtain ⟨dx1, as1, ho1, _⟩ := id hT1
    dsimp only [gName]
    refine ⟨_, rfl, o, dx1, _, rfl, ho1, nT _, o, L, ts, i + 1, _, rfl, hT1, hte, fun H2 hT2 b2 => ?_⟩
    obtain ⟨dx2, as2, ho2, _⟩ := id hT2
    obtain ⟨posn, htn⟩ := id hc.nm
    obtain ⟨pb, posb, htb⟩ := hc.op
    refine ⟨_, rfl, o, dx2, _, rfl, ho2, nS _, o, L, _, ts, i + 2, _, rfl, hT2, htn, fun z => absurd z qu_nm, fun _ => ⟨_, rfl, iteF ?_⟩⟩
    dsimp only [tNext]
    refine st_seq (st_yes (ans_and (fun Q q => ⟨_, rfl, o, dx2, _, rfl, ho2, nA _, o, L, 0, ts, i + 2, _, rfl, hT2, htn, rfl, _, rfl, (by rw [decide_eq_true rfl]; exact q)⟩) (fun Q q => ⟨_, rfl, o, dx2, _, rfl, ho2, nA _, o, L, 1, ts, i + 2, _, rfl, hT2, htb, rfl, _, rfl, (by rw [decide_eq_true rfl]; exact q)⟩)) ?_)
    exact ⟨_, rfl, _, rfl, o, L, ts, i + 2, some v, f, es, rfl, hT2, hc, fun H' q1 x1 hT3 h1 => q H' q1 (((Ext.but b1).trans (Ext.but b2)).trans x1) hT3 h1⟩
  | .inp v, ⟨⟨pos, ht⟩, ⟨pose, hte⟩, ⟨posq, htq⟩⟩, q =>
    refine st_seq (st_no (fun Q q => ⟨_, rfl, o, dx, _, rfl, ho, nA _, o, L, 1, ts, i, _, rfl, hT, hte, rfl, _, rfl, (by rw [decide_eq_false (fun z => eq_br (V.str.inj z))]; exact q)⟩) ?_)
    dsimp only [tNext]
    refine ⟨_, rfl, o, dx, _, rfl, ho, nT _, o, L, ts, i, _, rfl, hT, ht, fun H1 hT1 b1 => ?_⟩
    obtain ⟨dx1, as1, ho1, _⟩ := id hT1
    dsimp only [gName]
    refine ⟨_, rfl, o, dx1, _, rfl, ho1, nT _, o, L, ts, i + 1, _, rfl, hT1, hte, fun H2 hT2 b2 => ?_⟩
    obtain ⟨dx2, as2, ho2, _⟩ := id hT2
    refine ⟨_, rfl, o, dx2, _, rfl, ho2, nS _, o, L, _, ts, i + 2, _, rfl, hT2, htq, fun _ H3 hT3 b3 => ⟨_, rfl, iteT ?_⟩, fun z => absurd rfl z⟩
    refine ⟨_, rfl, (by show 2 ≤ sizeLine; decide), fun p np => ?_⟩
    exact q _ p ((((Ext.but b1).trans (Ext.but b2)).trans (Ext.but b3)).trans (Ext.of (same_upd np))) (hT3.same (same_upd np)) upd_same
  | .set v b t r, ⟨⟨pos, ht⟩, ⟨pose, hte⟩, hx, hrl, k3, p3, ⟨pos3, ht3⟩, hk3⟩, q =>
    refine st_seq (st_no (fun Q q => ⟨_, rfl, o, dx, _, rfl, ho, nA _, o, L, 1, ts, i, _, rfl, hT, hte, rfl, _, rfl, (by rw [decide_eq_false (fun z => eq_br (V.str.inj z))]; exact q)⟩) ?_)
    dsimp only [tNext]
    refine ⟨_, rfl, o, dx, _, rfl, ho, nT _, o, L, ts, i, _, rfl, hT, ht, fun H1 hT1 b1 => ?_⟩
    obtain ⟨dx1, as1, ho1, _⟩ := id hT1
    dsimp only [gName]
    refine ⟨_, rfl, o, dx1, _, rfl, ho1, nT _, o, L, ts, i + 1, _, rfl, hT1, hte, fun H2 hT2 b2 => ?_⟩
    obtain ⟨dx2, as2, ho2, _⟩ := id hT2
    obtain ⟨k, p2, ⟨pos2, ht2⟩, hk⟩ := sum_first hx
    refine ⟨_, rfl, o, dx2, _, rfl, ho2, nS _, o, L, _, ts, i + 2, _, rfl, hT2, ht2, fun z => absurd z (sum_not_qu hk), fun _ => ⟨_, rfl, iteF ?_⟩⟩
    dsimp only [tNext]
    refine st_seq (st_no ?_ ?_)
    · by_cases hkn : decide (V.str k = V.str "NAME") = true
      · exact ans_and (fun Q q => ⟨_, rfl, o, dx2, _, rfl, ho2, nA _, o, L, 0, ts, i + 2, _, rfl, hT2, ht2, rfl, _, rfl, (by rw [hkn]; exact q)⟩) (fun Q q => ⟨_, rfl, o, dx2, _, rfl, ho2, nA _, o, L, 1, ts, i + 2, _, rfl, hT2, ht3, rfl, _, rfl, (by rw [decide_eq_false (fun z => hk3 (V.str.inj z))]; exact q)⟩)
      · exact ans_and0 (fun Q q => ⟨_, rfl, o, dx2, _, rfl, ho2, nA _, o, L, 0, ts, i + 2, _, rfl, hT2, ht2, rfl, _, rfl, (by rw [Bool.eq_false_iff.mpr hkn]; exact q)⟩)
    dsimp only [tNext]
    refine ⟨_, rfl, _, rfl, o, L, ts, i + 2, b, t, r, rfl, hT2, hx, hrl, fun H6 pe pt as ks ys x6 hT6 hpe hpt hR hperm hsort hnd hmem => ⟨(by show 3 ≤ sizeLine; decide), fun p np => ?_⟩⟩
    have sp := same_upd (o := .tup [.str "set", .str v, .ref pe]) np
    exact q _ p ((((Ext.but b1).trans (Ext.but b2)).trans x6).trans (Ext.of sp)) (hT6.same sp) ⟨pe, upd_same, pt, as, ks, ys, sp _ _ hpe, sp _ _ hpt, hR.same sp, hperm, hsort, hnd, hmem⟩
end
end K3
namespace K3
open PySem PySem.Spec PyProof.Rows L2 TL
/-! ### statements with blocks -/
mutual
inductive Stm where
  | pl (e : Pl)
  | iff (x : Blk) (w : Bool) (y : Blk)
  | whl (x : Blk)
  | undo (vs : List Str) (x : Blk)
  | tr (x : Blk) (hs : Hds) (w : Bool) (y : Blk)
  | wth (f : Str) (es : List El) (g : Str) (fs : List El) (w : Bool) (ks : List Str) (x : Blk)
inductive Blk where
  | nil
  | cons (s : Stm) (r : Blk)
inductive Hds where
  | nil
  | cons (ks : List Str) (x : Blk) (r : Hds)
end
def Blk.len : Blk → Nat
  | .nil => 0
  | .cons _ r => r.len + 1
def Hds.len : Hds → Nat
  | .nil => 0
  | .cons _ _ r => r.len + 1
mutual
def Stm.ht : Stm → Nat
  | .pl _ => 0
  | .iff x _ y => max x.ht y.ht + 1
  | .whl x => x.ht + 1
  | .undo _ x => x.ht + 1
  | .tr x hs _ y => max x.ht (max hs.ht y.ht) + 1
  | .wth _ _ _ _ _ _ x => x.ht + 1
def Blk.ht : Blk → Nat
  | .nil => 0
  | .cons s r => max s.ht r.ht
def Hds.ht : Hds → Nat
  | .nil => 0
  | .cons _ x r => max x.ht r.ht
end
/-- the word ahead of a statement without blocks -/
def Pl.word : Pl → Option Str
  | .risk _ => some "risk"
  | .rse _ => some "raise"
  | .ret _ _ _ => some "return"
  | _ => none
def PlAt (ts : List Tok3) (i : Nat) (e : Pl) : Prop := match e.word with
  | none => NamedAt ts i e
  | some k => (∃ p, At ts i k p) ∧ RestPl ts (i + 1) e
def endPlS (i : Nat) (e : Pl) : Nat := match e.word with
  | none => endNamed i e
  | some _ => endPl (i + 1) e
mutual
def endStm (i : Nat) : Stm → Nat
  | .pl e => endPlS i e
  | .iff x true y => endBody (endBody (i + 2) x + 2) y
  | .iff x false y => endBody (i + 2) x
  | .whl x => endBody (i + 2) x
  | .undo vs x => endBody (i + 1 + 2 * vs.length - 1 + 1) x
  | .tr x hs true y => endBody (endHds (endBody (i + 2) x) hs + 2) y
  | .tr x hs false y => endHds (endBody (i + 2) x) hs
  | .wth f es g fs true ks x => endBody (endListed (endListed (i + 2) es + 2) fs + 1 + 2 * ks.length - 1 + 1) x
  | .wth f es g fs false ks x => endBody (endListed (endListed (i + 2) es + 2) fs + 1) x
/-- i: behind the first bracket -/
def endBody (i : Nat) : Blk → Nat
  | .nil => i + 1
  | .cons s r => endBody (endStm i s) r
def endHds (i : Nat) : Hds → Nat
  | .nil => i
  | .cons ks x r => endHds (endBody (i + 1 + 2 * ks.length - 1 + 1) x) r
end
mutual
def StmAt (ts : List Tok3) (i : Nat) : Stm → Prop
  | .pl e => PlAt ts i e
  | .iff x true y => (∃ p, At ts i "if" p) ∧ (∃ p, At ts (i + 1) "{" p) ∧ x.len ≤ 1000 ∧ BodyAt ts (i + 2) x ∧ (∃ p, At ts (endBody (i + 2) x) "else" p) ∧ (∃ p, At ts (endBody (i + 2) x + 1) "{" p) ∧ y.len ≤ 1000 ∧ BodyAt ts (endBody (i + 2) x + 2) y
  | .iff x false y => (∃ p, At ts i "if" p) ∧ (∃ p, At ts (i + 1) "{" p) ∧ x.len ≤ 1000 ∧ BodyAt ts (i + 2) x ∧ y = .nil ∧ ∃ k p, At ts (endBody (i + 2) x) k p ∧ ¬ k = "else"
  | .whl x => (∃ p, At ts i "while" p) ∧ (∃ p, At ts (i + 1) "{" p) ∧ x.len ≤ 1000 ∧ BodyAt ts (i + 2) x
  | .undo vs x => (∃ p, At ts i "undo" p) ∧ NamesAt ts (i + 1) vs ∧ (∃ p, At ts (i + 1 + 2 * vs.length - 1) "{" p) ∧ x.len ≤ 1000 ∧ BodyAt ts (i + 1 + 2 * vs.length - 1 + 1) x
  | .tr x hs true y => (∃ p, At ts i "try" p) ∧ (∃ p, At ts (i + 1) "{" p) ∧ x.len ≤ 1000 ∧ BodyAt ts (i + 2) x ∧ hs.len ≤ 1000 ∧ HdsAt ts (endBody (i + 2) x) hs ∧ (∃ p, At ts (endHds (endBody (i + 2) x) hs) "finally" p) ∧ (∃ p, At ts (endHds (endBody (i + 2) x) hs + 1) "{" p) ∧ y.len ≤ 1000 ∧ BodyAt ts (endHds (endBody (i + 2) x) hs + 2) y
  | .tr x hs false y => (∃ p, At ts i "try" p) ∧ (∃ p, At ts (i + 1) "{" p) ∧ x.len ≤ 1000 ∧ BodyAt ts (i + 2) x ∧ hs.len ≤ 1000 ∧ HdsAt ts (endBody (i + 2) x) hs ∧ hs ≠ .nil ∧ y = .nil ∧ ∃ k p, At ts (endHds (endBody (i + 2) x) hs) k p ∧ ¬ k = "finally" ∧ ¬ k = "except"
  | .wth f es g fs true ks x => (∃ p, At ts i "with" p) ∧ CallAt ts (i + 1) f es ∧ (∃ p, At ts (endListed (i + 2) es) "," p) ∧ CallAt ts (endListed (i + 2) es + 1) g fs ∧ (∃ p, At ts (endListed (endListed (i + 2) es + 2) fs) "swallow" p) ∧ NamesAt ts (endListed (endListed (i + 2) es + 2) fs + 1) ks ∧
      (∃ p, At ts (endListed (endListed (i + 2) es + 2) fs + 1 + 2 * ks.length - 1) "{" p) ∧ x.len ≤ 1000 ∧ BodyAt ts (endListed (endListed (i + 2) es + 2) fs + 1 + 2 * ks.length - 1 + 1) x
  | .wth f es g fs false ks x => (∃ p, At ts i "with" p) ∧ CallAt ts (i + 1) f es ∧ (∃ p, At ts (endListed (i + 2) es) "," p) ∧ CallAt ts (endListed (i + 2) es + 1) g fs ∧ ks = [] ∧ (∃ p, At ts (endListed (endListed (i + 2) es + 2) fs) "{" p) ∧ x.len ≤ 1000 ∧ BodyAt ts (endListed (endListed (i + 2) es + 2) fs + 1) x
def BodyAt (ts : List Tok3) (i : Nat) : Blk → Prop
  | .nil => ∃ p, At ts i "}" p
  | .cons s r => StmAt ts i s ∧ BodyAt ts (endStm i s) r
def HdsAt (ts : List Tok3) (i : Nat) : Hds → Prop
  | .nil => True
  | .cons ks x r => (∃ p, At ts i "except" p) ∧ NamesAt ts (i + 1) ks ∧ (∃ p, At ts (i + 1 + 2 * ks.length - 1) "{" p) ∧ x.len ≤ 1000 ∧ BodyAt ts (i + 1 + 2 * ks.length - 1 + 1) x ∧ HdsAt ts (endBody (i + 1 + 2 * ks.length - 1 + 1) x) r
end
mutual
def StmRep (H : Hp) (q : Addr) : Stm → Prop
  | .pl e => PlRep H q e
  | .iff x _ y => ∃ (p1 p2 : Addr) (q1 q2 : List Addr), H q = some (.tup [.str "if", .ref p1, .ref p2]) ∧ (H p1 = some (.tup (q1.map V.ref)) ∧ BodyRep H q1 x) ∧ (H p2 = some (.tup (q2.map V.ref)) ∧ BodyRep H q2 y)
  | .whl x => ∃ (p1 : Addr) (q1 : List Addr), H q = some (.tup [.str "while", .ref p1]) ∧ (H p1 = some (.tup (q1.map V.ref)) ∧ BodyRep H q1 x)
  | .undo vs x => ∃ (p0 p1 : Addr) (q1 : List Addr), H q = some (.tup [.str "undo", .ref p0, .ref p1]) ∧ H p0 = some (.tup (vs.map V.str)) ∧ (H p1 = some (.tup (q1.map V.ref)) ∧ BodyRep H q1 x)
  | .tr x hs _ y => ∃ (p1 p2 p3 : Addr) (q1 q2 q3 : List Addr), H q = some (.tup [.str "try", .ref p1, .ref p2, .ref p3]) ∧ (H p1 = some (.tup (q1.map V.ref)) ∧ BodyRep H q1 x) ∧ (H p2 = some (.tup (q2.map V.ref)) ∧ HdsRep H q2 hs) ∧ (H p3 = some (.tup (q3.map V.ref)) ∧ BodyRep H q3 y)
  | .wth f es g fs _ ks x => ∃ (p1 p2 p3 p4 : Addr) (q4 : List Addr), H q = some (.tup [.str "with", .ref p1, .ref p2, .ref p3, .ref p4]) ∧ CallRep H p1 f es ∧ CallRep H p2 g fs ∧ H p3 = some (.tup (ks.map V.str)) ∧ (H p4 = some (.tup (q4.map V.ref)) ∧ BodyRep H q4 x)
def BodyRep (H : Hp) (qs : List Addr) : Blk → Prop
  | .nil => qs = []
  | .cons s r => ∃ q qs', qs = q :: qs' ∧ StmRep H q s ∧ BodyRep H qs' r
def HdsRep (H : Hp) (qs : List Addr) : Hds → Prop
  | .nil => qs = []
  | .cons ks x r => ∃ (q : Addr) (qs' : List Addr) (p0 p1 : Addr) (q1 : List Addr), qs = q :: qs' ∧ H q = some (.tup [.ref p0, .ref p1]) ∧ H p0 = some (.tup (ks.map V.str)) ∧ (H p1 = some (.tup (q1.map V.ref)) ∧ BodyRep H q1 x) ∧ HdsRep H qs' r
end
def BlkRep (H : Hp) (p : Addr) (x : Blk) : Prop := ∃ qs : List Addr, H p = some (.tup (qs.map V.ref)) ∧ BodyRep H qs x
theorem CallRep.ext {o : Addr} {H H' : Hp} (x : Ext o H H') (ho : NT H o) {q : Addr} {v : Str} {es : List El} (h : CallRep H q v es) : CallRep H' q v es := by
  obtain ⟨p, qs, h1, h2, h3⟩ := h
  exact ⟨p, qs, x.tup ho h1, x.tup ho h2, h3.ext x ho⟩
theorem PlRep.ext {o : Addr} {H H' : Hp} (x : Ext o H H') (ho : NT H o) {q : Addr} : ∀ {e : Pl}, PlRep H q e → PlRep H' q e
  | .set _ _ _ _, ⟨pe, h1, h2⟩ => ⟨pe, x.tup ho h1, h2.ext x ho⟩
  | .inp _, h => x.tup ho h
  | .call _ _ _, ⟨p, qs, h1, h2, h3⟩ => ⟨p, qs, x.tup ho h1, x.tup ho h2, h3.ext x ho⟩
  | .risk _, ⟨p, h1, h2⟩ => ⟨p, x.tup ho h1, x.tup ho h2⟩
  | .rse _, h => x.tup ho h
  | .ret _ _ _, ⟨pe, h1, h2⟩ => ⟨pe, x.tup ho h1, h2.ext x ho⟩
mutual
theorem StmRep.ext {o : Addr} {H H' : Hp} (x : Ext o H H') (ho : NT H o) {q : Addr} : ∀ {s : Stm}, StmRep H q s → StmRep H' q s
  | .pl _, h => PlRep.ext x ho h
  | .iff _ _ _, ⟨p1, p2, q1, q2, h, ⟨a1, b1⟩, ⟨a2, b2⟩⟩ => ⟨p1, p2, q1, q2, x.tup ho h, ⟨x.tup ho a1, BodyRep.ext x ho b1⟩, ⟨x.tup ho a2, BodyRep.ext x ho b2⟩⟩
  | .whl _, ⟨p1, q1, h, ⟨a1, b1⟩⟩ => ⟨p1, q1, x.tup ho h, ⟨x.tup ho a1, BodyRep.ext x ho b1⟩⟩
  | .undo _ _, ⟨p0, p1, q1, h, h0, ⟨a1, b1⟩⟩ => ⟨p0, p1, q1, x.tup ho h, x.tup ho h0, ⟨x.tup ho a1, BodyRep.ext x ho b1⟩⟩
  | .tr _ _ _ _, ⟨p1, p2, p3, q1, q2, q3, h, ⟨a1, b1⟩, ⟨a2, b2⟩, ⟨a3, b3⟩⟩ => ⟨p1, p2, p3, q1, q2, q3, x.tup ho h, ⟨x.tup ho a1, BodyRep.ext x ho b1⟩, ⟨x.tup ho a2, HdsRep.ext x ho b2⟩, ⟨x.tup ho a3, BodyRep.ext x ho b3⟩⟩
  | .wth _ _ _ _ _ _ _, ⟨p1, p2, p3, p4, q4, h, c1, c2, a3, ⟨a4, b4⟩⟩ => ⟨p1, p2, p3, p4, q4, x.tup ho h, c1.ext x ho, c2.ext x ho, x.tup ho a3, ⟨x.tup ho a4, BodyRep.ext x ho b4⟩⟩
theorem BodyRep.ext {o : Addr} {H H' : Hp} (x : Ext o H H') (ho : NT H o) {qs : List Addr} : ∀ {s : Blk}, BodyRep H qs s → BodyRep H' qs s
  | .nil, h => h
  | .cons _ _, ⟨q, qs', e, h1, h2⟩ => ⟨q, qs', e, StmRep.ext x ho h1, BodyRep.ext x ho h2⟩
theorem HdsRep.ext {o : Addr} {H H' : Hp} (x : Ext o H H') (ho : NT H o) {qs : List Addr} : ∀ {s : Hds}, HdsRep H qs s → HdsRep H' qs s
  | .nil, h => h
  | .cons _ _ _, ⟨q, qs', p0, p1, q1, e, h, h0, ⟨a1, b1⟩, h2⟩ => ⟨q, qs', p0, p1, q1, e, x.tup ho h, x.tup ho h0, ⟨x.tup ho a1, BodyRep.ext x ho b1⟩, HdsRep.ext x ho h2⟩
end
end K3
namespace K3
open PySem PySem.Spec PyProof.Rows L2 TL
def Blk.cat : Blk → Blk → Blk
  | .nil, y => y
  | .cons s r, y => .cons s (r.cat y)
theorem cat_assoc : ∀ (x y z : Blk), (x.cat y).cat z = x.cat (y.cat z)
  | .nil, _, _ => rfl
  | .cons s r, y, z => by
    show Blk.cons s ((r.cat y).cat z) = Blk.cons s (r.cat (y.cat z))
    rw [cat_assoc r y z]
theorem cat_nil : ∀ (x : Blk), x.cat .nil = x
  | .nil => rfl
  | .cons s r => by
    show Blk.cons s (r.cat .nil) = _
    rw [cat_nil r]
theorem cat_len : ∀ (x y : Blk), (x.cat y).len = x.len + y.len
  | .nil, y => by
    show y.len = 0 + y.len
    omega
  | .cons s r, y => by
    show (r.cat y).len + 1 = r.len + 1 + y.len
    rw [cat_len r y]
    omega
theorem cat_ht : ∀ (x y : Blk), (x.cat y).ht = max x.ht y.ht
  | .nil, y => by
    show y.ht = max 0 y.ht
    omega
  | .cons s r, y => by
    show max s.ht (r.cat y).ht = max (max s.ht r.ht) y.ht
    rw [cat_ht r y]
    omega
theorem BodyRep.snoc {H : Hp} {q : Addr} {s : Stm} (hs : StmRep H q s) : ∀ {qs : List Addr} {x : Blk}, BodyRep H qs x → BodyRep H (qs ++ [q]) (x.cat (.cons s .nil))
  | _, .nil, h => by
    have e : _ = [] := h
    subst e
    exact ⟨q, [], rfl, hs, rfl⟩
  | _, .cons _ _, ⟨q0, qs', e, h1, h2⟩ => by
    subst e
    exact ⟨q0, qs' ++ [q], rfl, h1, BodyRep.snoc hs h2⟩
theorem BodyRep.len {H : Hp} : ∀ {qs : List Addr} {x : Blk}, BodyRep H qs x → qs.length = x.len
  | _, .nil, h => by
    have e : _ = [] := h
    subst e
    rfl
  | _, .cons _ _, ⟨q0, qs', e, _, h2⟩ => by
    subst e
    show qs'.length + 1 = _ + 1
    rw [BodyRep.len h2]
theorem cb_nm : ¬ ("NAME" : Str) = "}" := by decide +kernel
theorem cb_if : ¬ ("if" : Str) = "}" := by decide +kernel
theorem cb_wh : ¬ ("while" : Str) = "}" := by decide +kernel
theorem cb_un : ¬ ("undo" : Str) = "}" := by decide +kernel
theorem cb_tr : ¬ ("try" : Str) = "}" := by decide +kernel
theorem cb_wi : ¬ ("with" : Str) = "}" := by decide +kernel
theorem cb_ri : ¬ ("risk" : Str) = "}" := by decide +kernel
theorem cb_ra : ¬ ("raise" : Str) = "}" := by decide +kernel
theorem cb_re : ¬ ("return" : Str) = "}" := by decide +kernel
theorem named_first {ts : List Tok3} {i : Nat} : ∀ {e : Pl}, NamedAt ts i e → ∃ p, At ts i "NAME" p
  | .set _ _ _ _, h => ⟨_, h.1⟩
  | .inp _, h => ⟨_, h.1⟩
  | .call none _ _, h => ⟨_, h.nm⟩
  | .call (some _) _ _, h => ⟨_, h.1⟩
theorem stm_first {ts : List Tok3} {i : Nat} : ∀ {s : Stm}, StmAt ts i s → ∃ k p, At ts i k p ∧ ¬ k = "}"
  | .pl (.set _ _ _ _), h => ⟨_, _, h.1, cb_nm⟩
  | .pl (.inp _), h => ⟨_, _, h.1, cb_nm⟩
  | .pl (.call none _ _), h => ⟨_, _, CallAt.nm h, cb_nm⟩
  | .pl (.call (some _) _ _), h => ⟨_, _, h.1, cb_nm⟩
  | .pl (.risk _), ⟨⟨p, h⟩, _⟩ => ⟨_, p, h, cb_ri⟩
  | .pl (.rse _), ⟨⟨p, h⟩, _⟩ => ⟨_, p, h, cb_ra⟩
  | .pl (.ret _ _ _), ⟨⟨p, h⟩, _⟩ => ⟨_, p, h, cb_re⟩
  | .iff _ true _, ⟨⟨p, h⟩, _⟩ => ⟨_, p, h, cb_if⟩
  | .iff _ false _, ⟨⟨p, h⟩, _⟩ => ⟨_, p, h, cb_if⟩
  | .whl _, ⟨⟨p, h⟩, _⟩ => ⟨_, p, h, cb_wh⟩
  | .undo _ _, ⟨⟨p, h⟩, _⟩ => ⟨_, p, h, cb_un⟩
  | .tr _ _ true _, ⟨⟨p, h⟩, _⟩ => ⟨_, p, h, cb_tr⟩
  | .tr _ _ false _, ⟨⟨p, h⟩, _⟩ => ⟨_, p, h, cb_tr⟩
  | .wth _ _ _ _ true _ _, ⟨⟨p, h⟩, _⟩ => ⟨_, p, h, cb_wi⟩
  | .wth _ _ _ _ false _ _, ⟨⟨p, h⟩, _⟩ => ⟨_, p, h, cb_wi⟩
def spStm (C : Addr) (n : Nat) : Sp := fun vs H Q _ => ∃ (o L : Addr) (ts : List Tok3) (i : Nat) (d : Int) (s : Stm), vs = [.ref o, .int d] ∧ s.ht ≤ n ∧ d + (n : Int) ≤ 30 ∧ TkAt C H o L ts i ∧ StmAt ts i s ∧
  ∀ H' q, Ext o H H' → TkAt C H' o L ts (endStm i s) → StmRep H' q s → Q (.ref q) H'
def spBlk (C : Addr) (n : Nat) : Sp := fun vs H Q _ => ∃ (o L : Addr) (ts : List Tok3) (i : Nat) (d : Int) (x : Blk), vs = [.ref o, .int d] ∧ x.ht ≤ n ∧ d + (n : Int) < 30 ∧ TkAt C H o L ts i ∧ (∃ p, At ts i "{" p) ∧ x.len ≤ 1000 ∧ BodyAt ts (i + 1) x ∧
  ∀ H' p, Ext o H H' → TkAt C H' o L ts (endBody (i + 1) x) → BlkRep H' p x → Q (.ref p) H'
section
variable {P : Program} {w : World} {K : PySem.W.Frag} {mg : Str → Option Value} {base : Heap} {a : Ads}
theorem sc_read_block : FnScope ["tokens", "depth", "found"] ["tokens", "depth"] (defScope s_read_block) := ⟨rfl, rfl, rfl, by decide +kernel, rfl, by decide +kernel, by decide +kernel⟩
theorem ok_read_block1 (T : Txt K mg a) (n k : Nat) (hk : 2 ≤ k) (ih : FnOk P w K mg base CX0 k a.f_read_statement a.f_read_statement_d ["tokens", "depth"] (spStm a.c_Tokens n)) : FnOk P w K mg base CX0 (k + 1) a.f_read_block a.f_read_block_d ["tokens", "depth"] (spBlk a.c_Tokens n) := by
  refine T.F_read_block.ok sc_read_block (fun vs H Q E h => ?_) (fun cdv A outer s H vs Q E hr h => ?_)
  · obtain ⟨o, L, ts, i, d, x, rfl, _⟩ := h
    rfl
  obtain ⟨o, L, ts, i, d, x, rfl, hht, hd, hT, ⟨pb, posb, htb⟩, hsz, hx, q⟩ := h
  obtain ⟨dx, as, ho, _⟩ := id hT
  have nT : ∀ j, (tf L j).lookup ("take" : Str) = none := fun j => tf_no _ _ (by decide +kernel) (by decide +kernel)
  have nS : ∀ j, (tf L j).lookup ("skip" : Str) = none := fun j => tf_no _ _ (by decide +kernel) (by decide +kernel)
  refine ⟨_, (pss_cons (ps_expr (pe_meth (pv 0) T.cl_Tokens T.m_Tokens_take (ok_Tokens_take T) (hr.mono (by omega)) T.b_Tokens_take .nil pass0 (pa_cons pe_str pa_nil)))
    (pss_cons (ps_if (pt_cmpR op_eq (pv 1) (pe_gi rfl T.g_MOST_NESTED) (nomark _))
      (pss_one ps_never)
      pss_nil)
    (pss_cons (ps_set (i := 2) sc_read_block.nd rfl (Or.inl rfl) (pe_lst pa_nil))
    (pss_cons (ps_while PassesOwn.never (pt_not (pt_val (pe_meth (pv 0) T.cl_Tokens T.m_Tokens_skip (ok_Tokens_skip T) (hr.mono (by omega)) T.b_Tokens_skip .nil pass0 (pa_cons pe_str pa_nil))))
      (pss_one (ps_expr (pe_bm PySem.F.plainAttrs_list PySem.F.slot_list_append PySem.F.type_list_append mt_append (pv 2) (pa_cons (pe_call ih hr (by rfl) T.g_read_statement T.F_read_statement.kp T.b_read_statement .nil pass0 (pa_cons (pv 0) (pa_cons (pe_op op_add (pv 1) pe_int) pa_nil))) pa_nil)))))
    (pss_one (ps_ret (pe_callTy call_tuple_of (by rfl) T.tuple (by decide +kernel) (pa_cons (pv 2) pa_nil)))))))), ?_⟩
  refine ⟨_, rfl, o, dx, _, rfl, ho, nT _, o, L, ts, i, _, rfl, hT, htb, fun H1 hT1 b1 => ?_⟩
  dsimp only
  refine st_seq (st_no (fun Q q => ⟨_, rfl, rfl, _, rfl, (by rw [decide_eq_false (fun z => by have := V.int.inj z; omega)]; exact q)⟩) ?_)
  dsimp only [tNext]
  refine ⟨Nat.zero_le _, fun N nN => ?_⟩
  have hNoL := hT1.no nN
  have x1 : Ext o H H1 := Ext.but b1
  have nN0 : H N = none := x1.free nN hNoL.1
  dsimp only [gName]
  refine st_seq ⟨fun m σ H' => ∃ (j : Nat) (dn rest : Blk) (qs : List Addr), σ = [some (.ref o), some (.int d), some (.ref N)] ∧ Ext o H H' ∧ TkAt a.c_Tokens H' o L ts j ∧ x = dn.cat rest ∧ BodyAt ts j rest ∧ endBody j rest = endBody (i + 1) x ∧ m = rest.len ∧ H' N = some (.lst (qs.map V.ref)) ∧ BodyRep H' qs dn,
    ⟨x.len, i + 1, .nil, x, [], rfl, x1.trans (Ext.of (same_upd nN)), hT1.same (same_upd nN), rfl, hx, rfl, rfl, upd_same, rfl⟩, ?_⟩
  rintro m σ H' ⟨j, dn, rest, qs, rfl, x3, hT3, hall, hb, hend, rfl, hN, hR⟩
  obtain ⟨dx3, as3, ho3, _⟩ := id hT3
  have hqn := hR.len
  have hln := cat_len dn rest
  rw [← hall] at hln
  cases rest with
  | cons s r =>
    obtain ⟨hs, hb'⟩ := hb
    obtain ⟨k1, p1, ⟨pos1, ht1⟩, hk1⟩ := stm_first hs
    have hsh : s.ht ≤ n := by
      have e := cat_ht dn (.cons s r)
      rw [← hall] at e
      have e2 : (Blk.cons s r).ht = max s.ht r.ht := rfl
      omega
    refine ⟨_, rfl, o, dx3, _, rfl, ho3, nS _, o, L, _, ts, j, _, rfl, hT3, ht1, fun e => absurd e hk1, fun _ => ⟨_, rfl, iteT ?_⟩⟩
    refine ⟨_, fun σ' H' h => h, ?_⟩
    refine ⟨_, rfl, .inl ⟨rfl, _, SqL.of hN⟩, _, rfl, _, rfl, _, _, rfl, rfl, o, L, ts, j, d + 1, s, rfl, hsh, by omega, hT3, hs, fun H5 q5 x5 hT5 hq5 => ?_⟩
    have hN5 : H5 N = some (.lst (qs.map V.ref)) := x5 _ _ hN hNoL.1
    have nt3 : NT H' o := NT.of ho3 (fun _ z => by cases z)
    have hR5 := hR.ext x5 nt3
    have ntN : NT H5 N := NT.of hN5 (fun _ z => by cases z)
    refine ⟨N, _, _, rfl, rfl, hN5, ?_, r.len, Nat.lt_succ_self _, endStm j s, dn.cat (.cons s .nil), r, qs ++ [q5], rfl, (x3.trans x5).mut nN0, hT5.off hN5 (fun _ z => by cases z) (fun _ _ _ z => by cases z) hNoL.2, by rw [hall, cat_assoc]; rfl, hb', hend, rfl, ?_, ?_⟩
    · rw [List.length_map]
      exact bigLine (by omega)
    · rw [upd_same, List.map_append]
      rfl
    · exact (BodyRep.snoc hq5 hR5).ext (ext_upd H5 N _) ntN
  | nil =>
    obtain ⟨pc, posc, htc⟩ := hb
    refine ⟨_, rfl, o, dx3, _, rfl, ho3, nS _, o, L, _, ts, j, _, rfl, hT3, htc, fun _ H4 hT4 b4 => ⟨_, rfl, iteF ?_⟩, fun e => absurd rfl e⟩
    have hN4 : H4 N = some (.lst (qs.map V.ref)) := by rw [b4 N hNoL.1]; exact hN
    have nt3 : NT H' o := NT.of ho3 (fun _ z => by cases z)
    have hR4 := hR.ext (Ext.but b4) nt3
    obtain ⟨dx4, as4, ho4, _⟩ := id hT4
    refine ⟨_, rfl, N, _, rfl, .inl ⟨SqL.of hN4, fun p np => ?_⟩⟩
    have sp := same_upd (o := .tup (qs.map V.ref)) np
    rw [cat_nil] at hall
    subst hall
    refine q _ p ((x3.trans (Ext.but b4)).trans (Ext.of sp)) ?_ ⟨qs, upd_same, hR4.ext (Ext.of sp) (NT.of ho4 (fun _ z => by cases z))⟩
    rw [← hend]
    exact hT4.same sp
end
end K3
namespace K3
open PySem PySem.Spec PyProof.Rows L2 TL
def isIf : Stm → Bool
  | .iff _ _ _ => true
  | _ => false
def isWhl : Stm → Bool
  | .whl _ => true
  | _ => false
def isUndo : Stm → Bool
  | .undo _ _ => true
  | _ => false
def isTr : Stm → Bool
  | .tr _ _ _ _ => true
  | _ => false
def isWth : Stm → Bool
  | .wth _ _ _ _ _ _ _ => true
  | _ => false
/-- a statement whose first word was taken -/
def spNest (C : Addr) (n : Nat) (ok : Stm → Bool) : Sp := fun vs H Q _ => ∃ (o L : Addr) (ts : List Tok3) (i : Nat) (d : Int) (s : Stm), vs = [.ref o, .int d] ∧ ok s = true ∧ s.ht ≤ n + 1 ∧ d + (n : Int) < 30 ∧ TkAt C H o L ts (i + 1) ∧ StmAt ts i s ∧
  ∀ H' q, Ext o H H' → TkAt C H' o L ts (endStm i s) → StmRep H' q s → Q (.ref q) H'
/-- a handler whose except was taken -/
def spHdl (C : Addr) (n : Nat) : Sp := fun vs H Q _ => ∃ (o L : Addr) (ts : List Tok3) (i : Nat) (d : Int) (ks : List Str) (x : Blk), vs = [.ref o, .int d] ∧ x.ht ≤ n ∧ d + (n : Int) < 30 ∧ TkAt C H o L ts i ∧ NamesAt ts i ks ∧ (∃ p, At ts (i + 2 * ks.length - 1) "{" p) ∧ x.len ≤ 1000 ∧ BodyAt ts (i + 2 * ks.length - 1 + 1) x ∧
  ∀ H' q p0, Ext o H H' → TkAt C H' o L ts (endBody (i + 2 * ks.length - 1 + 1) x) → (∃ p1, H' q = some (.tup [.ref p0, .ref p1]) ∧ H' p0 = some (.tup (ks.map V.str)) ∧ BlkRep H' p1 x) → Q (.ref q) H'
theorem BlkRep.ext {o : Addr} {H H' : Hp} (x : Ext o H H') (ho : NT H o) {p : Addr} {b : Blk} (h : BlkRep H p b) : BlkRep H' p b := by
  obtain ⟨qs, h1, h2⟩ := h
  exact ⟨qs, x.tup ho h1, h2.ext x ho⟩
theorem TkAt.nt {C : Addr} {H : Hp} {o L : Addr} {ts : List Tok3} {i : Nat} (h : TkAt C H o L ts i) : NT H o := by
  obtain ⟨dx, as, ho, _⟩ := h
  exact NT.of ho (fun _ z => by cases z)
section
variable {P : Program} {w : World} {K : PySem.W.Frag} {mg : Str → Option Value} {base : Heap} {a : Ads}
theorem sc_read_if : FnScope ["tokens", "depth", "first", "second"] ["tokens", "depth"] (defScope s_read_if) := ⟨rfl, rfl, rfl, by decide +kernel, rfl, by decide +kernel, by decide +kernel⟩
theorem ok_read_if1 (T : Txt K mg a) (n k : Nat) (hk : 10 ≤ k) (ihb : FnOk P w K mg base CX0 k a.f_read_block a.f_read_block_d ["tokens", "depth"] (spBlk a.c_Tokens n)) : FnOk P w K mg base CX0 (k + 2) a.f_read_if a.f_read_if_d ["tokens", "depth"] (spNest a.c_Tokens n isIf) := by
  refine T.F_read_if.ok sc_read_if (fun vs H Q E h => ?_) (fun cdv A outer s H vs Q E hr h => ?_)
  · obtain ⟨o, L, ts, i, d, s, rfl, _⟩ := h
    rfl
  obtain ⟨o, L, ts, i, d, s, rfl, hok, hht, hd, hT, hs, q⟩ := h
  have nS : ∀ j, (tf L j).lookup ("skip" : Str) = none := fun j => tf_no _ _ (by decide +kernel) (by decide +kernel)
  refine ⟨_, (pss_cons (ps_set (i := 2) sc_read_if.nd rfl (Or.inl rfl) (pe_call ihb (hr.mono (by omega)) (by rfl) T.g_read_block T.F_read_block.kp T.b_read_block .nil pass0 (pa_cons (pv 0) (pa_cons (pv 1) pa_nil))))
    (pss_cons (ps_set (i := 3) sc_read_if.nd rfl (Or.inl rfl) (pe_ifExp (pt_val (pe_meth (pv 0) T.cl_Tokens T.m_Tokens_skip (ok_Tokens_skip T) (hr.mono (by omega)) T.b_Tokens_skip .nil pass0 (pa_cons pe_str pa_nil))) (pe_call ihb (hr.mono (by omega)) (by rfl) T.g_read_block T.F_read_block.kp T.b_read_block .nil pass0 (pa_cons (pv 0) (pa_cons (pv 1) pa_nil))) (pe_tup pa_nil)))
    (pss_one (ps_ret (pe_tup (pa_cons pe_str (pa_cons (pv 2) (pa_cons (pv 3) pa_nil)))))))), ?_⟩
  match s, hok, hht, hs, q with
  | .iff x true y, _, hht, ⟨_, hb1, hl1, hx, ⟨pe, pose, hte⟩, hb2, hl2, hy⟩, q =>
    have e : (Stm.iff x true y).ht = max x.ht y.ht + 1 := rfl
    refine ⟨_, rfl, _, rfl, o, L, ts, i + 1, d, x, rfl, (by omega), hd, hT, hb1, hl1, hx, fun H1 p1 x1 hT1 h1 => ?_⟩
    obtain ⟨dx1, as1, ho1, _⟩ := id hT1
    dsimp only [gName]
    refine ⟨_, rfl, o, dx1, _, rfl, ho1, nS _, o, L, _, ts, _, _, rfl, hT1, hte, fun _ H2 hT2 b2 => ⟨_, rfl, iteT ?_⟩, fun z => absurd rfl z⟩
    refine ⟨_, rfl, _, rfl, o, L, ts, _, d, y, rfl, (by omega), hd, hT2, hb2, hl2, hy, fun H3 p2 x3 hT3 h3 => ?_⟩
    dsimp only [gName]
    refine ⟨_, rfl, _, rfl, (by show 3 ≤ sizeLine; decide), fun p np => ?_⟩
    have sp := same_upd (o := .tup [.str "if", .ref p1, .ref p2]) np
    have h1' := (h1.ext ((Ext.but b2).trans x3) hT1.nt).ext (Ext.of sp) hT3.nt
    have h3' := h3.ext (Ext.of sp) hT3.nt
    obtain ⟨q1, a1, c1⟩ := h1'
    obtain ⟨q2, a2, c2⟩ := h3'
    exact q _ p (((x1.trans (Ext.but b2)).trans x3).trans (Ext.of sp)) (hT3.same sp) ⟨p1, p2, q1, q2, upd_same, ⟨a1, c1⟩, ⟨a2, c2⟩⟩
  | .iff x false y, _, hht, ⟨_, hb1, hl1, hx, hy, k1, pe, ⟨pose, hte⟩, hne⟩, q =>
    have e : (Stm.iff x false y).ht = max x.ht y.ht + 1 := rfl
    refine ⟨_, rfl, _, rfl, o, L, ts, i + 1, d, x, rfl, (by omega), hd, hT, hb1, hl1, hx, fun H1 p1 x1 hT1 h1 => ?_⟩
    obtain ⟨dx1, as1, ho1, _⟩ := id hT1
    dsimp only [gName]
    refine ⟨_, rfl, o, dx1, _, rfl, ho1, nS _, o, L, _, ts, _, _, rfl, hT1, hte, fun z => absurd z hne, fun _ => ⟨_, rfl, iteF ?_⟩⟩
    refine ⟨Nat.zero_le _, fun p2 np2 => ?_⟩
    dsimp only [gName]
    have s2 := same_upd (o := .tup []) np2
    refine ⟨_, rfl, _, rfl, (by show 3 ≤ sizeLine; decide), fun p np => ?_⟩
    have sp := same_upd (o := .tup [.str "if", .ref p1, .ref p2]) np
    obtain ⟨q1, a1, c1⟩ := h1.ext (Ext.of (s2.trans sp)) hT1.nt
    subst hy
    exact q _ p (x1.trans (Ext.of (s2.trans sp))) (hT1.same (s2.trans sp)) ⟨p1, p2, q1, [], upd_same, ⟨a1, c1⟩, ⟨sp _ _ upd_same, rfl⟩⟩
theorem sc_read_while : FnScope ["tokens", "depth"] ["tokens", "depth"] (defScope s_read_while) := ⟨rfl, rfl, rfl, by decide +kernel, rfl, by decide +kernel, by decide +kernel⟩
theorem ok_read_while1 (T : Txt K mg a) (n k : Nat) (hk : 10 ≤ k) (ihb : FnOk P w K mg base CX0 k a.f_read_block a.f_read_block_d ["tokens", "depth"] (spBlk a.c_Tokens n)) : FnOk P w K mg base CX0 (k + 2) a.f_read_while a.f_read_while_d ["tokens", "depth"] (spNest a.c_Tokens n isWhl) := by
  refine T.F_read_while.ok sc_read_while (fun vs H Q E h => ?_) (fun cdv A outer s H vs Q E hr h => ?_)
  · obtain ⟨o, L, ts, i, d, s, rfl, _⟩ := h
    rfl
  obtain ⟨o, L, ts, i, d, s, rfl, hok, hht, hd, hT, hs, q⟩ := h
  refine ⟨_, (pss_one (ps_ret (pe_tup (pa_cons pe_str (pa_cons (pe_call ihb (hr.mono (by omega)) (by rfl) T.g_read_block T.F_read_block.kp T.b_read_block .nil pass0 (pa_cons (pv 0) (pa_cons (pv 1) pa_nil))) pa_nil))))), ?_⟩
  match s, hok, hht, hs, q with
  | .whl x, _, hht, ⟨_, hb1, hl1, hx⟩, q =>
    have e : (Stm.whl x).ht = x.ht + 1 := rfl
    refine ⟨_, rfl, _, rfl, o, L, ts, i + 1, d, x, rfl, (by omega), hd, hT, hb1, hl1, hx, fun H1 p1 x1 hT1 h1 => ⟨(by show 2 ≤ sizeLine; decide), fun p np => ?_⟩⟩
    have sp := same_upd (o := .tup [.str "while", .ref p1]) np
    obtain ⟨q1, a1, c1⟩ := h1.ext (Ext.of sp) hT1.nt
    exact q _ p (x1.trans (Ext.of sp)) (hT1.same sp) ⟨p1, q1, upd_same, a1, c1⟩
theorem sc_read_undo : FnScope ["tokens", "depth", "names"] ["tokens", "depth"] (defScope s_read_undo) := ⟨rfl, rfl, rfl, by decide +kernel, rfl, by decide +kernel, by decide +kernel⟩
theorem ok_read_undo1 (T : Txt K mg a) (n k : Nat) (hk : 10 ≤ k) (ihb : FnOk P w K mg base CX0 k a.f_read_block a.f_read_block_d ["tokens", "depth"] (spBlk a.c_Tokens n)) : FnOk P w K mg base CX0 (k + 2) a.f_read_undo a.f_read_undo_d ["tokens", "depth"] (spNest a.c_Tokens n isUndo) := by
  refine T.F_read_undo.ok sc_read_undo (fun vs H Q E h => ?_) (fun cdv A outer s H vs Q E hr h => ?_)
  · obtain ⟨o, L, ts, i, d, s, rfl, _⟩ := h
    rfl
  obtain ⟨o, L, ts, i, d, s, rfl, hok, hht, hd, hT, hs, q⟩ := h
  refine ⟨_, (pss_cons (ps_set (i := 2) sc_read_undo.nd rfl (Or.inl rfl) (pe_call (ok_read_names T) (hr.mono (by omega)) (by rfl) T.g_read_names T.F_read_names.kp T.b_read_names .nil pass0 (pa_cons (pv 0) pa_nil)))
    (pss_one (ps_ret (pe_tup (pa_cons pe_str (pa_cons (pv 2) (pa_cons (pe_call ihb (hr.mono (by omega)) (by rfl) T.g_read_block T.F_read_block.kp T.b_read_block .nil pass0 (pa_cons (pv 0) (pa_cons (pv 1) pa_nil))) pa_nil))))))), ?_⟩
  match s, hok, hht, hs, q with
  | .undo vs x, _, hht, ⟨_, hn, hb1, hl1, hx⟩, q =>
    have e : (Stm.undo vs x).ht = x.ht + 1 := rfl
    refine ⟨_, rfl, o, L, ts, i + 1, vs, rfl, hT, hn, fun H0 p0 x0 hT0 h0 => ?_⟩
    dsimp only [gName]
    refine ⟨_, rfl, _, rfl, _, rfl, o, L, ts, _, d, x, rfl, (by omega), hd, hT0, hb1, hl1, hx, fun H1 p1 x1 hT1 h1 => ⟨(by show 3 ≤ sizeLine; decide), fun p np => ?_⟩⟩
    have sp := same_upd (o := .tup [.str "undo", .ref p0, .ref p1]) np
    obtain ⟨q1, a1, c1⟩ := h1.ext (Ext.of sp) hT1.nt
    exact q _ p ((x0.trans x1).trans (Ext.of sp)) (hT1.same sp) ⟨p0, p1, q1, upd_same, sp _ _ (x1.tup hT0.nt h0), a1, c1⟩
theorem sc_read_handler : FnScope ["tokens", "depth", "kinds"] ["tokens", "depth"] (defScope s_read_handler) := ⟨rfl, rfl, rfl, by decide +kernel, rfl, by decide +kernel, by decide +kernel⟩
theorem ok_read_handler1 (T : Txt K mg a) (n k : Nat) (hk : 10 ≤ k) (ihb : FnOk P w K mg base CX0 k a.f_read_block a.f_read_block_d ["tokens", "depth"] (spBlk a.c_Tokens n)) : FnOk P w K mg base CX0 (k + 1) a.f_read_handler a.f_read_handler_d ["tokens", "depth"] (spHdl a.c_Tokens n) := by
  refine T.F_read_handler.ok sc_read_handler (fun vs H Q E h => ?_) (fun cdv A outer s H vs Q E hr h => ?_)
  · obtain ⟨o, L, ts, i, d, ks, x, rfl, _⟩ := h
    rfl
  obtain ⟨o, L, ts, i, d, ks, x, rfl, hht, hd, hT, hn, hb1, hl1, hx, q⟩ := h
  refine ⟨_, (pss_cons (ps_set (i := 2) sc_read_handler.nd rfl (Or.inl rfl) (pe_call (ok_read_names T) (hr.mono (by omega)) (by rfl) T.g_read_names T.F_read_names.kp T.b_read_names .nil pass0 (pa_cons (pv 0) pa_nil)))
    (pss_one (ps_ret (pe_tup (pa_cons (pv 2) (pa_cons (pe_call ihb (hr.mono (by omega)) (by rfl) T.g_read_block T.F_read_block.kp T.b_read_block .nil pass0 (pa_cons (pv 0) (pa_cons (pv 1) pa_nil))) pa_nil)))))), ?_⟩
  refine ⟨_, rfl, o, L, ts, i, ks, rfl, hT, hn, fun H0 p0 x0 hT0 h0 => ?_⟩
  dsimp only [gName]
  refine ⟨_, rfl, _, rfl, _, rfl, o, L, ts, _, d, x, rfl, hht, hd, hT0, hb1, hl1, hx, fun H1 p1 x1 hT1 h1 => ⟨(by show 2 ≤ sizeLine; decide), fun p np => ?_⟩⟩
  have sp := same_upd (o := .tup [.ref p0, .ref p1]) np
  exact q _ p p0 ((x0.trans x1).trans (Ext.of sp)) (hT1.same sp) ⟨p1, upd_same, sp _ _ (x1.tup hT0.nt h0), h1.ext (Ext.of sp) hT1.nt⟩
end
end K3
namespace K3
open PySem PySem.Spec PyProof.Rows L2 TL
def Hds.cat : Hds → Hds → Hds
  | .nil, y => y
  | .cons ks x r, y => .cons ks x (r.cat y)
theorem hcat_assoc : ∀ (x y z : Hds), (x.cat y).cat z = x.cat (y.cat z)
  | .nil, _, _ => rfl
  | .cons ks b r, y, z => by
    show Hds.cons ks b ((r.cat y).cat z) = Hds.cons ks b (r.cat (y.cat z))
    rw [hcat_assoc r y z]
theorem hcat_nil : ∀ (x : Hds), x.cat .nil = x
  | .nil => rfl
  | .cons ks b r => by
    show Hds.cons ks b (r.cat .nil) = _
    rw [hcat_nil r]
theorem hcat_len : ∀ (x y : Hds), (x.cat y).len = x.len + y.len
  | .nil, y => by
    show y.len = 0 + y.len
    omega
  | .cons ks b r, y => by
    show (r.cat y).len + 1 = r.len + 1 + y.len
    rw [hcat_len r y]
    omega
theorem hcat_ht : ∀ (x y : Hds), (x.cat y).ht = max x.ht y.ht
  | .nil, y => by
    show y.ht = max 0 y.ht
    omega
  | .cons ks b r, y => by
    show max b.ht (r.cat y).ht = max (max b.ht r.ht) y.ht
    rw [hcat_ht r y]
    omega
theorem HdsRep.snoc {H : Hp} {q p0 p1 : Addr} {ks : List Str} {b : Blk} (h : H q = some (.tup [.ref p0, .ref p1])) (h0 : H p0 = some (.tup (ks.map V.str))) (h1 : BlkRep H p1 b) : ∀ {qs : List Addr} {x : Hds}, HdsRep H qs x → HdsRep H (qs ++ [q]) (x.cat (.cons ks b .nil))
  | _, .nil, e => by
    have e : _ = [] := e
    subst e
    obtain ⟨q1, a1, c1⟩ := h1
    exact ⟨q, [], p0, p1, q1, rfl, h, h0, ⟨a1, c1⟩, rfl⟩
  | _, .cons _ _ _, ⟨q', qs', r0, r1, q1, e, g, g0, g1, g2⟩ => by
    subst e
    exact ⟨q', qs' ++ [q], r0, r1, q1, rfl, g, g0, g1, HdsRep.snoc h h0 h1 g2⟩
theorem HdsRep.len {H : Hp} : ∀ {qs : List Addr} {x : Hds}, HdsRep H qs x → qs.length = x.len
  | _, .nil, e => by
    have e : _ = [] := e
    subst e
    rfl
  | _, .cons _ _ _, ⟨q', qs', r0, r1, q1, e, g, g0, g1, g2⟩ => by
    subst e
    show qs'.length + 1 = _ + 1
    rw [HdsRep.len g2]
theorem ans_orT {t u : TT} {σ : L2.St} {H : Hp} {b1 : Bool} (h1 : Ans t σ H b1) (h2 : Ans u σ H true) : Ans (tOr t u) σ H true := by
  cases b1 with
  | true => exact ans_or1 h1
  | false => exact ans_or h1 h2
theorem ans_is {t : TT} {σ : L2.St} {H : Hp} {b b' : Bool} (h : Ans t σ H b) (e : b = b') : Ans t σ H b' := e ▸ h
theorem fin_exc : ¬ ("finally" : Str) = "except" := by decide +kernel
section
variable {P : Program} {w : World} {K : PySem.W.Frag} {mg : Str → Option Value} {base : Heap} {a : Ads}
theorem sc_read_try : FnScope ["tokens", "depth", "block", "handlers", "last"] ["tokens", "depth"] (defScope s_read_try) := ⟨rfl, rfl, rfl, by decide +kernel, rfl, by decide +kernel, by decide +kernel⟩
theorem ok_read_try1 (T : Txt K mg a) (n k : Nat) (hk : 10 ≤ k) (ihb : FnOk P w K mg base CX0 k a.f_read_block a.f_read_block_d ["tokens", "depth"] (spBlk a.c_Tokens n)) (ihh : FnOk P w K mg base CX0 (k + 1) a.f_read_handler a.f_read_handler_d ["tokens", "depth"] (spHdl a.c_Tokens n)) : FnOk P w K mg base CX0 (k + 2) a.f_read_try a.f_read_try_d ["tokens", "depth"] (spNest a.c_Tokens n isTr) := by
  refine T.F_read_try.ok sc_read_try (fun vs H Q E h => ?_) (fun cdv A outer s H vs Q E hr h => ?_)
  · obtain ⟨o, L, ts, i, d, s, rfl, _⟩ := h
    rfl
  obtain ⟨o, L, ts, i, d, s, rfl, hok, hht, hd, hT, hs, q⟩ := h
  have nS : ∀ j, (tf L j).lookup ("skip" : Str) = none := fun j => tf_no _ _ (by decide +kernel) (by decide +kernel)
  have nT : ∀ j, (tf L j).lookup ("take" : Str) = none := fun j => tf_no _ _ (by decide +kernel) (by decide +kernel)
  have nA : ∀ j, (tf L j).lookup ("kind_ahead" : Str) = none := fun j => tf_no _ _ (by decide +kernel) (by decide +kernel)
  obtain ⟨ds_Tokens_kind_ahead, v_Tokens_kind_ahead, b_Tokens_kind_ahead⟩ := T.b_Tokens_kind_ahead
  refine ⟨_, (pss_cons (ps_set (i := 2) sc_read_try.nd rfl (Or.inl rfl) (pe_call ihb (hr.mono (by omega)) (by rfl) T.g_read_block T.F_read_block.kp T.b_read_block .nil pass0 (pa_cons (pv 0) (pa_cons (pv 1) pa_nil))))
    (pss_cons (ps_set (i := 3) sc_read_try.nd rfl (Or.inl rfl) (pe_lst pa_nil))
    (pss_cons (ps_while PassesOwn.never (pt_val (pe_meth (pv 0) T.cl_Tokens T.m_Tokens_skip (ok_Tokens_skip T) (hr.mono (by omega)) T.b_Tokens_skip .nil pass0 (pa_cons pe_str pa_nil)))
      (pss_one (ps_expr (pe_bm PySem.F.plainAttrs_list PySem.F.slot_list_append PySem.F.type_list_append mt_append (pv 3) (pa_cons (pe_call ihh (hr.mono (by omega)) (by rfl) T.g_read_handler T.F_read_handler.kp T.b_read_handler .nil pass0 (pa_cons (pv 0) (pa_cons (pv 1) pa_nil))) pa_nil)))))
    (pss_cons (ps_set (i := 4) sc_read_try.nd rfl (Or.inl rfl) (pe_tup pa_nil))
    (pss_cons (ps_if (PW.pt (pw_or (pt_not (pt_truth (pv 3) (by intro _; rfl))) (pw_or1 (pt_cmpR op_eq (pe_meth0 (pv 0) T.cl_Tokens T.m_Tokens_kind_ahead (ok_Tokens_kind_ahead T) (hr.mono (by omega)) b_Tokens_kind_ahead v_Tokens_kind_ahead pass0) pe_str (nomark _)))))
      (pss_cons (ps_expr (pe_meth (pv 0) T.cl_Tokens T.m_Tokens_take (ok_Tokens_take T) (hr.mono (by omega)) T.b_Tokens_take .nil pass0 (pa_cons pe_str pa_nil)))
      (pss_one (ps_set (i := 4) sc_read_try.nd rfl (Or.inl rfl) (pe_call ihb (hr.mono (by omega)) (by rfl) T.g_read_block T.F_read_block.kp T.b_read_block .nil pass0 (pa_cons (pv 0) (pa_cons (pv 1) pa_nil))))))
      pss_nil)
    (pss_one (ps_ret (pe_tup (pa_cons pe_str (pa_cons (pv 2) (pa_cons (pe_callTy call_tuple_of (by rfl) T.tuple (by decide +kernel) (pa_cons (pv 3) pa_nil)) (pa_cons (pv 4) pa_nil)))))))))))), ?_⟩
  obtain ⟨x, hs', wb, y, rfl⟩ : ∃ x hs wb y, s = .tr x hs wb y := by
    match s, hok with
    | .tr x hs wb y, _ => exact ⟨x, hs, wb, y, rfl⟩
  have eht : (Stm.tr x hs' wb y).ht = max x.ht (max hs'.ht y.ht) + 1 := rfl
  have hcom : (∃ p, At ts (i + 1) "{" p) ∧ x.len ≤ 1000 ∧ BodyAt ts (i + 2) x ∧ hs'.len ≤ 1000 ∧ HdsAt ts (endBody (i + 2) x) hs' ∧ ∃ k p, At ts (endHds (endBody (i + 2) x) hs') k p ∧ ¬ k = "except" := by
    cases wb with
    | true =>
      obtain ⟨_, h1, h2, h3, h4, h5, ⟨p, h6⟩, _⟩ := hs
      exact ⟨h1, h2, h3, h4, h5, _, p, h6, fin_exc⟩
    | false =>
      obtain ⟨_, h1, h2, h3, h4, h5, _, _, k, p, h6, _, h7⟩ := hs
      exact ⟨h1, h2, h3, h4, h5, k, p, h6, h7⟩
  obtain ⟨hb1, hl1, hx, hhl, hhs, kE, pE, ⟨posE, htE⟩, hkE⟩ := hcom
  refine ⟨_, rfl, _, rfl, o, L, ts, i + 1, d, x, rfl, (by omega), hd, hT, hb1, hl1, hx, fun H1 p1 x1 hT1 h1 => ?_⟩
  dsimp only [gName]
  refine st_seq ⟨Nat.zero_le _, fun N nN => ?_⟩
  have hNoL := hT1.no nN
  have nN0 : H N = none := x1.free nN hNoL.1
  have sN := same_upd (o := .lst []) nN
  dsimp only [gName]
  refine st_seq ⟨fun m σ H' => ∃ (j : Nat) (dn rest : Hds) (qs : List Addr), σ = [some (.ref o), some (.int d), some (.ref p1), some (.ref N), none] ∧ Ext o H H' ∧ TkAt a.c_Tokens H' o L ts j ∧ hs' = dn.cat rest ∧ HdsAt ts j rest ∧ endHds j rest = endHds (endBody (i + 2) x) hs' ∧ m = rest.len ∧ H' N = some (.lst (qs.map V.ref)) ∧ HdsRep H' qs dn ∧ BlkRep H' p1 x,
    ⟨hs'.len, endBody (i + 2) x, .nil, hs', [], rfl, x1.trans (Ext.of sN), hT1.same sN, rfl, hhs, rfl, rfl, upd_same, rfl, h1.ext (Ext.of sN) hT1.nt⟩, ?_⟩
  rintro m σ H' ⟨j, dn, rest, qs, rfl, x3, hT3, hall, hh, hend, rfl, hN, hR, hB⟩
  obtain ⟨dx3, as3, ho3, _⟩ := id hT3
  have hqn := hR.len
  have hln := hcat_len dn rest
  have hth := hcat_ht dn rest
  rw [← hall] at hln hth
  cases rest with
  | cons ks b r =>
    obtain ⟨⟨pe, pose, hte⟩, hn, hb, hbl, hbx, hr'⟩ := hh
    have e2 : (Hds.cons ks b r).ht = max b.ht r.ht := rfl
    refine ⟨_, rfl, o, dx3, _, rfl, ho3, nS _, o, L, _, ts, j, _, rfl, hT3, hte, fun _ H4 hT4 b4 => ⟨_, rfl, iteT ?_⟩, fun e => absurd rfl e⟩
    refine ⟨_, fun σ' H' h => h, ?_⟩
    have hN4 : H4 N = some (.lst (qs.map V.ref)) := by rw [b4 N hNoL.1]; exact hN
    refine ⟨_, rfl, .inl ⟨rfl, _, SqL.of hN4⟩, _, rfl, _, rfl, o, L, ts, j + 1, d, ks, b, rfl, (by omega), hd, hT4, hn, hb, hbl, hbx, fun H5 q5 p0 x5 hT5 ⟨p6, g, g0, g1⟩ => ?_⟩
    have hN5 : H5 N = some (.lst (qs.map V.ref)) := x5 _ _ hN4 hNoL.1
    have x45 := (Ext.but b4).trans x5
    have ntN : NT H5 N := NT.of hN5 (fun _ z => by cases z)
    have xN := ext_upd H5 N (.lst (qs.map V.ref ++ [.ref q5]))
    refine ⟨N, _, _, rfl, rfl, hN5, ?_, r.len, Nat.lt_succ_self _, _, dn.cat (.cons ks b .nil), r, qs ++ [q5], rfl, (x3.trans x45).mut nN0, hT5.off hN5 (fun _ z => by cases z) (fun _ _ _ z => by cases z) hNoL.2, by rw [hall, hcat_assoc]; rfl, hr', hend, rfl, ?_, ?_, ?_⟩
    · rw [List.length_map]
      exact bigLine (by omega)
    · rw [upd_same, List.map_append]
      rfl
    · exact (HdsRep.snoc g g0 g1 (hR.ext x45 hT3.nt)).ext xN ntN
    · exact (hB.ext x45 hT3.nt).ext xN ntN
  | nil =>
    have ej : j = endHds (endBody (i + 2) x) hs' := hend
    have htE' := htE
    rw [← ej] at htE'
    rw [hcat_nil] at hall
    subst hall
    refine ⟨_, rfl, o, dx3, _, rfl, ho3, nS _, o, L, _, ts, j, _, rfl, hT3, htE', fun e => absurd e hkE, fun _ => ⟨_, rfl, iteF ?_⟩⟩
    dsimp only [gName]
    refine st_seq ⟨Nat.zero_le _, fun pl npl => ?_⟩
    have sl := same_upd (o := .tup []) npl
    dsimp only [gName]
    have hN4 := sl _ _ hN
    have hR4 := hR.ext (Ext.of sl) hT3.nt
    have hB4 := hB.ext (Ext.of sl) hT3.nt
    have hT4 := hT3.same sl
    have x4 := x3.trans (Ext.of sl)
    have hpl : upd H' pl (.tup []) pl = some (.tup []) := upd_same
    generalize upd H' pl (.tup []) = H4 at hN4 hR4 hB4 hT4 x4 hpl ⊢
    obtain ⟨dx4, as4, ho4, _⟩ := id hT4
    -- what follows the last block
    have fin : ∀ (H5 : Hp) (p3 : Addr) (j' : Nat), Ext o H4 H5 → TkAt a.c_Tokens H5 o L ts j' → j' = endStm i (.tr x hs' wb y) → BlkRep H5 p3 y → H5 N = some (.lst (qs.map V.ref)) →
        ∀ p2, H5 p2 = none → ∀ p, upd H5 p2 (.tup (qs.map V.ref)) p = none → Q (.ref p) (upd (upd H5 p2 (.tup (qs.map V.ref))) p (.tup [.str "try", .ref p1, .ref p2, .ref p3])) := by
      intro H5 p3 j' x5 hT5 e hB5 hN5 p2 n2 p np
      have s2 := same_upd (o := .tup (qs.map V.ref)) n2
      have sp := same_upd (o := .tup [.str "try", .ref p1, .ref p2, .ref p3]) np
      obtain ⟨q1, a1, c1⟩ := (hB4.ext x5 hT4.nt).ext (Ext.of (s2.trans sp)) hT5.nt
      obtain ⟨q3, a3, c3⟩ := hB5.ext (Ext.of (s2.trans sp)) hT5.nt
      refine q _ p ((x4.trans x5).trans (Ext.of (s2.trans sp))) (e ▸ hT5.same (s2.trans sp)) ⟨p1, p2, p3, q1, qs, q3, upd_same, ⟨a1, c1⟩, ⟨sp _ _ upd_same, (hR4.ext x5 hT4.nt).ext (Ext.of (s2.trans sp)) hT5.nt⟩, ⟨a3, c3⟩⟩
    cases wb with
    | true =>
      obtain ⟨_, _, _, _, _, _, ⟨pf, posf, htf⟩, hb2, hl2, hy⟩ := hs
      rw [← ej] at htf hb2 hy
      refine st_seq (st_yes (ans_orT (b1 := !(!(qs.map V.ref).isEmpty)) (ans_not (b := !(qs.map V.ref).isEmpty) (fun Q q => ⟨_, rfl, !(qs.map V.ref).isEmpty, .inl ⟨_, SqL.of hN4, rfl⟩, q⟩)) (fun Q q => ⟨_, rfl, o, dx4, _, rfl, ho4, nA _, o, L, 0, ts, j, _, rfl, hT4, htf, rfl, _, rfl, (by rw [decide_eq_true rfl]; exact q)⟩)) ?_)
      refine ⟨_, rfl, o, dx4, _, rfl, ho4, nT _, o, L, ts, j, _, rfl, hT4, htf, fun H5 hT5 b5 => ?_⟩
      refine ⟨_, rfl, _, rfl, o, L, ts, j + 1, d, y, rfl, (by omega), hd, hT5, hb2, hl2, hy, fun H6 p3 x6 hT6 h6 => ?_⟩
      dsimp only [gName]
      have hN6 : H6 N = some (.lst (qs.map V.ref)) := x6 _ _ (by rw [b5 N hNoL.1]; exact hN4) hNoL.1
      exact ⟨_, rfl, _, rfl, N, _, rfl, .inl ⟨SqL.of hN6, fun p2 n2 => ⟨_, rfl, (by show 4 ≤ sizeLine; decide), fun p np => fin H6 p3 _ ((Ext.but b5).trans x6) hT6 (by rw [ej]; rfl) h6 hN6 p2 n2 p np⟩⟩⟩
    | false =>
      obtain ⟨_, _, _, _, _, _, hne, hy, k3, pf, ⟨posf, htf⟩, hf1, _⟩ := hs
      rw [← ej] at htf
      subst hy
      have hq : (!(!(qs.map V.ref).isEmpty)) = false := by
        cases qs with
        | nil =>
          cases hs' with
          | nil => exact absurd rfl hne
          | cons _ _ _ => cases hqn
        | cons _ _ => rfl
      refine st_seq (st_no (ans_or (ans_is (ans_not (b := !(qs.map V.ref).isEmpty) (fun Q q => ⟨_, rfl, !(qs.map V.ref).isEmpty, .inl ⟨_, SqL.of hN4, rfl⟩, q⟩)) hq) (fun Q q => ⟨_, rfl, o, dx4, _, rfl, ho4, nA _, o, L, 0, ts, j, _, rfl, hT4, htf, rfl, _, rfl, (by rw [decide_eq_false (fun z => hf1 (V.str.inj z))]; exact q)⟩)) ?_)
      dsimp only [tNext]
      exact ⟨_, rfl, _, rfl, N, _, rfl, .inl ⟨SqL.of hN4, fun p2 n2 => ⟨_, rfl, (by show 4 ≤ sizeLine; decide), fun p np => fin H4 pl j (Ext.refl _ _) hT4 ej ⟨[], hpl, rfl⟩ hN4 p2 n2 p np⟩⟩⟩
end
end K3
namespace K3
open PySem PySem.Spec PyProof.Rows L2 TL
theorem br_sw : ¬ ("{" : Str) = "swallow" := by decide +kernel
section
variable {P : Program} {w : World} {K : PySem.W.Frag} {mg : Str → Option Value} {base : Heap} {a : Ads}
theorem sc_read_with : FnScope ["tokens", "depth", "enter", "leave", "kinds"] ["tokens", "depth"] (defScope s_read_with) := ⟨rfl, rfl, rfl, by decide +kernel, rfl, by decide +kernel, by decide +kernel⟩
theorem ok_read_with1 (T : Txt K mg a) (n k : Nat) (hk : 10 ≤ k) (ihb : FnOk P w K mg base CX0 k a.f_read_block a.f_read_block_d ["tokens", "depth"] (spBlk a.c_Tokens n)) : FnOk P w K mg base CX0 (k + 2) a.f_read_with a.f_read_with_d ["tokens", "depth"] (spNest a.c_Tokens n isWth) := by
  refine T.F_read_with.ok sc_read_with (fun vs H Q E h => ?_) (fun cdv A outer s H vs Q E hr h => ?_)
  · obtain ⟨o, L, ts, i, d, s, rfl, _⟩ := h
    rfl
  obtain ⟨o, L, ts, i, d, s, rfl, hok, hht, hd, hT, hs, q⟩ := h
  have nS : ∀ j, (tf L j).lookup ("skip" : Str) = none := fun j => tf_no _ _ (by decide +kernel) (by decide +kernel)
  have nT : ∀ j, (tf L j).lookup ("take" : Str) = none := fun j => tf_no _ _ (by decide +kernel) (by decide +kernel)
  refine ⟨_, (pss_cons (ps_set (i := 2) sc_read_with.nd rfl (Or.inl rfl) (pe_call (ok_read_call T) (hr.mono (by omega)) (by rfl) T.g_read_call T.F_read_call.kp T.b_read_call .nil pass0 (pa_cons (pv 0) pa_nil)))
    (pss_cons (ps_expr (pe_meth (pv 0) T.cl_Tokens T.m_Tokens_take (ok_Tokens_take T) (hr.mono (by omega)) T.b_Tokens_take .nil pass0 (pa_cons pe_str pa_nil)))
    (pss_cons (ps_set (i := 3) sc_read_with.nd rfl (Or.inl rfl) (pe_call (ok_read_call T) (hr.mono (by omega)) (by rfl) T.g_read_call T.F_read_call.kp T.b_read_call .nil pass0 (pa_cons (pv 0) pa_nil)))
    (pss_cons (ps_set (i := 4) sc_read_with.nd rfl (Or.inl rfl) (pe_ifExp (pt_val (pe_meth (pv 0) T.cl_Tokens T.m_Tokens_skip (ok_Tokens_skip T) (hr.mono (by omega)) T.b_Tokens_skip .nil pass0 (pa_cons pe_str pa_nil))) (pe_call (ok_read_names T) (hr.mono (by omega)) (by rfl) T.g_read_names T.F_read_names.kp T.b_read_names .nil pass0 (pa_cons (pv 0) pa_nil)) (pe_tup pa_nil)))
    (pss_one (ps_ret (pe_tup (pa_cons pe_str (pa_cons (pv 2) (pa_cons (pv 3) (pa_cons (pv 4) (pa_cons (pe_call ihb (hr.mono (by omega)) (by rfl) T.g_read_block T.F_read_block.kp T.b_read_block .nil pass0 (pa_cons (pv 0) (pa_cons (pv 1) pa_nil))) pa_nil)))))))))))), ?_⟩
  match s, hok, hht, hs, q with
  | .wth f es g fs true ks x, _, hht, ⟨_, hc1, ⟨pc, posc, htc⟩, hc2, ⟨pw, posw, htw⟩, hn, hb1, hl1, hx⟩, q =>
    have e : (Stm.wth f es g fs true ks x).ht = x.ht + 1 := rfl
    refine ⟨_, rfl, o, L, ts, i + 1, f, es, rfl, hT, hc1, fun H1 q1 x1 hT1 h1 => ?_⟩
    obtain ⟨dx1, as1, ho1, _⟩ := id hT1
    dsimp only [gName]
    refine ⟨_, rfl, o, dx1, _, rfl, ho1, nT _, o, L, ts, _, _, rfl, hT1, htc, fun H2 hT2 b2 => ?_⟩
    refine ⟨_, rfl, o, L, ts, _, g, fs, rfl, hT2, hc2, fun H3 q3 x3 hT3 h3 => ?_⟩
    obtain ⟨dx3, as3, ho3, _⟩ := id hT3
    dsimp only [gName]
    refine ⟨_, rfl, o, dx3, _, rfl, ho3, nS _, o, L, _, ts, _, _, rfl, hT3, htw, fun _ H4 hT4 b4 => ⟨_, rfl, iteT ?_⟩, fun z => absurd rfl z⟩
    refine ⟨_, rfl, o, L, ts, _, ks, rfl, hT4, hn, fun H5 p5 x5 hT5 h5 => ?_⟩
    dsimp only [gName]
    refine ⟨_, rfl, _, rfl, _, rfl, _, rfl, _, rfl, o, L, ts, _, d, x, rfl, (by omega), hd, hT5, hb1, hl1, hx, fun H6 p6 x6 hT6 h6 => ⟨(by show 5 ≤ sizeLine; decide), fun p np => ?_⟩⟩
    have sp := same_upd (o := .tup [.str "with", .ref q1, .ref q3, .ref p5, .ref p6]) np
    have x45 := (Ext.but b4).trans x5
    obtain ⟨q6, a6, c6⟩ := h6.ext (Ext.of sp) hT6.nt
    have h1' := ((((h1.ext (Ext.but b2) hT1.nt).ext x3 hT2.nt).ext x45 hT3.nt).ext x6 hT5.nt).ext (Ext.of sp) hT6.nt
    have h3' := ((h3.ext x45 hT3.nt).ext x6 hT5.nt).ext (Ext.of sp) hT6.nt
    exact q _ p (((((x1.trans (Ext.but b2)).trans x3).trans x45).trans x6).trans (Ext.of sp)) (hT6.same sp) ⟨q1, q3, p5, p6, q6, upd_same, h1', h3', sp _ _ (x6.tup hT5.nt h5), a6, c6⟩
  | .wth f es g fs false ks x, _, hht, ⟨_, hc1, ⟨pc, posc, htc⟩, hc2, hks, ⟨pw, posw, htw⟩, hl1, hx⟩, q =>
    have e : (Stm.wth f es g fs false ks x).ht = x.ht + 1 := rfl
    refine ⟨_, rfl, o, L, ts, i + 1, f, es, rfl, hT, hc1, fun H1 q1 x1 hT1 h1 => ?_⟩
    obtain ⟨dx1, as1, ho1, _⟩ := id hT1
    dsimp only [gName]
    refine ⟨_, rfl, o, dx1, _, rfl, ho1, nT _, o, L, ts, _, _, rfl, hT1, htc, fun H2 hT2 b2 => ?_⟩
    refine ⟨_, rfl, o, L, ts, _, g, fs, rfl, hT2, hc2, fun H3 q3 x3 hT3 h3 => ?_⟩
    obtain ⟨dx3, as3, ho3, _⟩ := id hT3
    dsimp only [gName]
    refine ⟨_, rfl, o, dx3, _, rfl, ho3, nS _, o, L, _, ts, _, _, rfl, hT3, htw, fun z => absurd z br_sw, fun _ => ⟨_, rfl, iteF ?_⟩⟩
    refine ⟨Nat.zero_le _, fun p5 np5 => ?_⟩
    have s5 := same_upd (o := .tup []) np5
    have hT5 := hT3.same s5
    dsimp only [gName]
    refine ⟨_, rfl, _, rfl, _, rfl, _, rfl, _, rfl, o, L, ts, _, d, x, rfl, (by omega), hd, hT5, ⟨pw, posw, htw⟩, hl1, hx, fun H6 p6 x6 hT6 h6 => ⟨(by show 5 ≤ sizeLine; decide), fun p np => ?_⟩⟩
    have sp := same_upd (o := .tup [.str "with", .ref q1, .ref q3, .ref p5, .ref p6]) np
    have x45 := Ext.of (o := o) s5
    obtain ⟨q6, a6, c6⟩ := h6.ext (Ext.of sp) hT6.nt
    have h1' := ((((h1.ext (Ext.but b2) hT1.nt).ext x3 hT2.nt).ext x45 hT3.nt).ext x6 hT5.nt).ext (Ext.of sp) hT6.nt
    have h3' := ((h3.ext x45 hT3.nt).ext x6 hT5.nt).ext (Ext.of sp) hT6.nt
    subst hks
    exact q _ p (((((x1.trans (Ext.but b2)).trans x3).trans x45).trans x6).trans (Ext.of sp)) (hT6.same sp) ⟨q1, q3, p5, p6, q6, upd_same, h1', h3', sp _ _ (x6.tup hT5.nt upd_same), a6, c6⟩
end
end K3
namespace K3
open PySem PySem.Spec PyProof.Rows L2 TL
/-- the two dicts of readers -/
structure Dcts (K : PySem.W.Frag) (w : World) (mg : Str → Option Value) (a : Ads) (tP tN : Addr) : Prop where
  gP : mg "PLAIN" = some (.ref tP)
  gN : mg "NESTING" = some (.ref tN)
  dP : ∃ es n, KDict K w tP es n
  dN : ∃ es n, KDict K w tN es n
  p1 : PySem.W.nsIn K tP "risk" = some (some (.ref a.f_read_risk))
  p2 : PySem.W.nsIn K tP "raise" = some (some (.ref a.f_read_raise))
  p3 : PySem.W.nsIn K tP "return" = some (some (.ref a.f_read_return))
  q1 : PySem.W.nsIn K tP "if" = some none
  q2 : PySem.W.nsIn K tP "while" = some none
  q3 : PySem.W.nsIn K tP "undo" = some none
  q4 : PySem.W.nsIn K tP "try" = some none
  q5 : PySem.W.nsIn K tP "with" = some none
  n1 : PySem.W.nsIn K tN "if" = some (some (.ref a.f_read_if))
  n2 : PySem.W.nsIn K tN "while" = some (some (.ref a.f_read_while))
  n3 : PySem.W.nsIn K tN "undo" = some (some (.ref a.f_read_undo))
  n4 : PySem.W.nsIn K tN "try" = some (some (.ref a.f_read_try))
  n5 : PySem.W.nsIn K tN "with" = some (some (.ref a.f_read_with))
section
variable {P : Program} {w : World} {K : PySem.W.Frag} {mg : Str → Option Value} {base : Heap} {a : Ads}
/-- the readers of statements with blocks, for blocks of height m -/
structure Nst (P : Program) (w : World) (K : PySem.W.Frag) (mg : Str → Option Value) (base : Heap) (a : Ads) (k m : Nat) : Prop where
  h1 : Held P w K mg base k a.f_read_if (spNest a.c_Tokens m isIf)
  h2 : Held P w K mg base k a.f_read_while (spNest a.c_Tokens m isWhl)
  h3 : Held P w K mg base k a.f_read_undo (spNest a.c_Tokens m isUndo)
  h4 : Held P w K mg base k a.f_read_try (spNest a.c_Tokens m isTr)
  h5 : Held P w K mg base k a.f_read_with (spNest a.c_Tokens m isWth)
theorem one_point {k : Nat} {f : Addr} {sp : Sp} (h : Held P w K mg base k f sp) : ∃ S : Addr → Option Sp, S f = some sp ∧ ∀ f' sp', S f' = some sp' → Held P w K mg base k f' sp' := ⟨fun f' => if f' = f then some sp else none, if_pos rfl, fun f' sp' e => by
  dsimp only at e
  by_cases h' : f' = f
  · subst h'
    rw [if_pos rfl] at e
    cases e
    exact h
  · rw [if_neg h'] at e
    cases e⟩
theorem no_point {k : Nat} : ∃ S : Addr → Option Sp, ∀ f' sp', S f' = some sp' → Held P w K mg base k f' sp' := ⟨fun _ => none, fun f' sp' e => by cases e⟩
theorem w_if : ¬ ("if" : Str) = "NAME" := by decide +kernel
theorem w_wh : ¬ ("while" : Str) = "NAME" := by decide +kernel
theorem w_un : ¬ ("undo" : Str) = "NAME" := by decide +kernel
theorem w_tr : ¬ ("try" : Str) = "NAME" := by decide +kernel
theorem w_wi : ¬ ("with" : Str) = "NAME" := by decide +kernel
theorem w_ri : ¬ ("risk" : Str) = "NAME" := by decide +kernel
theorem w_ra : ¬ ("raise" : Str) = "NAME" := by decide +kernel
theorem w_re : ¬ ("return" : Str) = "NAME" := by decide +kernel
/-- the three ways of a statement -/
theorem ways (T : Txt K mg a) {tP tN : Addr} (D : Dcts K w mg a tP tN) {n k : Nat} (hN : n = 0 ∨ ∃ m, n = m + 1 ∧ Nst P w K mg base a k m) {ts : List Tok3} {i : Nat} : ∀ {s : Stm}, s.ht ≤ n → StmAt ts i s →
    (∃ e, s = .pl e ∧ NamedAt ts i e ∧ e.word = none) ∨
    (∃ e kw f ok, s = .pl e ∧ e.word = some kw ∧ (∃ p, At ts i kw p) ∧ RestPl ts (i + 1) e ∧ ¬ kw = "NAME" ∧ PySem.W.nsIn K tP kw = some (some (.ref f)) ∧ Held P w K mg base 6 f (spPl a.c_Tokens ok) ∧ ok e = true) ∨
    (∃ kw f ok m, n = m + 1 ∧ (∃ p, At ts i kw p) ∧ ¬ kw = "NAME" ∧ PySem.W.nsIn K tP kw = some none ∧ PySem.W.nsIn K tN kw = some (some (.ref f)) ∧ Held P w K mg base k f (spNest a.c_Tokens m ok) ∧ ok s = true) := by
  have pos : ∀ {s : Stm}, s.ht ≤ n → 1 ≤ s.ht → ∃ m, n = m + 1 ∧ Nst P w K mg base a k m := fun h1 h2 => by
    rcases hN with h | h
    · omega
    · exact h
  intro s hht hs
  match s, hht, hs with
  | .pl (.set v b t r), _, hs => exact .inl ⟨_, rfl, hs, rfl⟩
  | .pl (.inp v), _, hs => exact .inl ⟨_, rfl, hs, rfl⟩
  | .pl (.call tg f es), _, hs => exact .inl ⟨_, rfl, hs, rfl⟩
  | .pl (.risk ks), _, hs => exact .inr (.inl ⟨_, _, _, isRisk, rfl, rfl, hs.1, hs.2, w_ri, D.p1, ⟨_, _, ok_read_risk T, T.F_read_risk.kp, T.b_read_risk⟩, rfl⟩)
  | .pl (.rse ks), _, hs => exact .inr (.inl ⟨_, _, _, isRse, rfl, rfl, hs.1, hs.2, w_ra, D.p2, ⟨_, _, ok_read_raise T, T.F_read_raise.kp, T.b_read_raise⟩, rfl⟩)
  | .pl (.ret b t r), _, hs => exact .inr (.inl ⟨_, _, _, isRet, rfl, rfl, hs.1, hs.2, w_re, D.p3, ⟨_, _, ok_read_return T, T.F_read_return.kp, T.b_read_return⟩, rfl⟩)
  | .iff x true y, hht, hs =>
    obtain ⟨m, e, N⟩ := pos hht (by show 1 ≤ _ + 1; omega)
    exact .inr (.inr ⟨_, _, isIf, m, e, hs.1, w_if, D.q1, D.n1, N.h1, rfl⟩)
  | .iff x false y, hht, hs =>
    obtain ⟨m, e, N⟩ := pos hht (by show 1 ≤ _ + 1; omega)
    exact .inr (.inr ⟨_, _, isIf, m, e, hs.1, w_if, D.q1, D.n1, N.h1, rfl⟩)
  | .whl x, hht, hs =>
    obtain ⟨m, e, N⟩ := pos hht (by show 1 ≤ _ + 1; omega)
    exact .inr (.inr ⟨_, _, isWhl, m, e, hs.1, w_wh, D.q2, D.n2, N.h2, rfl⟩)
  | .undo vs x, hht, hs =>
    obtain ⟨m, e, N⟩ := pos hht (by show 1 ≤ _ + 1; omega)
    exact .inr (.inr ⟨_, _, isUndo, m, e, hs.1, w_un, D.q3, D.n3, N.h3, rfl⟩)
  | .tr x h true y, hht, hs =>
    obtain ⟨m, e, N⟩ := pos hht (by show 1 ≤ _ + 1; omega)
    exact .inr (.inr ⟨_, _, isTr, m, e, hs.1, w_tr, D.q4, D.n4, N.h4, rfl⟩)
  | .tr x h false y, hht, hs =>
    obtain ⟨m, e, N⟩ := pos hht (by show 1 ≤ _ + 1; omega)
    exact .inr (.inr ⟨_, _, isTr, m, e, hs.1, w_tr, D.q4, D.n4, N.h4, rfl⟩)
  | .wth f es g fs true ks x, hht, hs =>
    obtain ⟨m, e, N⟩ := pos hht (by show 1 ≤ _ + 1; omega)
    exact .inr (.inr ⟨_, _, isWth, m, e, hs.1, w_wi, D.q5, D.n5, N.h5, rfl⟩)
  | .wth f es g fs false ks x, hht, hs =>
    obtain ⟨m, e, N⟩ := pos hht (by show 1 ≤ _ + 1; omega)
    exact .inr (.inr ⟨_, _, isWth, m, e, hs.1, w_wi, D.q5, D.n5, N.h5, rfl⟩)
theorem sc_read_statement : FnScope ["tokens", "depth", "word", "read_plain", "read_nesting"] ["tokens", "depth"] (defScope s_read_statement) := ⟨rfl, rfl, rfl, by decide +kernel, rfl, by decide +kernel, by decide +kernel⟩
theorem ok_read_statement1 (T : Txt K mg a) {tP tN : Addr} (D : Dcts K w mg a tP tN) (n k : Nat) (hk : 10 ≤ k) (hN : n = 0 ∨ ∃ m, n = m + 1 ∧ Nst P w K mg base a k m) : FnOk P w K mg base CX0 (k + 1) a.f_read_statement a.f_read_statement_d ["tokens", "depth"] (spStm a.c_Tokens n) := by
  refine T.F_read_statement.ok sc_read_statement (fun vs H Q E h => ?_) (fun cdv A outer s H vs Q E hr h => ?_)
  · obtain ⟨o, L, ts, i, d, s, rfl, _⟩ := h
    rfl
  obtain ⟨o, L, ts, i, d, s, rfl, hht, hd, hT, hs, q⟩ := h
  obtain ⟨dx, as, ho, _⟩ := id hT
  have nT : ∀ j, (tf L j).lookup ("take" : Str) = none := fun j => tf_no _ _ (by decide +kernel) (by decide +kernel)
  have nA : ∀ j, (tf L j).lookup ("kind_ahead" : Str) = none := fun j => tf_no _ _ (by decide +kernel) (by decide +kernel)
  obtain ⟨ds_Tokens_kind_ahead, v_Tokens_kind_ahead, b_Tokens_kind_ahead⟩ := T.b_Tokens_kind_ahead
  obtain ⟨esP, nP, DP⟩ := D.dP
  obtain ⟨esN, nN, DN⟩ := D.dN
  rcases ways T D hN hht hs with ⟨e, rfl, he, hw⟩ | ⟨e, kw, f, ok, rfl, hw, ⟨p, pos, ht⟩, hrest, hkw, hns, hH, hok⟩ | ⟨kw, f, ok, m, rfl, ⟨p, pos, ht⟩, hkw, hno, hns, hH, hok⟩
  · obtain ⟨SP, hSP⟩ := no_point (P := P) (w := w) (K := K) (mg := mg) (base := base) (k := 6)
    obtain ⟨SN, hSN⟩ := no_point (P := P) (w := w) (K := K) (mg := mg) (base := base) (k := k)
    refine ⟨_, (pss_cons (ps_set (i := 2) sc_read_statement.nd rfl (Or.inl rfl) (pe_meth0 (pv 0) T.cl_Tokens T.m_Tokens_kind_ahead (ok_Tokens_kind_ahead T) (hr.mono (by omega)) b_Tokens_kind_ahead v_Tokens_kind_ahead pass0))
    (pss_cons (ps_if (pt_cmpR op_eq (pv 2) (pe_gs rfl T.g_NAME) (nomark _))
      (pss_one (ps_ret (pe_call (ok_read_named T) (hr.mono (by omega)) (by rfl) T.g_read_named T.F_read_named.kp T.b_read_named .nil pass0 (pa_cons (pv 0) pa_nil))))
      pss_nil)
    (pss_cons (ps_if (pt_cmpR (op_in_kd DP) (pv 2) (pe_gr rfl D.gP) (by rfl))
      (pss_cons (ps_expr (pe_meth (pv 0) T.cl_Tokens T.m_Tokens_take (ok_Tokens_take T) (hr.mono (by omega)) T.b_Tokens_take .nil pass0 (pa_cons (pv 2) pa_nil)))
      (pss_cons (ps_set (i := 3) sc_read_statement.nd rfl (Or.inl rfl) (pe_ix (show IxR _ (rIxD K w) from ix_kdict) (pe_gr rfl D.gP) (pv 2) (fun _ _ => rfl)))
      (pss_one (ps_ret (pe_callA (i := 3) (S := SP) hSP (hr.mono (by omega)) rfl (Or.inl rfl) (pa_cons (pv 0) pa_nil))))))
      pss_nil)
    (pss_cons (ps_if (pt_cmpR (op_in_kd DN) (pv 2) (pe_gr rfl D.gN) (by rfl))
      (pss_cons (ps_expr (pe_meth (pv 0) T.cl_Tokens T.m_Tokens_take (ok_Tokens_take T) (hr.mono (by omega)) T.b_Tokens_take .nil pass0 (pa_cons (pv 2) pa_nil)))
      (pss_cons (ps_set (i := 4) sc_read_statement.nd rfl (Or.inl rfl) (pe_ix (show IxR _ (rIxD K w) from ix_kdict) (pe_gr rfl D.gN) (pv 2) (fun _ _ => rfl)))
      (pss_one (ps_ret (pe_callA (i := 4) (S := SN) hSN (hr.mono (by omega)) rfl (Or.inl rfl) (pa_cons (pv 0) (pa_cons (pv 1) pa_nil)))))))
      pss_nil)
    (pss_one ps_never))))), ?_⟩
    obtain ⟨p, pos, ht⟩ := named_first he
    refine ⟨_, rfl, o, dx, _, rfl, ho, nA _, o, L, 0, ts, i, _, rfl, hT, ht, ?_⟩
    dsimp only [gName]
    refine st_seq (st_yes (fun Q q => ⟨_, rfl, rfl, _, rfl, (by rw [decide_eq_true rfl]; exact q)⟩) ?_)
    refine ⟨_, rfl, o, L, ts, i, e, rfl, hT, he, fun H' q1 x1 hT1 h1 => q H' q1 x1 ?_ h1⟩
    have e2 : endStm i (.pl e) = endNamed i e := by
      show endPlS i e = _
      unfold endPlS
      rw [hw]
    rw [e2]
    exact hT1
  · obtain ⟨SP, hSf, hSP⟩ := one_point hH
    obtain ⟨SN, hSN⟩ := no_point (P := P) (w := w) (K := K) (mg := mg) (base := base) (k := k)
    refine ⟨_, (pss_cons (ps_set (i := 2) sc_read_statement.nd rfl (Or.inl rfl) (pe_meth0 (pv 0) T.cl_Tokens T.m_Tokens_kind_ahead (ok_Tokens_kind_ahead T) (hr.mono (by omega)) b_Tokens_kind_ahead v_Tokens_kind_ahead pass0))
    (pss_cons (ps_if (pt_cmpR op_eq (pv 2) (pe_gs rfl T.g_NAME) (nomark _))
      (pss_one (ps_ret (pe_call (ok_read_named T) (hr.mono (by omega)) (by rfl) T.g_read_named T.F_read_named.kp T.b_read_named .nil pass0 (pa_cons (pv 0) pa_nil))))
      pss_nil)
    (pss_cons (ps_if (pt_cmpR (op_in_kd DP) (pv 2) (pe_gr rfl D.gP) (by rfl))
      (pss_cons (ps_expr (pe_meth (pv 0) T.cl_Tokens T.m_Tokens_take (ok_Tokens_take T) (hr.mono (by omega)) T.b_Tokens_take .nil pass0 (pa_cons (pv 2) pa_nil)))
      (pss_cons (ps_set (i := 3) sc_read_statement.nd rfl (Or.inl rfl) (pe_ix (show IxR _ (rIxD K w) from ix_kdict) (pe_gr rfl D.gP) (pv 2) (fun _ _ => rfl)))
      (pss_one (ps_ret (pe_callA (i := 3) (S := SP) hSP (hr.mono (by omega)) rfl (Or.inl rfl) (pa_cons (pv 0) pa_nil))))))
      pss_nil)
    (pss_cons (ps_if (pt_cmpR (op_in_kd DN) (pv 2) (pe_gr rfl D.gN) (by rfl))
      (pss_cons (ps_expr (pe_meth (pv 0) T.cl_Tokens T.m_Tokens_take (ok_Tokens_take T) (hr.mono (by omega)) T.b_Tokens_take .nil pass0 (pa_cons (pv 2) pa_nil)))
      (pss_cons (ps_set (i := 4) sc_read_statement.nd rfl (Or.inl rfl) (pe_ix (show IxR _ (rIxD K w) from ix_kdict) (pe_gr rfl D.gN) (pv 2) (fun _ _ => rfl)))
      (pss_one (ps_ret (pe_callA (i := 4) (S := SN) hSN (hr.mono (by omega)) rfl (Or.inl rfl) (pa_cons (pv 0) (pa_cons (pv 1) pa_nil)))))))
      pss_nil)
    (pss_one ps_never))))), ?_⟩
    refine ⟨_, rfl, o, dx, _, rfl, ho, nA _, o, L, 0, ts, i, _, rfl, hT, ht, ?_⟩
    dsimp only [gName]
    refine st_seq (st_no (fun Q q => ⟨_, rfl, rfl, _, rfl, (by rw [decide_eq_false (fun z => hkw (V.str.inj z))]; exact q)⟩) ?_)
    dsimp only [tNext]
    refine st_seq (st_yes (fun Q q => ⟨_, rfl, _, _, rfl, rfl, hns, _, rfl, q⟩) ?_)
    refine ⟨_, rfl, o, dx, _, rfl, ho, nT _, _, rfl, o, L, ts, i, _, rfl, hT, ht, fun H1 hT1 b1 => ?_⟩
    refine ⟨_, rfl, tP, _, .ref f, rfl, rfl, ⟨esP, nP, _, DP.at_, DP.lit, hns, rfl⟩, ?_⟩
    dsimp only [gName]
    refine ⟨f, _, rfl, hSf, _, rfl, o, L, ts, i + 1, e, rfl, hok, hT1, hrest, fun H' q1 x1 hT2 h1 => q H' q1 ((Ext.but b1).trans x1) ?_ h1⟩
    have e2 : endStm i (.pl e) = endPl (i + 1) e := by
      show endPlS i e = _
      unfold endPlS
      rw [hw]
    rw [e2]
    exact hT2
  · obtain ⟨SP, hSP⟩ := no_point (P := P) (w := w) (K := K) (mg := mg) (base := base) (k := 6)
    obtain ⟨SN, hSf, hSN⟩ := one_point hH
    refine ⟨_, (pss_cons (ps_set (i := 2) sc_read_statement.nd rfl (Or.inl rfl) (pe_meth0 (pv 0) T.cl_Tokens T.m_Tokens_kind_ahead (ok_Tokens_kind_ahead T) (hr.mono (by omega)) b_Tokens_kind_ahead v_Tokens_kind_ahead pass0))
    (pss_cons (ps_if (pt_cmpR op_eq (pv 2) (pe_gs rfl T.g_NAME) (nomark _))
      (pss_one (ps_ret (pe_call (ok_read_named T) (hr.mono (by omega)) (by rfl) T.g_read_named T.F_read_named.kp T.b_read_named .nil pass0 (pa_cons (pv 0) pa_nil))))
      pss_nil)
    (pss_cons (ps_if (pt_cmpR (op_in_kd DP) (pv 2) (pe_gr rfl D.gP) (by rfl))
      (pss_cons (ps_expr (pe_meth (pv 0) T.cl_Tokens T.m_Tokens_take (ok_Tokens_take T) (hr.mono (by omega)) T.b_Tokens_take .nil pass0 (pa_cons (pv 2) pa_nil)))
      (pss_cons (ps_set (i := 3) sc_read_statement.nd rfl (Or.inl rfl) (pe_ix (show IxR _ (rIxD K w) from ix_kdict) (pe_gr rfl D.gP) (pv 2) (fun _ _ => rfl)))
      (pss_one (ps_ret (pe_callA (i := 3) (S := SP) hSP (hr.mono (by omega)) rfl (Or.inl rfl) (pa_cons (pv 0) pa_nil))))))
      pss_nil)
    (pss_cons (ps_if (pt_cmpR (op_in_kd DN) (pv 2) (pe_gr rfl D.gN) (by rfl))
      (pss_cons (ps_expr (pe_meth (pv 0) T.cl_Tokens T.m_Tokens_take (ok_Tokens_take T) (hr.mono (by omega)) T.b_Tokens_take .nil pass0 (pa_cons (pv 2) pa_nil)))
      (pss_cons (ps_set (i := 4) sc_read_statement.nd rfl (Or.inl rfl) (pe_ix (show IxR _ (rIxD K w) from ix_kdict) (pe_gr rfl D.gN) (pv 2) (fun _ _ => rfl)))
      (pss_one (ps_ret (pe_callA (i := 4) (S := SN) hSN (hr.mono (by omega)) rfl (Or.inl rfl) (pa_cons (pv 0) (pa_cons (pv 1) pa_nil)))))))
      pss_nil)
    (pss_one ps_never))))), ?_⟩
    refine ⟨_, rfl, o, dx, _, rfl, ho, nA _, o, L, 0, ts, i, _, rfl, hT, ht, ?_⟩
    dsimp only [gName]
    refine st_seq (st_no (fun Q q => ⟨_, rfl, rfl, _, rfl, (by rw [decide_eq_false (fun z => hkw (V.str.inj z))]; exact q)⟩) ?_)
    dsimp only [tNext]
    refine st_seq (st_no (fun Q q => ⟨_, rfl, _, _, rfl, rfl, hno, _, rfl, q⟩) ?_)
    dsimp only [tNext]
    refine st_seq (st_yes (fun Q q => ⟨_, rfl, _, _, rfl, rfl, hns, _, rfl, q⟩) ?_)
    refine ⟨_, rfl, o, dx, _, rfl, ho, nT _, _, rfl, o, L, ts, i, _, rfl, hT, ht, fun H1 hT1 b1 => ?_⟩
    refine ⟨_, rfl, tN, _, .ref f, rfl, rfl, ⟨esN, nN, _, DN.at_, DN.lit, hns, rfl⟩, ?_⟩
    dsimp only [gName]
    refine ⟨f, _, rfl, hSf, _, rfl, _, rfl, o, L, ts, i, d, s, rfl, hok, hht, (by omega), hT1, hs, fun H' q1 x1 hT2 h1 => q H' q1 ((Ext.but b1).trans x1) hT2 h1⟩
end
end K3
namespace K3
open PySem PySem.Spec PyProof.Rows L2 TL
/-- the level of a statement of height n is lv n + 1, of a block lv n + 2 -/
def lv : Nat → Nat
  | 0 => 10
  | n + 1 => lv n + 4
theorem lv_ge : ∀ n, 10 ≤ lv n
  | 0 => Nat.le_refl _
  | n + 1 => Nat.le_trans (lv_ge n) (Nat.le_add_right _ _)
/-- a function behind its def -/
structure Fn where
  nm : Str
  ps : List El
  bk : Blk
structure FnAt (ts : List Tok3) (i : Nat) (f : Fn) : Prop where
  nm : At ts i "NAME" f.nm
  ps : ListedAt ts (i + 1) f.ps
  ok : ∀ e ∈ f.ps, isPar e = true
  sz : f.ps.length ≤ 1000
  op : ∃ p, At ts (endListed (i + 1) f.ps) "{" p
  ln : f.bk.len ≤ 1000
  bd : BodyAt ts (endListed (i + 1) f.ps + 1) f.bk
def endFn (i : Nat) (f : Fn) : Nat := endBody (endListed (i + 1) f.ps + 1) f.bk
def FnRep (H : Hp) (q : Addr) (f : Fn) : Prop := ∃ (p p2 : Addr) (qs : List Addr), H q = some (.tup [.str f.nm, .ref p, .ref p2]) ∧ H p = some (.tup (qs.map V.ref)) ∧ ElsRep H qs f.ps ∧ BlkRep H p2 f.bk
theorem FnRep.ext {o : Addr} {H H' : Hp} (x : Ext o H H') (ho : NT H o) {q : Addr} {f : Fn} (h : FnRep H q f) : FnRep H' q f := by
  obtain ⟨p, p2, qs, h1, h2, h3, h4⟩ := h
  exact ⟨p, p2, qs, x.tup ho h1, x.tup ho h2, h3.ext x ho, h4.ext x ho⟩
def spFun (C : Addr) (n : Nat) : Sp := fun vs H Q _ => ∃ (o L : Addr) (ts : List Tok3) (i : Nat) (f : Fn), vs = [.ref o] ∧ f.bk.ht ≤ n ∧ n < 30 ∧ TkAt C H o L ts i ∧ FnAt ts i f ∧
  ∀ H' q, Ext o H H' → TkAt C H' o L ts (endFn i f) → FnRep H' q f → Q (.ref q) H'
section
variable {P : Program} {w : World} {K : PySem.W.Frag} {mg : Str → Option Value} {base : Heap} {a : Ads}
theorem nst_of (T : Txt K mg a) (m k : Nat) (hk : 10 ≤ k) (hb : FnOk P w K mg base CX0 k a.f_read_block a.f_read_block_d ["tokens", "depth"] (spBlk a.c_Tokens m)) : Nst P w K mg base a (k + 2) m :=
  ⟨⟨_, _, ok_read_if1 T m k hk hb, T.F_read_if.kp, T.b_read_if⟩, ⟨_, _, ok_read_while1 T m k hk hb, T.F_read_while.kp, T.b_read_while⟩, ⟨_, _, ok_read_undo1 T m k hk hb, T.F_read_undo.kp, T.b_read_undo⟩,
    ⟨_, _, ok_read_try1 T m k hk hb (ok_read_handler1 T m k hk hb), T.F_read_try.kp, T.b_read_try⟩, ⟨_, _, ok_read_with1 T m k hk hb, T.F_read_with.kp, T.b_read_with⟩⟩
theorem ok_blocks (T : Txt K mg a) {tP tN : Addr} (D : Dcts K w mg a tP tN) : ∀ n, FnOk P w K mg base CX0 (lv n + 2) a.f_read_block a.f_read_block_d ["tokens", "depth"] (spBlk a.c_Tokens n)
  | 0 => ok_read_block1 T 0 (lv 0 + 1) (by decide) (ok_read_statement1 T D 0 (lv 0) (lv_ge 0) (.inl rfl))
  | n + 1 => ok_read_block1 T (n + 1) (lv (n + 1) + 1) (Nat.le_trans (show 2 ≤ 10 by decide) (Nat.le_trans (lv_ge (n + 1)) (Nat.le_add_right _ _)))
      (ok_read_statement1 T D (n + 1) (lv (n + 1)) (lv_ge (n + 1)) (.inr ⟨n, rfl, nst_of T n (lv n + 2) (Nat.le_trans (lv_ge n) (Nat.le_add_right _ _)) (ok_blocks T D n)⟩))
theorem sc_read_function : FnScope ["tokens", "name", "params"] ["tokens"] (defScope s_read_function) := ⟨rfl, rfl, rfl, by decide +kernel, rfl, by decide +kernel, by decide +kernel⟩
theorem ok_read_function1 (T : Txt K mg a) (n k : Nat) (hk : 10 ≤ k) (ihb : FnOk P w K mg base CX0 k a.f_read_block a.f_read_block_d ["tokens", "depth"] (spBlk a.c_Tokens n)) : FnOk P w K mg base CX0 (k + 1) a.f_read_function a.f_read_function_d ["tokens"] (spFun a.c_Tokens n) := by
  refine T.F_read_function.ok sc_read_function (fun vs H Q E h => ?_) (fun cdv A outer s H vs Q E hr h => ?_)
  · obtain ⟨o, L, ts, i, f, rfl, _⟩ := h
    rfl
  obtain ⟨o, L, ts, i, f, rfl, hht, hn, hT, ⟨⟨pos, ht⟩, hps, hok, hsz, hop, hln, hbd⟩, q⟩ := h
  obtain ⟨dx, as, ho, _⟩ := id hT
  have nT : ∀ j, (tf L j).lookup ("take" : Str) = none := fun j => tf_no _ _ (by decide +kernel) (by decide +kernel)
  refine ⟨_, (pss_cons (ps_set (i := 1) sc_read_function.nd rfl (Or.inl rfl) (pe_meth (pv 0) T.cl_Tokens T.m_Tokens_take (ok_Tokens_take T) (hr.mono (by omega)) T.b_Tokens_take .nil pass0 (pa_cons (pe_gs rfl T.g_NAME) pa_nil)))
    (pss_cons (ps_set (i := 2) sc_read_function.nd rfl (Or.inl rfl) (pe_call (ok_read_listed T) (hr.mono (by omega)) (by rfl) T.g_read_listed T.F_read_listed.kp T.b_read_listed .nil pass0 (pa_cons (pv 0) (pa_cons (pe_gr rfl T.g_read_param) pa_nil))))
    (pss_one (ps_ret (pe_tup (pa_cons (pv 1) (pa_cons (pv 2) (pa_cons (pe_call ihb (hr.mono (by omega)) (by rfl) T.g_read_block T.F_read_block.kp T.b_read_block .nil pass0 (pa_cons (pv 0) (pa_cons pe_int pa_nil))) pa_nil)))))))), ?_⟩
  refine ⟨_, rfl, o, dx, _, rfl, ho, nT _, o, L, ts, i, _, rfl, hT, ht, fun H1 hT1 b1 => ?_⟩
  dsimp only [gName]
  refine ⟨_, rfl, o, L, a.f_read_param, isPar, ts, i + 1, f.ps, rfl, ⟨_, _, ok_read_param T, T.F_read_param.kp, T.b_read_param⟩, hok, hT1, hsz, hps, fun H2 p2 qs x2 hT2 hp2 hq2 => ?_⟩
  dsimp only [gName]
  refine ⟨_, rfl, _, rfl, _, rfl, o, L, ts, _, 0, f.bk, rfl, hht, (by omega), hT2, hop, hln, hbd, fun H3 p3 x3 hT3 h3 => ⟨(by show 3 ≤ sizeLine; decide), fun p np => ?_⟩⟩
  have sp := same_upd (o := .tup [.str f.nm, .ref p2, .ref p3]) np
  exact q _ p (((Ext.but b1).trans (x2.trans x3)).trans (Ext.of sp)) (hT3.same sp) ⟨p2, p3, qs, upd_same, sp _ _ (x3.tup hT2.nt hp2), (hq2.ext x3 hT2.nt).ext (Ext.of sp) hT3.nt, h3.ext (Ext.of sp) hT3.nt⟩
end
end K3
namespace K3
open PySem PySem.Spec PyProof.Rows L2 TL
/-! ### whole texts -/
def DeclAt (ts : List Tok3) (i : Nat) (kw : Str) (ns : List Str) (j : Nat) : Prop := (ns = [] ∧ j = i ∧ ∃ k p, At ts i k p ∧ k ≠ kw) ∨
  (j = i + 1 + ns.length ∧ 0 < ns.length ∧ ns.length ≤ 1000 ∧ (∃ p, At ts i kw p) ∧ (∀ j v, ns[j]? = some v → At ts (i + 1 + j) "NAME" v) ∧ ∃ k p, At ts (i + 1 + ns.length) k p ∧ k ≠ "NAME")
abbrev Kp := Bool × Tm3 × List Item
def KeepsAt (ts : List Tok3) : Nat → List Kp → Prop
  | i, [] => ∃ k p, At ts i k p ∧ ¬ k = "keep"
  | i, (b, t, r) :: l => (∃ p, At ts i "keep" p) ∧ ExprAt ts (i + 1) b t r ∧ r.length < 60 ∧ KeepsAt ts (endE (i + 1) b t r) l
def endKeeps : Nat → List Kp → Nat
  | i, [] => i
  | i, (b, t, r) :: l => endKeeps (endE (i + 1) b t r) l
def FnsAt (ts : List Tok3) (n : Nat) : Nat → List Fn → Prop
  | i, [] => ∃ p, At ts i "END" p
  | i, f :: l => (∃ p, At ts i "def" p) ∧ FnAt ts (i + 1) f ∧ f.bk.ht ≤ n ∧ FnsAt ts n (endFn (i + 1) f) l
def SumsRep (H : Hp) : List Addr → List Kp → Prop
  | [], [] => True
  | q :: qs, (b, t, r) :: l => SumAt H q ((b, t) :: r) ∧ SumsRep H qs l
  | _, _ => False
theorem SumsRep.ext {o : Addr} {H H' : Hp} (x : Ext o H H') (ho : NT H o) : ∀ {qs : List Addr} {l : List Kp}, SumsRep H qs l → SumsRep H' qs l
  | [], [], _ => trivial
  | _ :: _, (_, _, _) :: _, h => ⟨h.1.ext x ho, SumsRep.ext x ho h.2⟩
  | [], _ :: _, h => h.elim
  | _ :: _, [], h => h.elim
theorem SumsRep.app {H : Hp} {q : Addr} {b : Bool} {t : Tm3} {r : List Item} (hq : SumAt H q ((b, t) :: r)) : ∀ {qs : List Addr} {l : List Kp}, SumsRep H qs l → SumsRep H (qs ++ [q]) (l ++ [(b, t, r)])
  | [], [], _ => ⟨hq, trivial⟩
  | _ :: _, (_, _, _) :: _, h => ⟨h.1, SumsRep.app hq h.2⟩
  | [], _ :: _, h => h.elim
  | _ :: _, [], h => h.elim
theorem SumsRep.len {H : Hp} : ∀ {qs : List Addr} {l : List Kp}, SumsRep H qs l → qs.length = l.length
  | [], [], _ => rfl
  | _ :: _, (_, _, _) :: _, h => by rw [List.length_cons, List.length_cons, SumsRep.len h.2]
  | [], _ :: _, h => h.elim
  | _ :: _, [], h => h.elim
def FnsRep (H : Hp) : List Addr → List Fn → Prop
  | [], [] => True
  | q :: qs, f :: l => FnRep H q f ∧ FnsRep H qs l
  | _, _ => False
theorem FnsRep.ext {o : Addr} {H H' : Hp} (x : Ext o H H') (ho : NT H o) : ∀ {qs : List Addr} {l : List Fn}, FnsRep H qs l → FnsRep H' qs l
  | [], [], _ => trivial
  | _ :: _, _ :: _, h => ⟨h.1.ext x ho, FnsRep.ext x ho h.2⟩
  | [], _ :: _, h => h.elim
  | _ :: _, [], h => h.elim
theorem FnsRep.app {H : Hp} {q : Addr} {f : Fn} (hq : FnRep H q f) : ∀ {qs : List Addr} {l : List Fn}, FnsRep H qs l → FnsRep H (qs ++ [q]) (l ++ [f])
  | [], [], _ => ⟨hq, trivial⟩
  | _ :: _, _ :: _, h => ⟨h.1, FnsRep.app hq h.2⟩
  | [], _ :: _, h => h.elim
  | _ :: _, [], h => h.elim
theorem FnsRep.len {H : Hp} : ∀ {qs : List Addr} {l : List Fn}, FnsRep H qs l → qs.length = l.length
  | [], [], _ => rfl
  | _ :: _, _ :: _, h => by rw [List.length_cons, List.length_cons, FnsRep.len h.2]
  | [], _ :: _, h => h.elim
  | _ :: _, [], h => h.elim
/-- what read_declared asks, in one form -/
def spDecl2 (C : Addr) : Sp := fun vs H Q _ => ∃ (o L : Addr) (kw : Str) (ts : List Tok3) (i : Nat) (ns : List Str) (j : Nat), vs = [.ref o, .str kw] ∧ TkAt C H o L ts i ∧ DeclAt ts i kw ns j ∧
  ∀ H' p, Ext o H H' → TkAt C H' o L ts j → H' p = some (.tup (ns.map V.str)) → Q (.ref p) H'
/-- the tree of a program, as a value -/
def ProgRep (H : Hp) (p : Addr) (gs ks : List Str) (kp : List Kp) (fs : List Fn) : Prop := ∃ (pv pk ps pf : Addr) (qs qf : List Addr), H p = some (.tup [.ref pv, .ref pk, .ref ps, .ref pf]) ∧ H pv = some (.tup (gs.map V.str)) ∧ H pk = some (.tup (ks.map V.str)) ∧
  H ps = some (.tup (qs.map V.ref)) ∧ SumsRep H qs kp ∧ H pf = some (.tup (qf.map V.ref)) ∧ FnsRep H qf fs
def spParseA (n : Nat) : Sp := fun vs H Q _ => ∃ (z : Str) (gs ks : List Str) (kp : List Kp) (fs : List Fn) (i1 i2 : Nat), vs = [.str z] ∧ Big z ∧ n < 30 ∧ DeclAt (toks z) 0 "globals" gs i1 ∧ DeclAt (toks z) i1 "kinds" ks i2 ∧ KeepsAt (toks z) i2 kp ∧ kp.length ≤ 1000 ∧ FnsAt (toks z) n (endKeeps i2 kp) fs ∧ fs.length ≤ 1000 ∧
  ∀ (H' : Hp) (p : Addr), Same H H' → ProgRep H' p gs ks kp fs → Q (.ref p) H'
theorem end_def : ¬ ("END" : Str) = "def" := by decide +kernel
section
variable {P : Program} {w : World} {K : PySem.W.Frag} {mg : Str → Option Value} {base : Heap} {a : Ads}
theorem ok_read_declared2 (T : Txt K mg a) : FnOk P w K mg base CX0 3 a.f_read_declared a.f_read_declared_d ["tokens", "keyword"] (spDecl2 a.c_Tokens) := FnOk.imp (ok_read_declared T) fun vs H Q E h => by
  obtain ⟨o, L, kw, ts, i, ns, j, rfl, hT, h, q⟩ := h
  refine ⟨o, L, kw, ts, i, rfl, hT, ?_⟩
  rcases h with ⟨rfl, rfl, k, p, h1, h2⟩ | ⟨rfl, h0, h1, ⟨p, hk⟩, hn, he⟩
  · exact .inl ⟨k, p, h1, h2, q⟩
  · exact .inr ⟨p, ns, hk, h0, h1, hn, he, q⟩
theorem sc_parse : FnScope ["text", "tokens", "variables", "kinds", "keeps", "functions"] ["text"] (defScope s_parse) := ⟨rfl, rfl, rfl, by decide +kernel, rfl, by decide +kernel, by decide +kernel⟩
theorem ok_parse1 (T : Txt K mg a) (n k : Nat) (hk : 12 ≤ k) (ihf : FnOk P w K mg base CX0 k a.f_read_function a.f_read_function_d ["tokens"] (spFun a.c_Tokens n)) : FnOk P w K mg base CX0 (k + 1) a.f_parse a.f_parse_d ["text"] (spParseA n) := by
  refine T.F_parse.ok sc_parse (fun vs H Q E h => ?_) (fun cdv A outer s H vs Q E hr h => ?_)
  · obtain ⟨z, gs, ks, kp, fs, i1, i2, rfl, _⟩ := h
    rfl
  obtain ⟨z, gs, ks, kp, fs, i1, i2, rfl, hz, hn, hg, hk2, hkp, hkl, hfs, hfl, q⟩ := h
  have nS : ∀ L j, (tf L j).lookup ("skip" : Str) = none := fun L j => tf_no _ _ (by decide +kernel) (by decide +kernel)
  have nT : ∀ L j, (tf L j).lookup ("take" : Str) = none := fun L j => tf_no _ _ (by decide +kernel) (by decide +kernel)
  refine ⟨_, (pss_cons (ps_if (pt_not (pt_val (pe_callB call_isi (by rfl) T.isinstance (by decide +kernel) (pa_cons (pv 0) (pa_cons (pe_bltn (v := .ty "str") (by rfl) T.str (by decide +kernel) rfl) pa_nil)))))
      (pss_one ps_never)
      pss_nil)
    (pss_cons (ps_set (i := 1) sc_parse.nd rfl (Or.inl rfl) (pe_make T.mk_Tokens (ok_Tokens___init__ T) (hr.mono (by omega)) (by rfl) T.mg_Tokens T.b_Tokens___init__ .nil pass0 (pa_cons (pv 0) pa_nil)))
    (pss_cons (ps_set (i := 2) sc_parse.nd rfl (Or.inl rfl) (pe_call (ok_read_declared2 T) (hr.mono (by omega)) (by rfl) T.g_read_declared T.F_read_declared.kp T.b_read_declared .nil pass0 (pa_cons (pv 1) (pa_cons pe_str pa_nil))))
    (pss_cons (ps_set (i := 3) sc_parse.nd rfl (Or.inl rfl) (pe_call (ok_read_declared2 T) (hr.mono (by omega)) (by rfl) T.g_read_declared T.F_read_declared.kp T.b_read_declared .nil pass0 (pa_cons (pv 1) (pa_cons pe_str pa_nil))))
    (pss_cons (ps_set (i := 4) sc_parse.nd rfl (Or.inl rfl) (pe_lst pa_nil))
    (pss_cons (ps_while PassesOwn.never (pt_val (pe_meth (pv 1) T.cl_Tokens T.m_Tokens_skip (ok_Tokens_skip T) (hr.mono (by omega)) T.b_Tokens_skip .nil pass0 (pa_cons pe_str pa_nil)))
      (pss_one (ps_expr (pe_bm PySem.F.plainAttrs_list PySem.F.slot_list_append PySem.F.type_list_append mt_append (pv 4) (pa_cons (pe_call (ok_read_expression T) (hr.mono (by omega)) (by rfl) T.g_read_expression T.F_read_expression.kp T.b_read_expression .nil pass0 (pa_cons (pv 1) pa_nil)) pa_nil)))))
    (pss_cons (ps_set (i := 5) sc_parse.nd rfl (Or.inl rfl) (pe_lst pa_nil))
    (pss_cons (ps_while PassesOwn.never (pt_val (pe_meth (pv 1) T.cl_Tokens T.m_Tokens_skip (ok_Tokens_skip T) (hr.mono (by omega)) T.b_Tokens_skip .nil pass0 (pa_cons pe_str pa_nil)))
      (pss_one (ps_expr (pe_bm PySem.F.plainAttrs_list PySem.F.slot_list_append PySem.F.type_list_append mt_append (pv 5) (pa_cons (pe_call ihf (hr.mono (by omega)) (by rfl) T.g_read_function T.F_read_function.kp T.b_read_function .nil pass0 (pa_cons (pv 1) pa_nil)) pa_nil)))))
    (pss_cons (ps_expr (pe_meth (pv 1) T.cl_Tokens T.m_Tokens_take (ok_Tokens_take T) (hr.mono (by omega)) T.b_Tokens_take .nil pass0 (pa_cons (pe_gs rfl T.g_END) pa_nil)))
    (pss_one (ps_ret (pe_tup (pa_cons (pv 2) (pa_cons (pv 3) (pa_cons (pe_callTy call_tuple_of (by rfl) T.tuple (by decide +kernel) (pa_cons (pv 4) pa_nil)) (pa_cons (pe_callTy call_tuple_of (by rfl) T.tuple (by decide +kernel) (pa_cons (pv 5) pa_nil)) pa_nil)))))))))))))))), ?_⟩
  refine ⟨_, rfl, _, _, _, _, true, rfl, .ty "str", .base (.str z), kit_ty (by decide +kernel), true, rfl, iteF ?_⟩
  refine ⟨_, rfl, fun o dx ho0 hdx hne => ⟨o, dx, z, rfl, upd_same, hz, fun H1 L hT1 nL k1' => ⟨rfl, ?_⟩⟩⟩
  have s1 : Same H H1 := Same.made ho0 hdx k1'
  have sx : ∀ {H'}, Ext o H1 H' → Same H H' := fun {H'} x b y e => x b y (s1 b y e) (ne_of_none e ho0)
  refine ⟨_, rfl, o, L, _, toks z, 0, gs, i1, rfl, hT1, hg, fun H2 p2 x2 hT2 hp2 => ?_⟩
  refine ⟨_, rfl, o, L, _, toks z, i1, ks, i2, rfl, hT2, hk2, fun H3 p3 x3 hT3 hp3 => ?_⟩
  have hp2' := x3.tup hT2.nt hp2
  refine ⟨Nat.zero_le _, fun N nN => ?_⟩
  have hNo := hT3.no nN
  have x13 : Ext o H1 H3 := x2.trans x3
  have nN1 : H1 N = none := x13.free nN hNo.1
  have sN := same_upd (o := .lst []) nN
  dsimp only [gName]
  -- the keeps
  refine st_seq ⟨fun m σ H' => ∃ (j : Nat) (dn rest : List Kp) (qs : List Addr), σ = [some (.str z), some (.ref o), some (.ref p2), some (.ref p3), some (.ref N), none] ∧ Ext o H1 H' ∧ H' p2 = some (.tup (gs.map V.str)) ∧ H' p3 = some (.tup (ks.map V.str)) ∧ TkAt a.c_Tokens H' o L (toks z) j ∧ kp = dn ++ rest ∧ KeepsAt (toks z) j rest ∧ endKeeps j rest = endKeeps i2 kp ∧ m = rest.length ∧ H' N = some (.lst (qs.map V.ref)) ∧ SumsRep H' qs dn,
    ⟨kp.length, i2, [], kp, [], rfl, x13.trans (Ext.of sN), sN _ _ hp2', sN _ _ hp3, hT3.same sN, rfl, hkp, rfl, rfl, upd_same, trivial⟩, ?_⟩
  rintro m σ H' ⟨j, dn, rest, qs, rfl, x4, hv, hw, hT4, hall, hks, hend, rfl, hN, hR⟩
  obtain ⟨dx4, as4, ho4, _⟩ := id hT4
  have hqn := hR.len
  have hln := congrArg List.length hall
  rw [List.length_append] at hln
  cases rest with
  | cons y rest' =>
    obtain ⟨b, t, r⟩ := y
    obtain ⟨⟨p, pos, ht⟩, hx, hrl, hks'⟩ := hks
    refine ⟨_, rfl, o, dx4, _, rfl, ho4, nS _ _, o, L, _, toks z, j, _, rfl, hT4, ht, fun _ H5 hT5 b5 => ⟨_, rfl, iteT ?_⟩, fun e => absurd rfl e⟩
    refine ⟨_, fun σ' H' h => h, ?_⟩
    have hN5 : H5 N = some (.lst (qs.map V.ref)) := by rw [b5 N hNo.1]; exact hN
    refine ⟨_, rfl, .inl ⟨rfl, _, SqL.of hN5⟩, _, rfl, o, L, toks z, j + 1, b, t, r, rfl, hT5, hx, hrl, fun H6 pe pt as ks' ys x6 hT6 hpe hpt hRr hperm hsort hnd hmem => ?_⟩
    have hN6 := x6 _ _ hN5 hNo.1
    have x56 := (Ext.but b5).trans x6
    have ntN : NT H6 N := NT.of hN6 (fun _ z => by cases z)
    have xN := ext_upd H6 N (.lst (qs.map V.ref ++ [.ref pe]))
    refine ⟨N, _, _, rfl, rfl, hN6, ?_, rest'.length, Nat.lt_succ_self _, _, dn ++ [(b, t, r)], rest', qs ++ [pe], rfl, (x4.trans x56).mut nN1, xN.tup ntN (x56.tup hT4.nt hv), xN.tup ntN (x56.tup hT4.nt hw), hT6.off hN6 (fun _ z => by cases z) (fun _ _ _ z => by cases z) hNo.2, by rw [hall, List.append_assoc]; rfl, hks', hend, rfl, ?_, ?_⟩
    · rw [List.length_map]
      exact bigLine (by omega)
    · rw [upd_same, List.map_append]
      rfl
    · exact (SumsRep.app ⟨pt, as, ks', ys, hpe, hpt, hRr, hperm, hsort, hnd, hmem⟩ (hR.ext x56 hT4.nt)).ext xN ntN
  | nil =>
    obtain ⟨k0, p, ⟨pos, ht⟩, hk0⟩ := hks
    have ej : j = endKeeps i2 kp := hend
    subst ej
    rw [List.append_nil] at hall
    subst hall
    refine ⟨_, rfl, o, dx4, _, rfl, ho4, nS _ _, o, L, _, toks z, _, _, rfl, hT4, ht, fun e => absurd e hk0, fun _ => ⟨_, rfl, iteF ?_⟩⟩
    refine ⟨Nat.zero_le _, fun F nF => ?_⟩
    dsimp only [gName]
    have sF := same_upd (o := .lst []) nF
    have hFo := hT4.no nF
    have nF1 : H1 F = none := x4.free nF hFo.1
    have hNF : N ≠ F := ne_of_none hN nF
    refine st_seq ⟨fun m σ H5 => ∃ (j : Nat) (dn rest : List Fn) (qf : List Addr), σ = [some (.str z), some (.ref o), some (.ref p2), some (.ref p3), some (.ref N), some (.ref F)] ∧ Ext o H1 H5 ∧ H5 p2 = some (.tup (gs.map V.str)) ∧ H5 p3 = some (.tup (ks.map V.str)) ∧ TkAt a.c_Tokens H5 o L (toks z) j ∧ fs = dn ++ rest ∧ FnsAt (toks z) n j rest ∧ m = rest.length ∧ H5 N = some (.lst (qs.map V.ref)) ∧ SumsRep H5 qs kp ∧ H5 F = some (.lst (qf.map V.ref)) ∧ FnsRep H5 qf dn,
      ⟨fs.length, _, [], fs, [], rfl, x4.trans (Ext.of sF), sF _ _ hv, sF _ _ hw, hT4.same sF, rfl, hfs, rfl, sF _ _ hN, hR.ext (Ext.of sF) hT4.nt, upd_same, trivial⟩, ?_⟩
    rintro m σ H5 ⟨j, dn, rest, qf, rfl, x5, hv5, hw5, hT5, hall, hfn, rfl, hN5, hR5, hF5, hG5⟩
    obtain ⟨dx5, as5, ho5, _⟩ := id hT5
    have hqf := hG5.len
    have hlf := congrArg List.length hall
    rw [List.length_append] at hlf
    cases rest with
    | cons f rest' =>
      obtain ⟨⟨p', pos', ht'⟩, hf, hfh, hfn'⟩ := hfn
      refine ⟨_, rfl, o, dx5, _, rfl, ho5, nS _ _, o, L, _, toks z, j, _, rfl, hT5, ht', fun _ H6 hT6 b6 => ⟨_, rfl, iteT ?_⟩, fun e => absurd rfl e⟩
      refine ⟨_, fun σ' H' h => h, ?_⟩
      have hF6 : H6 F = some (.lst (qf.map V.ref)) := by rw [b6 F hFo.1]; exact hF5
      refine ⟨_, rfl, .inl ⟨rfl, _, SqL.of hF6⟩, _, rfl, o, L, toks z, j + 1, f, rfl, hfh, hn, hT6, hf, fun H7 q7 x7 hT7 h7 => ?_⟩
      have hF7 := x7 _ _ hF6 hFo.1
      have x67 := (Ext.but b6).trans x7
      have ntF : NT H7 F := NT.of hF7 (fun _ z => by cases z)
      have xF := ext_upd H7 F (.lst (qf.map V.ref ++ [.ref q7]))
      refine ⟨F, _, _, rfl, rfl, hF7, ?_, rest'.length, Nat.lt_succ_self _, _, dn ++ [f], rest', qf ++ [q7], rfl, (x5.trans x67).mut nF1, xF.tup ntF (x67.tup hT5.nt hv5), xF.tup ntF (x67.tup hT5.nt hw5), hT7.off hF7 (fun _ z => by cases z) (fun _ _ _ z => by cases z) hFo.2, by rw [hall, List.append_assoc]; rfl, hfn', rfl, xF _ _ (x67 _ _ hN5 hNo.1) hNF, (hR5.ext x67 hT5.nt).ext xF ntF, ?_, ?_⟩
      · rw [List.length_map]
        exact bigLine (by omega)
      · rw [upd_same, List.map_append]
        rfl
      · exact (FnsRep.app h7 (hG5.ext x67 hT5.nt)).ext xF ntF
    | nil =>
      obtain ⟨p', pos', ht'⟩ := hfn
      rw [List.append_nil] at hall
      subst hall
      refine ⟨_, rfl, o, dx5, _, rfl, ho5, nS _ _, o, L, _, toks z, j, _, rfl, hT5, ht', fun e => absurd e end_def, fun _ => ⟨_, rfl, iteF ?_⟩⟩
      refine ⟨_, rfl, o, dx5, _, rfl, ho5, nT _ _, o, L, toks z, j, _, rfl, hT5, ht', fun H6 hT6 b6 => ?_⟩
      have x6 := Ext.but b6
      have hN6 : H6 N = some (.lst (qs.map V.ref)) := by rw [b6 N hNo.1]; exact hN5
      have hF6 : H6 F = some (.lst (qf.map V.ref)) := by rw [b6 F hFo.1]; exact hF5
      refine ⟨_, rfl, _, rfl, _, rfl, N, _, rfl, .inl ⟨SqL.of hN6, fun p7 n7 => ?_⟩⟩
      have s7 := same_upd (o := .tup (qs.map V.ref)) n7
      refine ⟨_, rfl, F, _, rfl, .inl ⟨SqL.of (s7 _ _ hF6), fun p8 n8 => ⟨(by show 4 ≤ sizeLine; decide), fun p9 n9 => ?_⟩⟩⟩
      have s8 := same_upd (o := .tup (qf.map V.ref)) n8
      have s9 := same_upd (o := .tup [.ref p2, .ref p3, .ref p7, .ref p8]) n9
      have s79 : Same H6 _ := (s7.trans s8).trans s9
      have x69 := x6.trans (Ext.of (o := o) s79)
      exact q _ p9 (sx (x5.trans x69)) ⟨p2, p3, p7, p8, qs, qf, upd_same, x69.tup hT5.nt hv5, x69.tup hT5.nt hw5, (s8.trans s9) _ _ upd_same, hR5.ext x69 hT5.nt, s9 _ _ upd_same, hG5.ext x69 hT5.nt⟩
end
end K3
namespace K3
open PySem PySem.Spec PyProof.Rows L2 TL
/-! ### texts of numbers and terms -/
def ab (i : Int) : Int := if i < 0 then -i else i
def numT (i : Int) : Str := Str.ofString (toString i)
theorem ab_nat (i : Int) : ab i = ((i.natAbs : Nat) : Int) := by
  unfold ab
  split <;> omega
theorem numT_len {i : Int} (h0 : 0 ≤ i) (h : i < 1000000000000000000) : (numT i).length ≤ 18 := by
  obtain ⟨n, rfl⟩ : ∃ n : Nat, i = (n : Int) := ⟨i.toNat, by omega⟩
  unfold numT
  rw [len_tl, tl_num]
  exact numL_len (by decide) (by have e : (10 : Nat) ^ 18 = 1000000000000000000 := by decide
                                 rw [e]; omega)
theorem log_ok {i : Int} (h0 : 0 ≤ i) (h : i < 1000000000000000000) : i.natAbs.log2 < 1920 := by
  by_cases hz : i.natAbs = 0
  · rw [hz]
    decide
  · have e : (2 : Nat) ^ 60 = 1152921504606846976 := by decide
    have := (Nat.log2_lt (n := i.natAbs) (k := 60) hz).mpr (by rw [e]; omega)
    omega
def termT (v : Str) (f : Int) : Str := if decide (V.int (ab f) = V.int 1) = true then v else numT (ab f) ++ "*" ++ v
def Mid (f : Int) : Prop := -1000000000000000000 < f ∧ f < 1000000000000000000
theorem ab_mid {f : Int} (h : Mid f) : 0 ≤ ab f ∧ ab f < 1000000000000000000 := by
  unfold Mid at h
  unfold ab
  split <;> omega
theorem star_len : (Str.ofString "*").length = 1 := by decide +kernel
theorem termT_len {v : Str} {f : Int} (h : Mid f) : (termT v f).length ≤ v.length + 19 := by
  obtain ⟨h0, h1⟩ := ab_mid h
  have := numT_len h0 h1
  unfold termT
  split
  · omega
  · rw [Str.length_append, Str.length_append, star_len]
    omega
def spTermT : Sp := fun vs H Q _ => ∃ (v : Str) (f : Int), vs = [.str v, .int f] ∧ v.length ≤ 1000 ∧ Mid f ∧ Q (.str (termT v f)) H
def partsOf (c : Int) (l : List (Str × Int)) : List (Int × Str) := l.map (fun p => (p.2, termT p.1 p.2)) ++ if ((!decide (V.int c = V.int 0)) || l.isEmpty) = true then [(c, numT (ab c))] else []
def stepT (text : Str) (p : Int × Str) : Str := if decide (V.str text = V.str (Str.ofString "")) = true then (if decide (p.1 < 0) = true then Str.ofString "-" ++ p.2 else p.2) else text ++ (if decide (p.1 < 0) = true then Str.ofString " - " else Str.ofString " + ") ++ p.2
def sumT (c : Int) (l : List (Str × Int)) : Str := (partsOf c l).foldl stepT (Str.ofString "")
def RepQ (H : Hp) : List Addr → List (Int × Str) → Prop
  | [], [] => True
  | a :: as, t :: ts => H a = some (.tup [.int t.1, .str t.2]) ∧ RepQ H as ts
  | _, _ => False
theorem RepQ.same {H H' : Hp} (s : Same H H') : ∀ {as : List Addr} {ts : List (Int × Str)}, RepQ H as ts → RepQ H' as ts
  | [], [], _ => trivial
  | _ :: _, _ :: _, h => ⟨s _ _ h.1, RepQ.same s h.2⟩
  | [], _ :: _, h => h.elim
  | _ :: _, [], h => h.elim
theorem RepQ.app {H : Hp} {a : Addr} {t : Int × Str} (ha : H a = some (.tup [.int t.1, .str t.2])) : ∀ {as : List Addr} {ts : List (Int × Str)}, RepQ H as ts → RepQ H (as ++ [a]) (ts ++ [t])
  | [], [], _ => ⟨ha, trivial⟩
  | _ :: _, _ :: _, h => ⟨h.1, RepQ.app ha h.2⟩
  | [], _ :: _, h => h.elim
  | _ :: _, [], h => h.elim
theorem RepQ.offX {H : Hp} {L : Addr} {u o : HO} (hL : H L = some u) (hu : ∀ xs, u ≠ .tup xs) : ∀ {as : List Addr} {ts : List (Int × Str)}, RepQ H as ts → RepQ (upd H L o) as ts
  | [], [], _ => trivial
  | _ :: _, _ :: _, h => ⟨by rw [upd_ne (ne_of h.1 hL (fun z => hu _ z.symm))]; exact h.1, RepQ.offX hL hu h.2⟩
  | [], _ :: _, h => h.elim
  | _ :: _, [], h => h.elim
theorem RepQ.len {H : Hp} : ∀ {as : List Addr} {ts : List (Int × Str)}, RepQ H as ts → as.length = ts.length
  | [], [], _ => rfl
  | _ :: _, _ :: _, h => by rw [List.length_cons, List.length_cons, RepQ.len h.2]
  | [], _ :: _, h => h.elim
  | _ :: _, [], h => h.elim
theorem RepQ.get {H : Hp} : ∀ {as : List Addr} {ts : List (Int × Str)} {j : Nat} {x : V}, RepQ H as ts → (as.map V.ref)[j]? = some x → ∃ a t, x = .ref a ∧ ts[j]? = some t ∧ H a = some (.tup [.int t.1, .str t.2])
  | [], [], j, t, _, h => by simp at h
  | a :: _, t :: _, 0, x, h, e => ⟨a, t, (Option.some.inj e).symm, rfl, h.1⟩
  | _ :: as, _ :: ts, j + 1, x, h, e => RepQ.get (as := as) (ts := ts) (j := j) h.2 e
  | [], _ :: _, _, _, h, _ => h.elim
  | _ :: _, [], _, _, h, _ => h.elim
theorem RepP.get {H : Hp} : ∀ {as : List Addr} {ts : List (Str × Int)} {j : Nat} {x : V}, RepP H as ts → (as.map V.ref)[j]? = some x → ∃ a t, x = .ref a ∧ ts[j]? = some t ∧ H a = some (.tup [.str t.1, .int t.2])
  | [], [], j, t, _, h => by simp at h
  | a :: _, t :: _, 0, x, h, e => ⟨a, t, (Option.some.inj e).symm, rfl, h.1⟩
  | _ :: as, _ :: ts, j + 1, x, h, e => RepP.get (as := as) (ts := ts) (j := j) h.2 e
  | [], _ :: _, _, _, h, _ => h.elim
  | _ :: _, [], _, _, h, _ => h.elim
/-- names and sums of bounded size -/
def Fine (l : List (Str × Int)) : Prop := ∀ p ∈ l, p.1.length ≤ 1000 ∧ Mid p.2
def spSum : Sp := fun vs H Q _ => ∃ (p pt : Addr) (as : List Addr) (c : Int) (l : List (Str × Int)), vs = [.ref p] ∧ H p = some (.tup [.int c, .ref pt]) ∧ H pt = some (.tup (as.map V.ref)) ∧ RepP H as l ∧ l.length ≤ 60 ∧ Mid c ∧ Fine l ∧
  ∀ H', Same H H' → (sumT c l).length ≤ 100000 → Q (.str (sumT c l)) H'
theorem step_len {text : Str} {p : Int × Str} : (stepT text p).length ≤ text.length + p.2.length + 3 := by
  unfold stepT
  split
  · split
    · rw [Str.length_append, show (Str.ofString "-").length = 1 from by decide +kernel]
      omega
    · omega
  · split
    · rw [Str.length_append, Str.length_append, show (Str.ofString " - ").length = 3 from by decide +kernel]
      omega
    · rw [Str.length_append, Str.length_append, show (Str.ofString " + ").length = 3 from by decide +kernel]
      omega
theorem fold_len {m : Nat} : ∀ (ps : List (Int × Str)) (text : Str), (∀ p ∈ ps, p.2.length ≤ m) → (ps.foldl stepT text).length ≤ text.length + ps.length * (m + 3)
  | [], text, _ => by simp
  | p :: r, text, h => by
    have h1 := fold_len r (stepT text p) fun q hq => h q (List.mem_cons_of_mem _ hq)
    have h2 := step_len (text := text) (p := p)
    have h3 := h p List.mem_cons_self
    rw [List.foldl_cons, List.length_cons, Nat.add_mul]
    omega
theorem if_drop {c : TT} {te : TE} {D : Ends} {σ : L2.St} {H : Hp} {b : Bool} (PV : Hp → Prop) (h : Ans c σ H b) (h1 : b = true → ValH te σ H (fun _ H' => PV H')) (h2 : b = false → PV H) (q : ∀ H', PV H' → D.nx σ H') : tIfS c (tDrop te) tNext D σ H := by
  cases b with
  | true => exact st_yes h (h1 rfl _ fun _ H' p => q H' p)
  | false => exact st_no h (q H (h2 rfl))
theorem ans_or2 {t u : TT} {σ : L2.St} {H : Hp} {b1 b2 : Bool} (h1 : Ans t σ H b1) (h2 : Ans u σ H b2) : Ans (tOr t u) σ H (b1 || b2) := by
  cases b1 with
  | true => exact ans_or1 h1
  | false => exact ans_or h1 h2
section
variable {P : Program} {w : World} {K : PySem.W.Frag} {mg : Str → Option Value} {base : Heap} {a : Ads}
theorem sc_shown_term : FnScope ["name", "factor"] ["name", "factor"] (defScope s_shown_term) := ⟨rfl, rfl, rfl, by decide +kernel, rfl, by decide +kernel, by decide +kernel⟩
theorem ok_shown_term (T : Txt K mg a) : FnOk P w K mg base CX0 1 a.f_shown_term a.f_shown_term_d ["name", "factor"] spTermT := by
  refine T.F_shown_term.ok sc_shown_term (fun vs H Q E h => ?_) (fun cdv A outer s H vs Q E hr h => ?_)
  · obtain ⟨v, f, rfl, _⟩ := h
    rfl
  obtain ⟨v, f, rfl, hv, hf, q⟩ := h
  refine ⟨_, (pss_cons (ps_if (pt_cmpR op_eq (pe_callB call_abs (by rfl) T.abs (by decide +kernel) (pa_cons (pv 1) pa_nil)) pe_int (nomark _))
      (pss_one (ps_ret (pv 0)))
      pss_nil)
    (pss_one (ps_ret (pe_op op_add_str (pe_op op_add_str (pe_callTy call_str_int (by rfl) T.str (by decide +kernel) (pa_cons (pe_callB call_abs (by rfl) T.abs (by decide +kernel) (pa_cons (pv 1) pa_nil)) pa_nil)) pe_str) (pv 0))))), ?_⟩
  obtain ⟨h0, h1⟩ := ab_mid hf
  have hl := numT_len h0 h1
  refine st_seq (st_ite (b := decide (V.int (ab f) = V.int 1)) (fun Q q => ⟨_, rfl, f, rfl, rfl, _, rfl, q⟩) (fun e => ⟨_, rfl, ?_⟩) (fun e => ?_))
  · unfold termT at q
    rw [if_pos e] at q
    exact q
  · unfold termT at q
    rw [if_neg (by rw [e]; exact Bool.false_ne_true)] at q
    refine ⟨_, rfl, f, rfl, ab f, rfl, log_ok h0 h1, numT (ab f), _, rfl, rfl, bigLe (by rw [star_len]; omega), _, rfl, _, _, rfl, rfl, bigLe (by rw [Str.length_append, star_len]; omega), q⟩
theorem sc_shown_sum : FnScope ["expression", "parts", "text", "constant", "terms", "number", "shown", "name", "factor"] ["expression"] (defScope s_shown_sum) := ⟨rfl, rfl, rfl, by decide +kernel, rfl, by decide +kernel, by decide +kernel⟩
theorem ok_shown_sum (T : Txt K mg a) : FnOk P w K mg base CX0 2 a.f_shown_sum a.f_shown_sum_d ["expression"] spSum := by
  refine T.F_shown_sum.ok sc_shown_sum (fun vs H Q E h => ?_) (fun cdv A outer s H vs Q E hr h => ?_)
  · obtain ⟨p, pt, as, c, l, rfl, _⟩ := h
    rfl
  obtain ⟨p, pt, as, c, l, rfl, hp, hpt, hR, hl, hc, hF, q⟩ := h
  refine ⟨_, (pss_cons (ps_asg (pv 0) (pg_tup (by rfl) (pgs_cons (pg_name (i := 3) sc_shown_sum.nd rfl (Or.inl rfl)) (pgs_cons (pg_name (i := 4) sc_shown_sum.nd rfl (Or.inl rfl)) pgs_nil))))
    (pss_cons (ps_setLc (i := 1) (own := [("name", 7), ("factor", 8)]) (g := gTup K 2 (gCons (gName 7) (gCons (gName 8) gNil))) (tt := tYes) (by rfl) sc_shown_sum.nd rfl rfl (sw_true rfl rfl rfl (by decide +kernel)) (pi_tup (pv 4)) (blkOk_by (own := [("name", 7), ("factor", 8)]) (N := ["expression", "parts", "text", "constant", "terms", "number", "shown", "name", "factor"]) (sc := defScope s_shown_sum) (by decide +kernel)) (fun _ _ _ _ _ => pg_tup (by rfl) (pgs_cons (pg_name (i := 7) sc_shown_sum.nd rfl (Or.inl rfl)) (pgs_cons (pg_name (i := 8) sc_shown_sum.nd rfl (Or.inl rfl)) pgs_nil))) (fun _ _ _ _ _ => pts_nil) (fun _ _ _ _ _ => (pe_tup (pa_cons (pv 8) (pa_cons (pe_call (ok_shown_term T) (hr.mono (by decide)) (by rfl) T.g_shown_term T.F_shown_term.kp T.b_shown_term .nil pass0 (pa_cons (pv 7) (pa_cons (pv 8) pa_nil))) pa_nil)))))
    (pss_cons (ps_if (PW.pt (pw_or (pt_cmpR op_ne (pv 3) pe_int (nomark _)) (pw_or1 (pt_not (pt_truth (pv 4) (by intro _; rfl))))))
      (pss_one (ps_expr (pe_bm PySem.F.plainAttrs_list PySem.F.slot_list_append PySem.F.type_list_append mt_append (pv 1) (pa_cons (pe_tup (pa_cons (pv 3) (pa_cons (pe_callTy call_str_int (by rfl) T.str (by decide +kernel) (pa_cons (pe_callB call_abs (by rfl) T.abs (by decide +kernel) (pa_cons (pv 3) pa_nil)) pa_nil)) pa_nil))) pa_nil))))
      pss_nil)
    (pss_cons (ps_set (i := 2) sc_shown_sum.nd rfl (Or.inl rfl) pe_str)
    (pss_cons (ps_for PassesOwn.never rfl (pi_list (pv 1)) (pg_tup (by rfl) (pgs_cons (pg_name (i := 5) sc_shown_sum.nd rfl (Or.inl rfl)) (pgs_cons (pg_name (i := 6) sc_shown_sum.nd rfl (Or.inl rfl)) pgs_nil)))
      (pss_one (ps_if (pt_cmpR op_eq (pv 2) pe_str (nomark _))
        (pss_one (ps_set (i := 2) sc_shown_sum.nd rfl (Or.inl rfl) (pe_ifExp (pt_cmpR op_lt (pv 5) pe_int (nomark _)) (pe_op op_add_str pe_str (pv 6)) (pv 6))))
        (pss_one (ps_set (i := 2) sc_shown_sum.nd rfl (Or.inl rfl) (pe_op op_add_str (pe_op op_add_str (pv 2) (pe_ifExp (pt_cmpR op_lt (pv 5) pe_int (nomark _)) pe_str pe_str)) (pv 6)))))))
    (pss_one (ps_ret (pv 2)))))))), ?_⟩
  refine ⟨_, rfl, p, _, rfl, .inl (.inl hp), rfl, .int c, [.ref pt], rfl, .ref pt, [], rfl, rfl, ?_⟩
  have hal : as.length = l.length := hR.len
  refine ⟨_, rfl, pt, rfl, ⟨_, .inl (.inl hpt)⟩, fun D hD => ?_⟩
  refine lc_tup (K := K) (a := pt) (xs := as.map V.ref) (fun i H2 => Same H H2 ∧ ∃ bs : List Addr, H2 D = some (.lst (bs.map V.ref)) ∧ bs.length ≤ i ∧ RepQ H2 bs ((l.take i).map fun p => (p.2, termT p.1 p.2)))
    ⟨same_upd hD, [], upd_same, Nat.le_refl _, trivial⟩ (fun i H2 _ hh => .inl (.inl (hh.1 _ _ hpt))) ?_ ?_
  · rintro i x H2 hi ⟨s2, bs, hD2, hbl, hQ⟩
    obtain ⟨a1, t1, rfl, ht1, ha1⟩ := (hR.same s2).get hi
    have hil : i < l.length := (List.getElem?_eq_some_iff.mp ht1).1
    obtain ⟨hv, hm⟩ := hF t1 (List.mem_of_getElem? ht1)
    refine ⟨a1, _, rfl, .inl (.inl ha1), rfl, .str t1.1, [.int t1.2], rfl, .int t1.2, [], rfl, rfl, rfl, ?_⟩
    refine ⟨_, rfl, _, rfl, _, rfl, t1.1, t1.2, rfl, hv, hm, (by show 2 ≤ sizeLine; decide), fun q1 nq => ?_⟩
    have hDq : D ≠ q1 := ne_of_none hD2 nq
    refine ⟨_, by rw [upd_ne hDq]; exact hD2, by rw [List.length_map]; exact bigLine (by omega), same_mut (s2.trans (same_upd nq)) hD, bs ++ [q1], ?_, ?_, ?_⟩
    · rw [upd_same, List.map_append]
      rfl
    · rw [List.length_append]
      show bs.length + 1 ≤ i + 1
      omega
    · rw [List.take_add_one, ht1, List.map_append]
      exact RepQ.offX (u := .lst (bs.map V.ref)) (by rw [upd_ne hDq]; exact hD2) (fun _ z => by cases z) (RepQ.app (t := (t1.2, termT t1.1 t1.2)) upd_same (hQ.same (same_upd nq)))
  rintro H2 ⟨s2, bs, hD2, hbl, hQ⟩
  rw [List.length_map, hal, List.take_length] at hQ
  rw [List.length_map, hal] at hbl
  dsimp only [gName]
  obtain ⟨h0, h1⟩ := ab_mid hc
  refine st_seq (if_drop (b := (!decide (V.int c = V.int 0)) || l.isEmpty) (fun H3 => Same H H3 ∧ ∃ bs : List Addr, H3 D = some (.lst (bs.map V.ref)) ∧ RepQ H3 bs (partsOf c l)) (ans_or2 (fun Q q => ⟨_, rfl, rfl, _, rfl, q⟩) (fun Q q => ⟨_, rfl, !(as.map V.ref).isEmpty, .inr (.inl ⟨_, .inl (.inl (s2 _ _ hpt)), rfl⟩), (by
      have e : (!!(as.map V.ref).isEmpty) = l.isEmpty := by
        rw [Bool.not_not]
        cases as with
        | nil =>
          cases l with
          | nil => rfl
          | cons _ _ => simp at hal
        | cons _ _ =>
          cases l with
          | nil => simp at hal
          | cons _ _ => rfl
      show Q (!!(as.map V.ref).isEmpty) H2
      rw [e]
      exact q)⟩)) (fun e Q' q' => ?_) (fun e => ⟨s2, bs, hD2, ?_⟩) ?_)
  · refine ⟨_, rfl, .inl ⟨rfl, _, SqL.of hD2⟩, _, rfl, _, rfl, c, rfl, ab c, rfl, log_ok h0 h1, (by show 2 ≤ sizeLine; decide), fun q1 nq => ?_⟩
    have hDq : D ≠ q1 := ne_of_none hD2 nq
    refine ⟨D, _, _, rfl, rfl, by rw [upd_ne hDq]; exact hD2, by rw [List.length_map]; exact bigLine (by omega), ?_⟩
    refine q' _ _ ⟨same_mut (s2.trans (same_upd nq)) hD, bs ++ [q1], ?_, ?_⟩
    · rw [upd_same, List.map_append]
      rfl
    · unfold partsOf
      rw [if_pos e]
      exact RepQ.offX (u := .lst (bs.map V.ref)) (by rw [upd_ne hDq]; exact hD2) (fun _ z => by cases z) (RepQ.app (t := (c, numT (ab c))) upd_same (hQ.same (same_upd nq)))
  · unfold partsOf
    rw [if_neg (by rw [e]; exact Bool.false_ne_true), List.append_nil]
    exact hQ
  rintro H3 ⟨s3, bs3, hD3, hQ3⟩
  have hpl : (partsOf c l).length ≤ 61 := by
    unfold partsOf
    rw [List.length_append, List.length_map]
    split
    · show l.length + 1 ≤ 61
      omega
    · show l.length + 0 ≤ 61
      omega
  have hps : ∀ p ∈ partsOf c l, p.2.length ≤ 1019 := by
    intro p hp
    unfold partsOf at hp
    rcases List.mem_append.mp hp with hp | hp
    · obtain ⟨y, hy, rfl⟩ := List.mem_map.mp hp
      obtain ⟨hv, hm⟩ := hF y hy
      have := termT_len (v := y.1) hm
      show (termT y.1 y.2).length ≤ 1019
      omega
    · split at hp
      · rw [List.mem_singleton.mp hp]
        have := numT_len h0 h1
        show (numT (ab c)).length ≤ 1019
        omega
      · cases hp
  have flen : ∀ i, (((partsOf c l).take i).foldl stepT (Str.ofString "")).length ≤ 70000 := by
    intro i
    have h1 := fold_len (m := 1019) ((partsOf c l).take i) (Str.ofString "") fun p hp => hps p (List.mem_of_mem_take hp)
    rw [show (Str.ofString "").length = 0 from by decide +kernel, List.length_take] at h1
    have h2 : min i (partsOf c l).length * (1019 + 3) ≤ 61 * (1019 + 3) := Nat.mul_le_mul_right _ (by omega)
    omega
  dsimp only [gName]
  refine st_seq (st_set (fun Q q => q) ?_)
  dsimp only [gName]
  have hbl3 : bs3.length = (partsOf c l).length := hQ3.len
  refine st_seq ⟨_, rfl, D, rfl, ⟨_, SqL.of hD3⟩, for_list (K := K) (a := D) (xs := bs3.map V.ref) (fun i σ H' => ∃ v5 v6 : Option V, σ = [some (.ref p), some (.ref D), some (.str (((partsOf c l).take i).foldl stepT (Str.ofString ""))), some (.int c), some (.ref pt), v5, v6, none, none] ∧ H' = H3)
    ⟨none, none, rfl, rfl⟩ (fun i σ H' _ ⟨_, _, _, e⟩ => by rw [e]; exact SqL.of hD3) ?_ ?_⟩
  · rintro i x σ H' hi ⟨v5, v6, rfl, rfl⟩
    obtain ⟨a1, t1, rfl, ht1, ha1⟩ := hQ3.get hi
    have hpt1 := hps t1 (List.mem_of_getElem? ht1)
    have et : (partsOf c l).take (i + 1) = (partsOf c l).take i ++ [t1] := by
      rw [List.take_add_one, ht1]
      rfl
    have hfl := flen i
    have fin : ∀ z, z = stepT (((partsOf c l).take i).foldl stepT (Str.ofString "")) t1 → ∃ v5 v6 : Option V, [some (.ref p), some (.ref D), some (.str z), some (.int c), some (.ref pt), some (.int t1.1), some (.str t1.2), none, none] = [some (.ref p), some (.ref D), some (.str (((partsOf c l).take (i + 1)).foldl stepT (Str.ofString ""))), some (.int c), some (.ref pt), v5, v6, none, none] ∧ H' = H' := by
      rintro _ rfl
      refine ⟨some (.int t1.1), some (.str t1.2), ?_, rfl⟩
      rw [et, List.foldl_append]
      rfl
    generalize ((partsOf c l).take i).foldl stepT (Str.ofString "") = tx at hfl fin ⊢
    refine ⟨a1, _, rfl, .inl (.inl ha1), rfl, .int t1.1, [.str t1.2], rfl, .str t1.2, [], rfl, rfl, ?_⟩
    refine st_ite (b := decide (V.str tx = V.str (Str.ofString ""))) (fun Q q => ⟨_, rfl, rfl, _, rfl, q⟩) (fun e => ?_) (fun e => ?_)
    · refine ⟨_, rfl, _, _, rfl, rfl, _, rfl, ite2 (fun e2 => ?_) (fun e2 => ?_)⟩
      · refine ⟨_, rfl, _, _, rfl, rfl, bigLe (by rw [show (Str.ofString "-").length = 1 from by decide +kernel]; omega), fin _ ?_⟩
        unfold stepT
        rw [if_pos e, if_pos e2]
      · refine ⟨_, rfl, fin _ ?_⟩
        unfold stepT
        rw [if_pos e, if_neg e2]
    · have en : ¬ decide (V.str tx = V.str (Str.ofString "")) = true := by rw [e]; exact Bool.false_ne_true
      refine ⟨_, rfl, _, rfl, _, _, rfl, rfl, _, rfl, ite2 (fun e2 => ?_) (fun e2 => ?_)⟩
      · refine ⟨_, _, rfl, rfl, bigLe (by rw [show (Str.ofString " - ").length = 3 from by decide +kernel]; omega), _, rfl, _, _, rfl, rfl, bigLe (by rw [Str.length_append, show (Str.ofString " - ").length = 3 from by decide +kernel]; omega), fin _ ?_⟩
        unfold stepT
        rw [if_neg en, if_pos e2]
      · refine ⟨_, _, rfl, rfl, bigLe (by rw [show (Str.ofString " + ").length = 3 from by decide +kernel]; omega), _, rfl, _, _, rfl, rfl, bigLe (by rw [Str.length_append, show (Str.ofString " + ").length = 3 from by decide +kernel]; omega), fin _ ?_⟩
        unfold stepT
        rw [if_neg en, if_neg e2]
  · rintro σ H' ⟨v5, v6, rfl, rfl⟩
    rw [List.length_map, hbl3, List.take_length]
    have := flen (partsOf c l).length
    rw [List.take_length] at this
    exact ⟨_, rfl, q _ s3 (by unfold sumT; omega)⟩
end
end K3
namespace K3
open PySem PySem.Spec PyProof.Rows L2 TL
def ltermT (v : Str) (n : Int) (b : Bool) : Str := if decide (V.str v = V.str (Str.ofString "")) = true then numT n else if (b && decide (V.int n = V.int 1)) = true then v else numT n ++ Str.ofString "*" ++ v
theorem ltermT_len {v : Str} {n : Int} {b : Bool} (h0 : 0 ≤ n) (h1 : n < 1000000000000000000) : (ltermT v n b).length ≤ v.length + 19 := by
  have := numT_len h0 h1
  unfold ltermT
  split
  · omega
  · split
    · omega
    · rw [Str.length_append, Str.length_append, star_len]
      omega
def stepW (text : Str) (p : Str × Int) : Str := if (!decide (V.int p.2 = V.int 0)) = true then text ++ (if decide (p.2 < 0) = true then Str.ofString " - " else Str.ofString " + ") ++ ltermT p.1 (ab p.2) true else text
def preW (c : Int) (l : List (Str × Int)) : Str := (l ++ [(Str.ofString "", c)]).foldl stepW (Str.ofString "")
theorem for_tupV {K : PySem.W.Frag} {te : TE} {g : TG} {tb : TS} {D : Ends} {σ : L2.St} {H : Hp} (PV : Addr → List V → Hp → Prop) (hv : ValH te σ H (fun v H1 => ∃ d xs, v = .ref d ∧ PV d xs H1 ∧ SqT K H1 d xs))
    (h : ∀ d xs H1, PV d xs H1 → SqT K H1 d xs → tFor (fun _ H R => R (Itt K d) H) g tb D σ H1) : tFor (iTup K te) g tb D σ H := by
  refine hv _ ?_
  rintro _ H1 ⟨d, xs, rfl, p, s⟩
  exact ⟨d, rfl, ⟨xs, s⟩, h d xs H1 p s⟩
/-! ### the two ways to write a sum -/
def sepT (n : Int) : Str := if decide (n < 0) = true then Str.ofString " - " else Str.ofString " + "
def app (t : Str) (p : Int × Str) : Str := t ++ sepT p.1 ++ p.2
theorem str_app_assoc (x y z : Str) : x ++ y ++ z = x ++ (y ++ z) := ext_tl (by rw [tl_append, tl_append, tl_append, tl_append, List.append_assoc])
theorem fold_app : ∀ (r : List (Int × Str)) (x y : Str), r.foldl app (x ++ y) = x ++ r.foldl app y
  | [], _, _ => rfl
  | p :: r, x, y => by
    show r.foldl app (x ++ y ++ sepT p.1 ++ p.2) = x ++ r.foldl app (y ++ sepT p.1 ++ p.2)
    rw [← fold_app r x]
    congr 1
    rw [str_app_assoc, str_app_assoc, str_app_assoc]
theorem empty_app (x : Str) : Str.ofString "" ++ x = x := ext_tl (by rw [tl_append, tl_empty, List.nil_append])
theorem ne_app {x y : Str} (h : tl y ≠ []) : tl (x ++ y) ≠ [] := by
  rw [tl_append]
  exact fun e => h (List.append_eq_nil_iff.mp e).2
theorem not_empty {x : Str} (h : tl x ≠ []) : decide (V.str x = V.str (Str.ofString "")) = false := decide_eq_false fun e => h (by rw [V.str.inj e]; exact tl_empty)
theorem fold_stepT : ∀ (r : List (Int × Str)) (x : Str), tl x ≠ [] → (∀ p ∈ r, tl p.2 ≠ []) → r.foldl stepT x = r.foldl app x
  | [], _, _, _ => rfl
  | p :: r, x, hx, h => by
    have e : stepT x p = app x p := by
      unfold stepT app sepT
      rw [if_neg (by rw [not_empty hx]; exact Bool.false_ne_true)]
    rw [List.foldl_cons, List.foldl_cons, e]
    exact fold_stepT r _ (ne_app (h p List.mem_cons_self)) fun q hq => h q (List.mem_cons_of_mem _ hq)
def cut3 (t : Str) : Str := cutS t (some 3) none
theorem cut3_app {s F : Str} (h : s.length = 3) : cut3 (s ++ F) = F := by
  apply ext_tl
  unfold cut3 cutS
  rw [show HT.sIx (s ++ F).length 0 (some 3) = min 3 (s ++ F).length from HT.sIx_nat _ _ 3, HT.sIx_none]
  show (((s ++ F).cps.toList.drop (min 3 (s ++ F).length)).take _).toArray.toList = _
  rw [show (s ++ F).cps.toList = tl s ++ tl F from tl_append s F]
  have l1 : (s ++ F).length = 3 + (tl F).length := by rw [Str.length_append, h, len_tl F]
  rw [l1, Nat.min_eq_left (by omega), show (tl s ++ tl F).drop 3 = tl F by
    rw [List.drop_append_of_le_length (by rw [← len_tl]; omega), List.drop_eq_nil_of_le (by rw [← len_tl]; omega), List.nil_append]]
  exact List.take_of_length_le (by omega)
theorem sep_len (n : Int) : (sepT n).length = 3 := by
  unfold sepT
  split
  · decide +kernel
  · decide +kernel
/-- the sign of the first part, and what is behind it -/
theorem both_ways {n : Int} {s : Str} {r : List (Int × Str)} (h : ∀ p ∈ (n, s) :: r, tl p.2 ≠ []) :
    ((n, s) :: r).foldl app (Str.ofString "") = sepT n ++ r.foldl app s ∧ ((n, s) :: r).foldl stepT (Str.ofString "") = (if decide (n < 0) = true then Str.ofString "-" ++ r.foldl app s else r.foldl app s) := by
  have hs : tl s ≠ [] := h (n, s) List.mem_cons_self
  have hr : ∀ p ∈ r, tl p.2 ≠ [] := fun p hp => h p (List.mem_cons_of_mem _ hp)
  constructor
  · show r.foldl app (Str.ofString "" ++ sepT n ++ s) = _
    rw [empty_app, fold_app]
  · show r.foldl stepT (stepT (Str.ofString "") (n, s)) = _
    unfold stepT
    rw [if_pos (decide_eq_true rfl)]
    dsimp only
    by_cases hn : decide (n < 0) = true
    · rw [if_pos hn, if_pos hn, ← fold_app]
      exact fold_stepT r _ (ne_app hs) hr
    · rw [if_neg hn, if_neg hn]
      exact fold_stepT r _ hs hr
def nzParts (L : List (Str × Int)) : List (Int × Str) := (L.filter fun p => !decide (V.int p.2 = V.int 0)).map fun p => (p.2, ltermT p.1 (ab p.2) true)
theorem fold_stepW : ∀ (L : List (Str × Int)) (x : Str), L.foldl stepW x = (nzParts L).foldl app x
  | [], _ => rfl
  | p :: r, x => by
    rw [List.foldl_cons, fold_stepW r]
    unfold nzParts
    by_cases h : (!decide (V.int p.2 = V.int 0)) = true
    · rw [List.filter_cons_of_pos (p := fun p : Str × Int => !decide (V.int p.2 = V.int 0)) h, List.map_cons, List.foldl_cons]
      congr 1
      unfold stepW
      rw [if_pos h]
      rfl
    · rw [List.filter_cons_of_neg (p := fun p : Str × Int => !decide (V.int p.2 = V.int 0)) h]
      congr 1
      unfold stepW
      rw [if_neg h]
/-- the sums are no zeros, and have names -/
def Real (l : List (Str × Int)) : Prop := ∀ p ∈ l, p.2 ≠ 0 ∧ tl p.1 ≠ []
theorem ltermT_name {v : Str} {f : Int} (h : tl v ≠ []) : ltermT v (ab f) true = termT v f := by
  unfold ltermT termT
  rw [if_neg (by rw [not_empty h]; exact Bool.false_ne_true), Bool.true_and]
theorem ltermT_none (n : Int) : ltermT (Str.ofString "") n true = numT n := by
  unfold ltermT
  rw [if_pos (decide_eq_true rfl)]
theorem nzParts_is {c : Int} {l : List (Str × Int)} (h : Real l) (hx : ((!decide (V.int c = V.int 0)) || l.isEmpty) = (!decide (V.int c = V.int 0))) : nzParts (l ++ [(Str.ofString "", c)]) = partsOf c l := by
  unfold nzParts partsOf
  rw [List.filter_append, List.map_append, hx]
  congr 1
  · rw [List.filter_eq_self.mpr fun p hp => by
      rw [decide_eq_false fun e => (h p hp).1 (V.int.inj e)]
      rfl]
    exact List.map_congr_left fun p hp => by rw [ltermT_name (h p hp).2]
  · by_cases hc : (!decide (V.int c = V.int 0)) = true
    · rw [if_pos hc, List.filter_cons_of_pos (p := fun p : Str × Int => !decide (V.int p.2 = V.int 0)) hc]
      show [(c, ltermT (Str.ofString "") (ab c) true)] = _
      rw [ltermT_none]
    · rw [if_neg hc, List.filter_cons_of_neg (p := fun p : Str × Int => !decide (V.int p.2 = V.int 0)) hc]
      rfl
theorem numT_ne {i : Int} (h : 0 ≤ i) : tl (numT i) ≠ [] := by
  obtain ⟨n, rfl⟩ : ∃ n : Nat, i = (n : Int) := ⟨i.toNat, by omega⟩
  unfold numT
  rw [tl_num]
  exact numL_ne n
theorem ab_pos (c : Int) : 0 ≤ ab c := by
  unfold ab
  split <;> omega
theorem parts_ne {c : Int} {l : List (Str × Int)} (h : Real l) : ∀ p ∈ partsOf c l, tl p.2 ≠ [] := by
  intro p hp
  unfold partsOf at hp
  rcases List.mem_append.mp hp with hp | hp
  · obtain ⟨y, hy, rfl⟩ := List.mem_map.mp hp
    show tl (termT y.1 y.2) ≠ []
    unfold termT
    split
    · exact (h y hy).2
    · exact ne_app (h y hy).2
  · split at hp
    · rw [List.mem_singleton.mp hp]
      exact numT_ne (ab_pos c)
    · cases hp
/-- what the law writes is what show writes -/
theorem written_is {c : Int} {l : List (Str × Int)} (h : Real l) :
    (preW c l = Str.ofString "" ∧ sumT c l = Str.ofString "0") ∨ (∃ n F, preW c l = sepT n ++ F ∧ sumT c l = if decide (n < 0) = true then Str.ofString "-" ++ F else F) := by
  by_cases hx : ((!decide (V.int c = V.int 0)) || l.isEmpty) = (!decide (V.int c = V.int 0))
  · unfold preW sumT
    rw [fold_stepW, nzParts_is h hx]
    have hne := parts_ne (c := c) h
    cases hp : partsOf c l with
    | nil =>
      exfalso
      unfold partsOf at hp
      have h1 := (List.append_eq_nil_iff.mp hp).1
      have h2 := (List.append_eq_nil_iff.mp hp).2
      have hl : l = [] := List.map_eq_nil_iff.mp h1
      subst hl
      rw [if_pos (by simp)] at h2
      cases h2
    | cons p r =>
      obtain ⟨n, s⟩ := p
      rw [hp] at hne
      obtain ⟨e1, e2⟩ := both_ways hne
      exact .inr ⟨n, r.foldl app s, e1, e2⟩
  · have hc : (!decide (V.int c = V.int 0)) = false := by
      cases e : (!decide (V.int c = V.int 0)) with
      | false => rfl
      | true =>
        rw [e] at hx
        simp at hx
    have hl : l.isEmpty = true := by
      cases e : l.isEmpty with
      | true => rfl
      | false =>
        rw [e, Bool.or_false] at hx
        exact absurd rfl hx
    have hl' : l = [] := List.isEmpty_iff.mp hl
    subst hl'
    have hc' : c = 0 := by
      have := of_decide_eq_true (by simpa using hc : decide (V.int c = V.int 0) = true)
      exact V.int.inj this
    subst hc'
    exact .inl ⟨by decide +kernel, by decide +kernel⟩
def spWritten : Sp := fun vs H Q _ => ∃ (p pt : Addr) (as : List Addr) (c : Int) (l : List (Str × Int)), vs = [.ref p] ∧ H p = some (.tup [.int c, .ref pt]) ∧ H pt = some (.tup (as.map V.ref)) ∧ RepP H as l ∧ l.length ≤ 60 ∧ Mid c ∧ Fine l ∧ Real l ∧
  ∀ H', Same H H' → Q (.str (sumT c l)) H'
theorem stepW_len {text : Str} {p : Str × Int} (h : p.1.length ≤ 1000 ∧ Mid p.2) : (stepW text p).length ≤ text.length + 1022 := by
  have h1 := ab_mid h.2
  have h2 := ltermT_len (v := p.1) (b := true) h1.1 h1.2
  unfold stepW
  split
  · rw [Str.length_append, Str.length_append]
    have := sep_len p.2
    unfold sepT at this
    omega
  · omega
theorem foldW_len : ∀ (L : List (Str × Int)) (text : Str), Fine L → (L.foldl stepW text).length ≤ text.length + L.length * 1022
  | [], text, _ => by simp
  | p :: r, text, h => by
    have h1 := foldW_len r (stepW text p) fun q hq => h q (List.mem_cons_of_mem _ hq)
    have h2 := stepW_len (text := text) (h p List.mem_cons_self)
    rw [List.foldl_cons, List.length_cons, Nat.add_mul]
    omega
/-! ### sorted texts are one -/
theorem eq_of_strict {α : Type} {R : α → α → Prop} (irr : ∀ a, ¬ R a a) (asy : ∀ a b, R a b → ¬ R b a) : ∀ {l1 l2 : List α}, l1.Pairwise R → l2.Pairwise R → (∀ x, x ∈ l1 ↔ x ∈ l2) → l1 = l2
  | [], [], _, _, _ => rfl
  | [], b :: _, _, _, h => absurd ((h b).mpr List.mem_cons_self) (by simp)
  | a :: _, [], _, _, h => absurd ((h a).mp List.mem_cons_self) (by simp)
  | a :: l1, b :: l2, h1, h2, h => by
    obtain ⟨p1, q1⟩ := List.pairwise_cons.mp h1
    obtain ⟨p2, q2⟩ := List.pairwise_cons.mp h2
    have e : a = b := by
      rcases List.mem_cons.mp ((h a).mp List.mem_cons_self) with e | m
      · exact e
      · rcases List.mem_cons.mp ((h b).mpr List.mem_cons_self) with e | m'
        · exact e.symm
        · exact absurd (p1 b m') (asy _ _ (p2 a m))
    subst e
    congr 1
    refine eq_of_strict irr asy q1 q2 fun x => ⟨fun hx => ?_, fun hx => ?_⟩
    · rcases List.mem_cons.mp ((h x).mp (List.mem_cons_of_mem _ hx)) with e | m
      · exact absurd (e ▸ p1 x hx) (irr _)
      · exact m
    · rcases List.mem_cons.mp ((h x).mpr (List.mem_cons_of_mem _ hx)) with e | m
      · exact absurd (e ▸ p2 x hx) (irr _)
      · exact m
def Lt (a b : Str) : Prop := tl a < tl b
theorem lt_irr (a : Str) : ¬ Lt a a := List.lt_irrefl _
theorem lt_asy (a b : Str) (h : Lt a b) : ¬ Lt b a := fun h' => List.lt_irrefl _ (List.lt_trans h h')
theorem rising_all : ∀ (l : List Str) (p : Str), risingS p l = true → ∀ x ∈ l, ¬ Lt x p
  | [], _, _, x, h => by cases h
  | y :: r, p, h, x, hx => by
    have h' : (!ltCps y.cps.toList p.cps.toList && risingS y r) = true := h
    rw [Bool.and_eq_true] at h'
    have h1 : ¬ Lt y p := fun z => by
      have e : ltCps y.cps.toList p.cps.toList = true := by
        rw [ltCps_eq]
        exact decide_eq_true z
      rw [e] at h'
      exact absurd h'.1 (by decide)
    rcases List.mem_cons.mp hx with e | m
    · rw [e]
      exact h1
    · have h2 := rising_all r y h'.2 x m
      intro z
      exact h1 (List.lt_of_le_of_lt (List.not_lt.mp h2) z)
theorem sorted_strict : ∀ {l : List Str}, sortedS l = true → l.Nodup → l.Pairwise Lt
  | [], _, _ => List.Pairwise.nil
  | x :: r, h, hn => by
    have h' : risingS x r = true := h
    have hr : sortedS r = true := by
      cases r with
      | nil => rfl
      | cons y r =>
        have h2 : (!ltCps y.cps.toList x.cps.toList && risingS y r) = true := h'
        rw [Bool.and_eq_true] at h2
        exact h2.2
    obtain ⟨n1, n2⟩ := List.nodup_cons.mp hn
    refine List.pairwise_cons.mpr ⟨fun y hy => ?_, sorted_strict hr n2⟩
    have h3 := rising_all r x h' y hy
    by_cases z : Lt x y
    · exact z
    · have e : tl x = tl y := List.le_antisymm (List.not_lt.mp h3) (List.not_lt.mp z)
      exact absurd (ext_tl e ▸ hy) n1
/-- the law's own sums, and those that were read -/
theorem terms_one {its : List Item} {ks ys ns zs : List Str} (p1 : ys.Perm ks) (s1 : sortedS ys = true) (n1 : ks.Nodup) (m1 : ∀ v, v ∈ ks ↔ ∃ x ∈ its, x.2.name = some v) (p2 : zs.Perm ns) (s2 : sortedS zs = true) (n2 : ns.Nodup)
    (m2 : ∀ x ∈ its, ∀ v, x.2.name = some v → v ∈ ns) : termsOf ys its = termsOf zs its := by
  unfold termsOf
  congr 1
  refine eq_of_strict lt_irr lt_asy ((sorted_strict s1 (p1.symm.nodup n1)).filter _) ((sorted_strict s2 (p2.symm.nodup n2)).filter _) fun x => ?_
  rw [List.mem_filter, List.mem_filter, p1.mem_iff, p2.mem_iff, m1]
  constructor
  · rintro ⟨⟨y, hy, e⟩, h⟩
    exact ⟨m2 y hy x e, h⟩
  · rintro ⟨_, h⟩
    refine ⟨?_, h⟩
    by_cases hx : ∃ y ∈ its, y.2.name = some x
    · exact hx
    · exfalso
      rw [nsum_none fun y hy e => hx ⟨y, hy, e⟩, decide_eq_true rfl] at h
      cases h
/-! ### the tokens of a text, without their places -/
abbrev tk (k p : Str) : Str × Str := (k, p)
def kp (t : Tok3) : Str × Str := (t.1, t.2.1)
def kt (cs : List Nat) : List (Str × Str) := (toksL cs 0).map kp
theorem toksF_kp : ∀ (n : Nat) (cs : List Nat) (p q : Nat), (toksF n cs p).map kp = (toksF n cs q).map kp
  | 0, _, _, _ => rfl
  | _ + 1, [], _, _ => rfl
  | n + 1, c :: r, p, q => by
    show (if blank c = true then toksF n r (p + 1) else _ :: toksF n _ _).map kp = (if blank c = true then toksF n r (q + 1) else _ :: toksF n _ _).map kp
    by_cases h : blank c = true
    · rw [if_pos h, if_pos h]
      exact toksF_kp n r _ _
    · rw [if_neg h, if_neg h, List.map_cons, List.map_cons, toksF_kp n _ _ (q + max 1 (runLen (c :: r)))]
      rfl
theorem kt_at (cs : List Nat) (p : Nat) : (toksL cs p).map kp = kt cs := toksF_kp _ _ _ _
theorem blanks_are : (Str.ofString " \n").cps.toList = [32, 10] := by decide +kernel
theorem kt_space {r : List Nat} : kt (32 :: r) = kt r := by
  unfold kt
  rw [toksL_blank (by decide +kernel)]
  exact kt_at r 1
theorem kt_spaces : ∀ (g : Nat) {r : List Nat}, kt (List.replicate g 32 ++ r) = kt r
  | 0, _ => rfl
  | g + 1, r => by
    show kt (32 :: (List.replicate g 32 ++ r)) = kt r
    rw [kt_space, kt_spaces g]
theorem alnum_solid {c : Nat} (h : alnum c = true) : blank c = false := by
  cases hb : blank c with
  | false => rfl
  | true =>
    have hm : c ∈ ([32, 10] : List Nat) := by
      have := of_decide_eq_true hb
      rw [blanks_are] at this
      exact this
    simp only [List.mem_cons, List.not_mem_nil, or_false] at hm
    rcases hm with rfl | rfl
    · exact absurd h (by decide +kernel)
    · exact absurd h (by decide +kernel)
def Stop (r : List Nat) : Prop := ∀ c s, r = c :: s → alnum c = false
theorem runLen_run : ∀ {w rest : List Nat}, w.all alnum = true → Stop rest → runLen (w ++ rest) = w.length
  | [], [], _, _ => rfl
  | [], c :: r, _, h => runLen_miss (h c r rfl)
  | c :: w, rest, h, hs => by
    have h' : (alnum c && w.all alnum) = true := h
    rw [Bool.and_eq_true] at h'
    rw [List.cons_append, runLen_hit h'.1, runLen_run h'.2 hs]
    rfl
theorem kt_run {w rest : List Nat} (h0 : w ≠ []) (h : w.all alnum = true) (hs : Stop rest) : kt (w ++ rest) = (kindOf ⟨w.toArray⟩, (⟨w.toArray⟩ : Str)) :: kt rest := by
  have hr := runLen_run h hs
  cases w with
  | nil => exact absurd rfl h0
  | cons c w =>
    have h' : (alnum c && w.all alnum) = true := h
    rw [Bool.and_eq_true] at h'
    have hm : max 1 (runLen (c :: (w ++ rest))) = (c :: w).length := by
      rw [show c :: (w ++ rest) = (c :: w) ++ rest from rfl, hr, List.length_cons]
      omega
    unfold kt
    rw [show (c :: w) ++ rest = c :: (w ++ rest) from rfl, toksL_tok (alnum_solid h'.1), hm, show c :: (w ++ rest) = (c :: w) ++ rest from rfl, List.take_left, List.drop_left, List.map_cons, kt_at]
    rfl
theorem kt_sign {c : Nat} {rest : List Nat} (h : alnum c = false) (hb : blank c = false) : kt (c :: rest) = (kindOf ⟨#[c]⟩, (⟨#[c]⟩ : Str)) :: kt rest := by
  unfold kt
  rw [toksL_tok hb, runLen_miss h]
  show _ :: (toksL rest (0 + 1)).map kp = _
  rw [kt_at]
  rfl
/-! ### what the law's words are -/
theorem letters_no {c : Nat} (h1 : 48 ≤ c) (h2 : c ≤ 57) : letter c = false ∧ digit c = true := by
  have : c = 48 ∨ c = 49 ∨ c = 50 ∨ c = 51 ∨ c = 52 ∨ c = 53 ∨ c = 54 ∨ c = 55 ∨ c = 56 ∨ c = 57 := by omega
  rcases this with rfl | rfl | rfl | rfl | rfl | rfl | rfl | rfl | rfl | rfl <;> exact ⟨by decide +kernel, by decide +kernel⟩
structure NameOk (v : Str) : Prop where
  ex : ∃ c ds, tl v = c :: ds ∧ letter c = true ∧ ds ≠ [] ∧ ∀ d ∈ ds, 48 ≤ d ∧ d ≤ 57
  len : v.length ≤ 20
theorem NameOk.ne {v : Str} (h : NameOk v) : tl v ≠ [] := by
  obtain ⟨⟨c, ds, e, _⟩, _⟩ := h
  rw [e]
  exact List.cons_ne_nil _ _
theorem NameOk.run {v : Str} (h : NameOk v) : (tl v).all alnum = true := by
  obtain ⟨⟨c, ds, e, hc, _, hd⟩, _⟩ := h
  rw [e, List.all_eq_true]
  intro x hx
  rcases List.mem_cons.mp hx with rfl | hx
  · unfold alnum
    rw [hc]
    rfl
  · obtain ⟨a, b⟩ := hd x hx
    unfold alnum
    rw [(letters_no a b).2, Bool.or_true]
theorem kws_plain : ∀ y ∈ kws, ∃ z : Str, y = .str z ∧ ∀ c ∈ tl z, digit c = false := by
  intro y hy
  have h : kws.all (fun v => match v with | .str z => (tl z).all fun c => !digit c | _ => false) = true := by decide +kernel
  have := List.all_eq_true.mp h y hy
  cases y with
  | str z =>
    refine ⟨z, rfl, fun c hc => ?_⟩
    have := List.all_eq_true.mp this c hc
    simpa using this
  | _ => cases this
theorem NameOk.kind {v : Str} (h : NameOk v) : kindOf v = "NAME" := by
  have hr := h.run
  obtain ⟨⟨c, ds, e, hc, h0, hd⟩, _⟩ := h
  have hw : isW v = true := by
    unfold isW
    rw [e] at hr ⊢
    show (letter c && (c :: ds).all alnum) = true
    rw [hc, hr]
    rfl
  have hk : ¬ inV (.str v) kws = true := by
    intro hi
    unfold inV at hi
    obtain ⟨y, hy, he⟩ := List.any_eq_true.mp hi
    obtain ⟨z, rfl, hz⟩ := kws_plain y hy
    have ez : z = v := by
      have : (z == v) = true := he
      exact eq_of_beq this
    subst ez
    obtain ⟨d, r, rfl⟩ : ∃ d r, ds = d :: r := by
      cases ds with
      | nil => exact absurd rfl h0
      | cons d r => exact ⟨d, r, rfl⟩
    have hdm := hd d List.mem_cons_self
    have := hz d (by rw [e]; simp)
    rw [(letters_no hdm.1 hdm.2).2] at this
    cases this
  unfold kindOf
  rw [if_pos hw, if_neg hk]
theorem numL_head : ∀ (n : Nat) (r : List Nat), numL n = 48 :: r → n = 0 := by
  intro n
  induction n using Nat.strongRecOn with
  | _ n ih =>
    intro r h
    by_cases hn : n < 10
    · rw [numL_lt hn] at h
      have := (List.cons.inj h).1
      omega
    · rw [numL_step (by omega)] at h
      cases hq : numL (n / 10) with
      | nil => exact absurd hq (numL_ne _)
      | cons x xs =>
        rw [hq] at h
        have hx : x = 48 := (List.cons.inj h).1
        rw [hx] at hq
        have := ih (n / 10) (by omega) xs hq
        omega
theorem num_digit {n d : Nat} (h : d ∈ numL n) : 48 ≤ d ∧ d ≤ 57 := by
  have := numL_digits n d h
  first
    | exact this
    | (constructor <;> omega)
    | simpa using this
theorem num_run (n : Nat) : (numL n).all alnum = true := by
  rw [List.all_eq_true]
  intro x hx
  obtain ⟨a, b⟩ := num_digit hx
  unfold alnum
  rw [(letters_no a b).2, Bool.or_true]
theorem numT_tl (n : Nat) : tl (numT (n : Int)) = numL n := by
  unfold numT
  exact tl_num n
theorem num_kind (n : Nat) : kindOf (numT (n : Int)) = "NUMBER" := by
  cases hq : numL n with
  | nil => exact absurd hq (numL_ne _)
  | cons x xs =>
    have hx := num_digit (n := n) (d := x) (by rw [hq]; exact List.mem_cons_self)
    have hw : ¬ isW (numT (n : Int)) = true := by
      rw [isW_not (by rw [numT_tl]; exact hq) (letters_no hx.1 hx.2).1]
      exact Bool.false_ne_true
    have hn : isNum (numT (n : Int)) = true := by
      unfold isNum
      rw [numT_tl, hq]
      dsimp only
      by_cases e : decide (V.str ⟨#[x]⟩ = V.str (Str.ofString "0")) = true
      · rw [if_pos e]
        have e1 : (⟨#[x]⟩ : Str) = Str.ofString "0" := V.str.inj (of_decide_eq_true e)
        have e2 : x = 48 := by
          have := congrArg tl e1
          rw [show tl (Str.ofString "0") = [48] from by decide +kernel] at this
          exact (List.cons.inj this).1
        rw [e2] at hq
        have := numL_head n xs hq
        subst this
        exact decide_eq_true (by decide +kernel)
      · rw [if_neg e, List.all_eq_true]
        intro y hy
        have hy' := num_digit (n := n) (d := y) (by rw [hq]; exact hy)
        exact (letters_no hy'.1 hy'.2).2
    unfold kindOf
    rw [if_neg hw, if_pos hn]
theorem num_good {n : Nat} (h : (n : Int) < 1000000000000) : Good (numT (n : Int)) (n : Int) := by
  have hl : (numL n).length ≤ 12 := numL_len (by decide) (by have e : (10 : Nat) ^ 12 = 1000000000000 := by decide
                                                             rw [e]; omega)
  refine ⟨int_num (by omega), ?_, by omega, h⟩
  rw [len_tl, numT_tl]
  exact hl
/-! ### the codes and tokens of terms -/
def TmOk : Tm3 → Prop
  | .nm v => NameOk v
  | .nu d n => ∃ k : Nat, n = (k : Int) ∧ d = numT n ∧ n < 1000000000000
  | .pr d n v => (∃ k : Nat, n = (k : Int) ∧ d = numT n ∧ n < 1000000000000) ∧ NameOk v
def tmCodes : Tm3 → List Nat
  | .nm v => tl v
  | .nu d _ => tl d
  | .pr d _ v => tl d ++ (42 :: tl v)
def tmToks : Tm3 → List (Str × Str)
  | .nm v => [tk "NAME" v]
  | .nu d _ => [tk "NUMBER" d]
  | .pr d _ v => [tk "NUMBER" d, tk "*" "*", tk "NAME" v]
theorem kt_name {v : Str} {rest : List Nat} (h : NameOk v) (hs : Stop rest) : kt (tl v ++ rest) = tk "NAME" v :: kt rest := by
  rw [kt_run h.ne h.run hs, show (⟨(tl v).toArray⟩ : Str) = v from rfl, h.kind]
theorem kt_num {k : Nat} {rest : List Nat} (hs : Stop rest) : kt (tl (numT (k : Int)) ++ rest) = tk "NUMBER" (numT (k : Int)) :: kt rest := by
  rw [kt_run (by rw [numT_tl]; exact numL_ne k) (by rw [numT_tl]; exact num_run k) hs, show (⟨(tl (numT (k : Int))).toArray⟩ : Str) = numT (k : Int) from rfl, num_kind]
theorem stop_sign {c : Nat} {r : List Nat} (h : alnum c = false) : Stop (c :: r) := fun c' s e => by
  rw [← (List.cons.inj e).1]
  exact h
theorem kt_tm {t : Tm3} {rest : List Nat} (h : TmOk t) (hs : Stop rest) : kt (tmCodes t ++ rest) = tmToks t ++ kt rest := by
  cases t with
  | nm v => exact kt_name h hs
  | nu d n =>
    obtain ⟨k, rfl, rfl, _⟩ := h
    exact kt_num hs
  | pr d n v =>
    obtain ⟨⟨k, rfl, rfl, _⟩, hv⟩ := h
    show kt (tl (numT (k : Int)) ++ (42 :: tl v) ++ rest) = _
    rw [List.append_assoc, kt_num (rest := 42 :: tl v ++ rest) (stop_sign (by decide +kernel)), List.cons_append, kt_sign (by decide +kernel) (by decide +kernel), kt_name hv hs]
    rfl
def sgTok (b : Bool) : Str × Str := if b = true then tk "-" "-" else tk "+" "+"
def sgCode (b : Bool) : Nat := if b = true then 45 else 43
theorem kt_sg {b : Bool} {rest : List Nat} : kt (sgCode b :: rest) = sgTok b :: kt rest := by
  cases b
  · exact kt_sign (c := 43) (by decide +kernel) (by decide +kernel)
  · exact kt_sign (c := 45) (by decide +kernel) (by decide +kernel)
theorem sg_stop (b : Bool) : alnum (sgCode b) = false := by
  cases b
  · decide +kernel
  · decide +kernel
def restToks : List Item → List (Str × Str)
  | [] => []
  | (b, t) :: r => sgTok b :: (tmToks t ++ restToks r)
def exprToks : List Item → List (Str × Str)
  | [] => []
  | (b, t) :: r => (if b = true then [tk "-" "-"] else []) ++ (tmToks t ++ restToks r)
theorem restToks_app : ∀ (r : List Item) (b : Bool) (t : Tm3), restToks (r ++ [(b, t)]) = restToks r ++ (sgTok b :: tmToks t)
  | [], b, t => by
    show sgTok b :: (tmToks t ++ []) = _
    rw [List.append_nil]
    rfl
  | (b', t') :: r, b, t => by
    show sgTok b' :: (tmToks t' ++ restToks (r ++ [(b, t)])) = sgTok b' :: (tmToks t' ++ restToks r) ++ _
    rw [restToks_app r b t, List.cons_append, List.append_assoc]
theorem exprToks_app {its : List Item} {b : Bool} {t : Tm3} (h : its ≠ []) : exprToks (its ++ [(b, t)]) = exprToks its ++ (sgTok b :: tmToks t) := by
  cases its with
  | nil => exact absurd rfl h
  | cons x r =>
    obtain ⟨b', t'⟩ := x
    show _ ++ (tmToks t' ++ restToks (r ++ [(b, t)])) = _ ++ (tmToks t' ++ restToks r) ++ _
    rw [restToks_app, List.append_assoc, List.append_assoc]
/-- a text so far reads as these terms -/
def Reads (text : Str) (its : List Item) : Prop := ∀ rest, Stop rest → kt (tl text ++ rest) = exprToks its ++ kt rest
theorem reads_nil : Reads (Str.ofString "") [] := fun rest _ => by
  rw [tl_empty]
  rfl
theorem stop_spaces {g : Nat} {r : List Nat} (h : Stop r) : Stop (List.replicate g 32 ++ r) := by
  cases g with
  | zero => exact h
  | succ g => exact stop_sign (by decide +kernel)
/-- one more term behind a sign -/
theorem reads_more {text : Str} {its : List Item} {g : Nat} {b : Bool} {t : Tm3} {text' : Str} (h : Reads text its) (h0 : its ≠ []) (ht : TmOk t) (e : tl text' = tl text ++ (List.replicate g 32 ++ (sgCode b :: (List.replicate g 32 ++ tmCodes t)))) : Reads text' (its ++ [(b, t)]) := by
  intro rest hs
  rw [e, List.append_assoc, h _ (by rw [List.append_assoc]; exact stop_spaces (stop_sign (sg_stop b))), List.append_assoc, kt_spaces, List.cons_append, kt_sg, List.append_assoc, kt_spaces, kt_tm ht hs, exprToks_app h0, List.append_assoc]
  rfl
theorem reads_first {g : Nat} {b : Bool} {t : Tm3} {text' : Str} (ht : TmOk t) (e : tl text' = List.replicate g 32 ++ ((if b = true then [45] else []) ++ (List.replicate g 32 ++ tmCodes t))) : Reads text' [(b, t)] := by
  intro rest hs
  have e1 : exprToks [(b, t)] = (if b = true then [tk "-" "-"] else []) ++ tmToks t := by
    show _ ++ (tmToks t ++ []) = _
    rw [List.append_nil]
  rw [e, List.append_assoc, kt_spaces, e1]
  cases b with
  | true =>
    show kt (sgCode true :: (List.replicate g 32 ++ tmCodes t ++ rest)) = _
    rw [kt_sg, List.append_assoc, kt_spaces, kt_tm ht hs]
    rfl
  | false =>
    show kt (List.replicate g 32 ++ tmCodes t ++ rest) = _
    rw [List.append_assoc, kt_spaces, kt_tm ht hs]
    rfl
/-! ### from tokens to their places -/
theorem at_kp {ts : List Tok3} {i : Nat} {k p : Str} (h : (ts.map kp)[i]? = some (k, p)) : At ts i k p := by
  rw [List.getElem?_map] at h
  cases e : ts[i]? with
  | none =>
    rw [e] at h
    cases h
  | some t =>
    rw [e] at h
    obtain ⟨k', p', pos⟩ := t
    have := Option.some.inj h
    have h1 : k' = k := congrArg Prod.fst this
    have h2 : p' = p := congrArg Prod.snd this
    exact ⟨pos, by rw [e, h1, h2]⟩
theorem at_pre {ts : List Tok3} {pre post : List (Str × Str)} {k p : Str} {i : Nat} (h : ts.map kp = pre ++ (k, p) :: post) (hi : i = pre.length) : At ts i k p := by
  apply at_kp
  rw [h, hi, List.getElem?_append_right (Nat.le_refl _), Nat.sub_self]
  rfl
/-- what begins a further term, or ends the sum -/
def EndTok (k : Str) : Prop := k ≠ "+" ∧ k ≠ "-" ∧ k ≠ "*"
theorem tm_at {ts : List Tok3} {pre post : List (Str × Str)} {t : Tm3} {k p : Str} (ht : TmOk t) (hk : k ≠ "*") (h : ts.map kp = pre ++ (tmToks t ++ (k, p) :: post)) : TmAt ts pre.length t ∧ (tmToks t).length = t.size := by
  cases t with
  | nm v => exact ⟨at_pre h rfl, rfl⟩
  | nu d n =>
    obtain ⟨j, rfl, rfl, hn⟩ := ht
    exact ⟨⟨num_good hn, at_pre h rfl, k, p, at_pre (pre := pre ++ [tk "NUMBER" (numT (j : Int))]) (by rw [List.append_assoc]; exact h) (by rw [List.length_append]; rfl), hk⟩, rfl⟩
  | pr d n v =>
    obtain ⟨⟨j, rfl, rfl, hn⟩, hv⟩ := ht
    exact ⟨⟨num_good hn, at_pre h rfl, at_pre (pre := pre ++ [tk "NUMBER" (numT (j : Int))]) (by rw [List.append_assoc]; exact h) (by rw [List.length_append]; rfl),
      at_pre (pre := pre ++ [tk "NUMBER" (numT (j : Int)), tk "*" "*"]) (by rw [List.append_assoc]; exact h) (by rw [List.length_append]; rfl)⟩, rfl⟩
theorem sg_star (b : Bool) : (sgTok b).1 ≠ "*" := by
  cases b
  · decide +kernel
  · decide +kernel
/-- the token behind a term -/
theorem rest_head (r : List Item) {k p : Str} {post : List (Str × Str)} (hk : EndTok k) : ∃ k' p' post', restToks r ++ (k, p) :: post = (k', p') :: post' ∧ k' ≠ "*" := by
  cases r with
  | nil => exact ⟨k, p, post, rfl, hk.2.2⟩
  | cons x r =>
    obtain ⟨b, t⟩ := x
    exact ⟨(sgTok b).1, (sgTok b).2, tmToks t ++ restToks r ++ (k, p) :: post, rfl, sg_star b⟩
theorem rest_at : ∀ (r : List Item) {ts : List Tok3} {pre post : List (Str × Str)} {k p : Str}, (∀ x ∈ r, TmOk x.2) → EndTok k → ts.map kp = pre ++ (restToks r ++ (k, p) :: post) → RestAt ts pre.length r ∧ endR pre.length r = pre.length + (restToks r).length
  | [], ts, pre, post, k, p, _, hk, h => ⟨⟨k, p, at_pre h rfl, hk.1, hk.2.1⟩, rfl⟩
  | (b, t) :: r, ts, pre, post, k, p, hr, hk, h => by
    have h1 : ts.map kp = (pre ++ [sgTok b]) ++ (tmToks t ++ (restToks r ++ (k, p) :: post)) := by
      rw [h]
      show pre ++ (sgTok b :: (tmToks t ++ restToks r) ++ (k, p) :: post) = _
      rw [List.append_assoc, List.cons_append, List.append_assoc]
      rfl
    have h2 : ts.map kp = (pre ++ [sgTok b] ++ tmToks t) ++ (restToks r ++ (k, p) :: post) := by
      rw [h1, ← List.append_assoc]
    obtain ⟨k', p', post', e, hk'⟩ := rest_head r (p := p) (post := post) hk
    have h3 := h1
    rw [e] at h3
    obtain ⟨a1, l1⟩ := tm_at (hr _ List.mem_cons_self) hk' h3
    have l1 : (tmToks t).length = t.size := l1
    obtain ⟨a2, l2⟩ := rest_at r (fun x hx => hr x (List.mem_cons_of_mem _ hx)) hk h2
    have ll : (pre ++ [sgTok b] ++ tmToks t).length = pre.length + 1 + t.size := by
      rw [List.length_append, List.length_append, l1]
      rfl
    rw [List.length_append] at a1
    rw [ll] at a2 l2
    refine ⟨⟨?_, a1, a2⟩, ?_⟩
    · have h0 : ts.map kp = pre ++ (sgTok b :: (tmToks t ++ (restToks r ++ (k, p) :: post))) := by
        rw [h1, List.append_assoc]
        rfl
      cases b
      · exact ⟨_, at_pre (k := "+") (p := "+") h0 rfl⟩
      · exact ⟨_, at_pre (k := "-") (p := "-") h0 rfl⟩
    · show endR (pre.length + 1 + t.size) r = _
      rw [l2]
      show _ = pre.length + (sgTok b :: (tmToks t ++ restToks r)).length
      rw [List.length_cons, List.length_append, l1]
      omega
theorem expr_at {ts : List Tok3} {pre post : List (Str × Str)} {b : Bool} {t : Tm3} {r : List Item} {k p : Str} (hr : ∀ x ∈ (b, t) :: r, TmOk x.2) (hk : EndTok k) (h : ts.map kp = pre ++ (exprToks ((b, t) :: r) ++ (k, p) :: post)) :
    ExprAt ts pre.length b t r ∧ endE pre.length b t r = pre.length + (exprToks ((b, t) :: r)).length := by
  obtain ⟨k', p', post', e, hk'⟩ := rest_head r (p := p) (post := post) hk
  cases b with
  | true =>
    have h1 : ts.map kp = (pre ++ [tk "-" "-"]) ++ (tmToks t ++ (restToks r ++ (k, p) :: post)) := by
      rw [h]
      show pre ++ ([tk "-" "-"] ++ (tmToks t ++ restToks r) ++ (k, p) :: post) = _
      rw [List.append_assoc, List.append_assoc, List.append_assoc]
    have h2 : ts.map kp = (pre ++ [tk "-" "-"] ++ tmToks t) ++ (restToks r ++ (k, p) :: post) := by
      rw [h1, ← List.append_assoc]
    have h3 := h1
    rw [e] at h3
    obtain ⟨a1, l1⟩ := tm_at (hr _ List.mem_cons_self) hk' h3
    have l1 : (tmToks t).length = t.size := l1
    obtain ⟨a2, l2⟩ := rest_at r (fun x hx => hr x (List.mem_cons_of_mem _ hx)) hk h2
    have ll : (pre ++ [tk "-" "-"] ++ tmToks t).length = pre.length + 1 + t.size := by
      rw [List.length_append, List.length_append, l1]
      rfl
    rw [List.length_append] at a1
    rw [ll] at a2 l2
    have h0 : ts.map kp = pre ++ (tk "-" "-" :: (tmToks t ++ (restToks r ++ (k, p) :: post))) := by
      rw [h1, List.append_assoc]
      rfl
    refine ⟨⟨⟨_, at_pre h0 rfl⟩, a1, a2⟩, ?_⟩
    show endR (pre.length + 1 + t.size) r = _
    rw [l2]
    show _ = pre.length + ([tk "-" "-"] ++ (tmToks t ++ restToks r)).length
    rw [List.length_append, List.length_append, l1]
    show _ = pre.length + (1 + (t.size + (restToks r).length))
    omega
  | false =>
    have h1 : ts.map kp = pre ++ (tmToks t ++ (restToks r ++ (k, p) :: post)) := by
      rw [h]
      show pre ++ ([] ++ (tmToks t ++ restToks r) ++ (k, p) :: post) = _
      rw [List.nil_append, List.append_assoc]
    have h2 : ts.map kp = (pre ++ tmToks t) ++ (restToks r ++ (k, p) :: post) := by
      rw [h1, ← List.append_assoc]
    have h3 := h1
    rw [e] at h3
    obtain ⟨a1, l1⟩ := tm_at (hr _ List.mem_cons_self) hk' h3
    have l1 : (tmToks t).length = t.size := l1
    obtain ⟨a2, l2⟩ := rest_at r (fun x hx => hr x (List.mem_cons_of_mem _ hx)) hk h2
    have ll : (pre ++ tmToks t).length = pre.length + t.size := by rw [List.length_append, l1]
    rw [ll] at a2 l2
    refine ⟨⟨a1, a2⟩, ?_⟩
    show endR (pre.length + t.size) r = _
    rw [l2]
    show _ = pre.length + ([] ++ (tmToks t ++ restToks r)).length
    rw [List.nil_append, List.length_append, l1]
    omega
/-! ### the whole text -/
theorem kt_join : ∀ (ns : List Str) (rest : List Nat), (∀ v ∈ ns, NameOk v) → Stop rest → kt (joinL [32] (ns.map tl) ++ rest) = ns.map (fun v => tk "NAME" v) ++ kt rest
  | [], rest, _, _ => rfl
  | [v], rest, h, hs => kt_name (h v List.mem_cons_self) hs
  | v :: u :: r, rest, h, hs => by
    show kt (tl v ++ ([32] ++ joinL [32] (tl u :: r.map tl)) ++ rest) = _
    rw [List.append_assoc]
    show kt (tl v ++ (32 :: (joinL [32] ((u :: r).map tl) ++ rest))) = _
    rw [kt_name (h v List.mem_cons_self) (stop_sign (by decide +kernel)), kt_space, kt_join (u :: r) rest (fun x hx => h x (List.mem_cons_of_mem _ hx)) hs]
    rfl
theorem whole_kt {ns : List Str} {text : Str} {its : List Item} (hn : ∀ v ∈ ns, NameOk v) (hr : Reads text its) :
    kt (tl (Str.ofString "globals " ++ Txt.join (Str.ofString " ") ns ++ Str.ofString " keep" ++ Str.ofString " " ++ text)) = tk "globals" "globals" :: (ns.map (fun v => tk "NAME" v) ++ (tk "keep" "keep" :: exprToks its)) := by
  rw [tl_append, tl_append, tl_append, tl_append, join_eq, tl_join, show tl (Str.ofString "globals ") = tl (Str.ofString "globals") ++ [32] from by decide +kernel, show tl (Str.ofString " ") = [32] from by decide +kernel,
    show tl (Str.ofString " keep") = 32 :: tl (Str.ofString "keep") from by decide +kernel]
  rw [List.append_assoc, List.append_assoc, List.append_assoc, List.append_assoc]
  show kt (tl (Str.ofString "globals") ++ (32 :: (joinL [32] (ns.map tl) ++ (32 :: (tl (Str.ofString "keep") ++ (32 :: tl text)))))) = _
  rw [kt_run (by decide +kernel) (by decide +kernel) (stop_sign (by decide +kernel)), kt_space, kt_join ns _ hn (stop_sign (by decide +kernel)), kt_space, kt_run (by decide +kernel) (by decide +kernel) (stop_sign (by decide +kernel)), kt_space]
  have h0 := hr [] (fun _ _ e => by cases e)
  rw [List.append_nil] at h0
  rw [h0, show kt [] = [] from rfl, List.append_nil]
  have e1 : kindOf ⟨(tl (Str.ofString "globals")).toArray⟩ = Str.ofString "globals" := by decide +kernel
  have e2 : kindOf ⟨(tl (Str.ofString "keep")).toArray⟩ = Str.ofString "keep" := by decide +kernel
  rw [e1, e2]
end K3
namespace K3
open PySem PySem.Spec PyProof.Rows L2 TL
/-! ### data in one another: tuples, texts, numbers, truths, none -/
mutual
inductive D where
  | non
  | bl (b : Bool)
  | int (i : Int)
  | str (s : Str)
  | tup (l : DL)
inductive DL where
  | nil
  | cons (d : D) (l : DL)
end
def DL.of : List D → DL
  | [] => .nil
  | d :: l => .cons d (DL.of l)
abbrev tp (l : List D) : D := .tup (DL.of l)
mutual
def Dv (H : Hp) (v : V) : D → Prop
  | .non => v = .non
  | .bl b => v = .bl b
  | .int i => v = .int i
  | .str s => v = .str s
  | .tup l => ∃ (p : Addr) (xs : List V), v = .ref p ∧ H p = some (.tup xs) ∧ Dvs H xs l
def Dvs (H : Hp) (xs : List V) : DL → Prop
  | .nil => xs = []
  | .cons d l => ∃ (x : V) (r : List V), xs = x :: r ∧ Dv H x d ∧ Dvs H r l
end
/-- all tuples stand -/
def TK (H H' : Hp) : Prop := ∀ p xs, H p = some (.tup xs) → H' p = some (.tup xs)
theorem TK.refl (H : Hp) : TK H H := fun _ _ h => h
theorem TK.trans {H H1 H2 : Hp} (a : TK H H1) (b : TK H1 H2) : TK H H2 := fun p xs h => b p xs (a p xs h)
theorem TK.of {H H' : Hp} (s : Same H H') : TK H H' := fun p xs h => s p _ h
theorem TK.upd {H : Hp} {o : Addr} {u x : HO} (h : H o = some u) (n : ∀ xs, u ≠ .tup xs) : TK H (upd H o x) := fun p xs e => by
  rw [upd_ne (fun z => by subst z; rw [h] at e; exact n xs (Option.some.inj e))]
  exact e
mutual
theorem Dv.mono {H H' : Hp} (t : TK H H') {v : V} : ∀ {d : D}, Dv H v d → Dv H' v d
  | .non, h => h
  | .bl _, h => h
  | .int _, h => h
  | .str _, h => h
  | .tup _, ⟨p, xs, e, h1, h2⟩ => ⟨p, xs, e, t p xs h1, Dvs.mono t h2⟩
theorem Dvs.mono {H H' : Hp} (t : TK H H') {xs : List V} : ∀ {l : DL}, Dvs H xs l → Dvs H' xs l
  | .nil, h => h
  | .cons _ _, ⟨x, r, e, h1, h2⟩ => ⟨x, r, e, Dv.mono t h1, Dvs.mono t h2⟩
end
theorem Dvs.len {H : Hp} : ∀ {l : List D} {xs : List V}, Dvs H xs (DL.of l) → xs.length = l.length
  | [], _, h => by rw [show _ = ([] : List V) from h]; rfl
  | _ :: _, _, ⟨x, r, e, _, h⟩ => by rw [e, List.length_cons, List.length_cons, Dvs.len h]
theorem Dvs.get {H : Hp} : ∀ {l : List D} {xs : List V} {j : Nat} {x : V}, Dvs H xs (DL.of l) → xs[j]? = some x → ∃ d, l[j]? = some d ∧ Dv H x d
  | [], xs, j, x, h, e => by rw [show xs = [] from h] at e; simp at e
  | d :: _, _, 0, x, ⟨y, r, e, hy, _⟩, e2 => by
    subst e
    exact ⟨d, rfl, Option.some.inj e2 ▸ hy⟩
  | _ :: l, _, j + 1, x, ⟨y, r, e, _, h⟩, e2 => by
    subst e
    exact Dvs.get (l := l) (j := j) h e2
theorem Dvs.app {H : Hp} {x : V} {d : D} (hx : Dv H x d) : ∀ {l : List D} {xs : List V}, Dvs H xs (DL.of l) → Dvs H (xs ++ [x]) (DL.of (l ++ [d]))
  | [], xs, h => by
    rw [show xs = [] from h]
    exact ⟨x, [], rfl, hx, rfl⟩
  | _ :: _, _, ⟨y, r, e, hy, h⟩ => ⟨y, r ++ [x], by rw [e]; rfl, hy, Dvs.app hx h⟩
theorem Dvs.strs {H : Hp} : ∀ {ns : List Str} {xs : List V}, Dvs H xs (DL.of (ns.map D.str)) → xs = ns.map V.str
  | [], _, h => h
  | _ :: _, _, ⟨x, r, e, hx, h⟩ => by rw [e, show x = _ from hx, Dvs.strs h]; rfl
theorem Dvs.of_strs (H : Hp) : ∀ (ns : List Str), Dvs H (ns.map V.str) (DL.of (ns.map D.str))
  | [] => rfl
  | v :: r => ⟨.str v, _, rfl, rfl, Dvs.of_strs H r⟩
theorem Dv.strs {H : Hp} {v : V} {ns : List Str} (h : Dv H v (.tup (DL.of (ns.map D.str)))) : ∃ p, v = .ref p ∧ H p = some (.tup (ns.map V.str)) := by
  obtain ⟨p, xs, e, h1, h2⟩ := h
  exact ⟨p, e, by rw [← h2.strs]; exact h1⟩
theorem Dv.tup1 {H : Hp} {v : V} {l : List D} (h : Dv H v (tp l)) : ∃ p xs, v = .ref p ∧ H p = some (.tup xs) ∧ Dvs H xs (DL.of l) := h
/-! ### expressions -/
abbrev Ex := Int × List (Str × Int)
def dTm (t : Str × Int) : D := tp [.str t.1, .int t.2]
def dE (e : Ex) : D := tp [.int e.1, .tup (DL.of (e.2.map dTm))]
theorem Dvs.terms {H : Hp} : ∀ {l : List (Str × Int)} {xs : List V}, Dvs H xs (DL.of (l.map dTm)) → ∃ as : List Addr, xs = as.map V.ref ∧ RepP H as l
  | [], _, h => ⟨[], h, trivial⟩
  | t :: l, _, ⟨x, r, e, ⟨p, ys, e1, h1, ⟨_, _, e2, hx, ⟨_, _, e3, hy, e4⟩⟩⟩, h⟩ => by
    obtain ⟨as, ea, hR⟩ := Dvs.terms h
    refine ⟨p :: as, by rw [e, e1, ea]; rfl, ?_, hR⟩
    rw [h1, e2, e3, show _ = _ from hx, show _ = _ from hy, show _ = _ from e4]
theorem Dvs.of_terms {H : Hp} : ∀ {l : List (Str × Int)} {as : List Addr}, RepP H as l → Dvs H (as.map V.ref) (DL.of (l.map dTm))
  | [], [], _ => rfl
  | _ :: _, a :: _, h => ⟨.ref a, _, rfl, ⟨a, _, rfl, h.1, _, _, rfl, rfl, _, _, rfl, rfl, rfl⟩, Dvs.of_terms h.2⟩
  | [], _ :: _, h => h.elim
  | _ :: _, [], h => h.elim
theorem Dv.ex {H : Hp} {v : V} {e : Ex} (h : Dv H v (dE e)) : ∃ (p pt : Addr) (as : List Addr), v = .ref p ∧ H p = some (.tup [.int e.1, .ref pt]) ∧ H pt = some (.tup (as.map V.ref)) ∧ RepP H as e.2 := by
  obtain ⟨p, _, rfl, hp, x1, _, rfl, hx1, x2, _, rfl, hx2, e3⟩ := h
  obtain ⟨pt, xs, rfl, hpt, hxs⟩ := hx2
  obtain ⟨as, rfl, hR⟩ := hxs.terms
  refine ⟨p, pt, as, rfl, ?_, hpt, hR⟩
  rw [hp, show x1 = _ from hx1, show _ = _ from e3]
theorem Dv.of_ex {H : Hp} {p pt : Addr} {as : List Addr} {e : Ex} (h1 : H p = some (.tup [.int e.1, .ref pt])) (h2 : H pt = some (.tup (as.map V.ref))) (h3 : RepP H as e.2) : Dv H (.ref p) (dE e) :=
  ⟨p, _, rfl, h1, _, _, rfl, rfl, _, _, rfl, ⟨pt, _, rfl, h2, Dvs.of_terms h3⟩, rfl⟩
/-! ### trees -/
inductive Ar where
  | pla (v : Str)
  | val (e : Ex)
inductive P0 where
  | set (v : Str) (e : Ex)
  | inp (v : Str)
  | call (t : Option Str) (f : Str) (as : List Ar)
  | risk (ks : List Str)
  | rse (k : Str)
  | ret (e : Ex)
mutual
inductive TS where
  | pl (p : P0)
  | iff (x y : TB)
  | whl (x : TB)
  | undo (vs : List Str) (x : TB)
  | tr (x : TB) (hs : TH) (y : TB)
  | wth (f : Str) (as : List Ar) (g : Str) (bs : List Ar) (ks : List Str) (x : TB)
inductive TB where
  | nil
  | cons (s : TS) (r : TB)
inductive TH where
  | nil
  | cons (ks : List Str) (x : TB) (r : TH)
end
def TB.L : TB → List TS
  | .nil => []
  | .cons s r => s :: r.L
def TH.L : TH → List (List Str × TB)
  | .nil => []
  | .cons ks x r => (ks, x) :: r.L
def TB.of : List TS → TB
  | [] => .nil
  | s :: r => .cons s (TB.of r)
def TH.of : List (List Str × TB) → TH
  | [] => .nil
  | s :: r => .cons s.1 s.2 (TH.of r)
theorem TB.L_of : ∀ l : List TS, (TB.of l).L = l
  | [] => rfl
  | s :: r => by show s :: (TB.of r).L = _; rw [TB.L_of r]
theorem TH.L_of : ∀ l : List (List Str × TB), (TH.of l).L = l
  | [] => rfl
  | s :: r => by show (s.1, s.2) :: (TH.of r).L = _; rw [TH.L_of r]
abbrev dNs (ns : List Str) : D := .tup (DL.of (ns.map D.str))
def dA : Ar → D
  | .pla v => tp [.str "place", .str v]
  | .val e => tp [.str "value", dE e]
def dCall (f : Str) (as : List Ar) : D := tp [.str f, .tup (DL.of (as.map dA))]
def dP : P0 → D
  | .set v e => tp [.str "set", .str v, dE e]
  | .inp v => tp [.str "input", .str v]
  | .call none f as => tp [.str "call", .non, .str f, .tup (DL.of (as.map dA))]
  | .call (some t) f as => tp [.str "call", .str t, .str f, .tup (DL.of (as.map dA))]
  | .risk ks => tp [.str "risk", dNs ks]
  | .rse k => tp [.str "raise", .str k]
  | .ret e => tp [.str "return", dE e]
mutual
def dS : TS → D
  | .pl p => dP p
  | .iff x y => tp [.str "if", .tup (dB x), .tup (dB y)]
  | .whl x => tp [.str "while", .tup (dB x)]
  | .undo vs x => tp [.str "undo", dNs vs, .tup (dB x)]
  | .tr x hs y => tp [.str "try", .tup (dB x), .tup (dH hs), .tup (dB y)]
  | .wth f as g bs ks x => tp [.str "with", dCall f as, dCall g bs, dNs ks, .tup (dB x)]
def dB : TB → DL
  | .nil => .nil
  | .cons s r => .cons (dS s) (dB r)
def dH : TH → DL
  | .nil => .nil
  | .cons ks x r => .cons (tp [dNs ks, .tup (dB x)]) (dH r)
end
def dHd (h : List Str × TB) : D := tp [dNs h.1, .tup (dB h.2)]
theorem dB_of : ∀ x : TB, dB x = DL.of (x.L.map dS)
  | .nil => rfl
  | .cons s r => by show DL.cons (dS s) (dB r) = _; rw [dB_of r]; rfl
theorem dH_of : ∀ x : TH, dH x = DL.of (x.L.map dHd)
  | .nil => rfl
  | .cons ks x r => by show DL.cons _ (dH r) = _; rw [dH_of r]; rfl
mutual
def TS.ht : TS → Nat
  | .pl _ => 0
  | .iff x y => max x.ht y.ht + 1
  | .whl x => x.ht + 1
  | .undo _ x => x.ht + 1
  | .tr x hs y => max x.ht (max hs.ht y.ht) + 1
  | .wth _ _ _ _ _ x => x.ht + 1
def TB.ht : TB → Nat
  | .nil => 0
  | .cons s r => max s.ht r.ht
def TH.ht : TH → Nat
  | .nil => 0
  | .cons _ x r => max x.ht r.ht
end
/-! how many statements -/
mutual
def TS.sz : TS → Nat
  | .pl _ => 1
  | .iff x y => x.sz + y.sz + 1
  | .whl x => x.sz + 1
  | .undo _ x => x.sz + 1
  | .tr x hs y => x.sz + hs.sz + y.sz + 1
  | .wth _ _ _ _ _ x => x.sz + 1
def TB.sz : TB → Nat
  | .nil => 0
  | .cons s r => s.sz + r.sz
def TH.sz : TH → Nat
  | .nil => 0
  | .cons _ x r => x.sz + r.sz
end
/-! ### which trees -/
structure ExOk (e : Ex) : Prop where
  srt : e.2.Pairwise fun s t => Lt s.1 t.1
  nm : ∀ t ∈ e.2, NameOk t.1 ∧ t.2 ≠ 0 ∧ -10 < t.2 ∧ t.2 < 10
  len : e.2.length ≤ 6
  c : -10 < e.1 ∧ e.1 < 10
structure NsOk (ns : List Str) : Prop where
  nm : ∀ v ∈ ns, NameOk v
  len : ns.length ≤ 2
def ArOk : Ar → Prop
  | .pla v => NameOk v
  | .val e => ExOk e
structure ArsOk (as : List Ar) : Prop where
  ok : ∀ x ∈ as, ArOk x
  len : as.length ≤ 2
def P0Ok : P0 → Prop
  | .set v e => NameOk v ∧ ExOk e
  | .inp v => NameOk v
  | .call t f as => (∀ v, t = some v → NameOk v) ∧ NameOk f ∧ ArsOk as
  | .risk ks => ks ≠ [] ∧ NsOk ks
  | .rse k => NameOk k
  | .ret e => ExOk e
mutual
def TS.Ok : TS → Prop
  | .pl p => P0Ok p
  | .iff x y => x.Ok ∧ y.Ok
  | .whl x => x.Ok
  | .undo vs x => vs ≠ [] ∧ NsOk vs ∧ x.Ok
  | .tr x hs y => x.Ok ∧ hs.L.length ≤ 2 ∧ hs.Ok ∧ y.Ok
  | .wth f as g bs ks x => NameOk f ∧ ArsOk as ∧ NameOk g ∧ ArsOk bs ∧ NsOk ks ∧ x.Ok
def TB.Ok : TB → Prop
  | .nil => True
  | .cons s r => s.Ok ∧ r.Ok
def TH.Ok : TH → Prop
  | .nil => True
  | .cons ks x r => ks ≠ [] ∧ NsOk ks ∧ x.Ok ∧ r.Ok
end
theorem TB.ok_mem : ∀ {x : TB} {s : TS}, x.Ok → s ∈ x.L → s.Ok
  | .nil, _, _, h => by cases h
  | .cons _ _, s, ⟨h1, h2⟩, h => by
    rcases List.mem_cons.mp h with rfl | h
    · exact h1
    · exact TB.ok_mem h2 h
theorem TH.ok_mem : ∀ {x : TH} {s : List Str × TB}, x.Ok → s ∈ x.L → s.1 ≠ [] ∧ NsOk s.1 ∧ s.2.Ok
  | .nil, _, _, h => by cases h
  | .cons _ _ _, s, ⟨h1, h2, h3, h4⟩, h => by
    rcases List.mem_cons.mp h with rfl | h
    · exact ⟨h1, h2, h3⟩
    · exact TH.ok_mem h4 h
theorem TB.ht_mem : ∀ {x : TB} {s : TS}, s ∈ x.L → s.ht ≤ x.ht
  | .nil, _, h => by cases h
  | .cons _ r, s, h => by
    show s.ht ≤ max _ _
    rcases List.mem_cons.mp h with rfl | h
    · omega
    · have := TB.ht_mem h
      omega
theorem TH.ht_mem : ∀ {x : TH} {s : List Str × TB}, s ∈ x.L → s.2.ht ≤ x.ht
  | .nil, _, h => by cases h
  | .cons _ _ r, s, h => by
    rcases List.mem_cons.mp h with rfl | h
    · exact Nat.le_max_left _ _
    · exact Nat.le_trans (TH.ht_mem h) (Nat.le_max_right _ _)
theorem TS.sz_pos : ∀ s : TS, 0 < s.sz
  | .pl _ => by show 0 < 1; omega
  | .iff _ _ => by show 0 < _ + 1; omega
  | .whl _ => by show 0 < _ + 1; omega
  | .undo _ _ => by show 0 < _ + 1; omega
  | .tr _ _ _ => by show 0 < _ + 1; omega
  | .wth _ _ _ _ _ _ => by show 0 < _ + 1; omega
/-! ### their texts -/
def eT (e : Ex) : Str := sumT e.1 e.2
def arT : Ar → Str
  | .pla v => Str.ofString "&" ++ v
  | .val e => eT e
def callT (f : Str) (as : List Ar) : Str := f ++ Str.ofString "(" ++ Txt.join (Str.ofString ", ") (as.map arT) ++ Str.ofString ")"
def plT : P0 → Str
  | .set v e => v ++ Str.ofString " = " ++ eT e
  | .inp v => v ++ Str.ofString " = ?"
  | .call none f as => callT f as
  | .call (some t) f as => t ++ Str.ofString " = " ++ callT f as
  | .risk ks => Str.ofString "risk " ++ Txt.join (Str.ofString ", ") ks
  | .rse k => Str.ofString "raise " ++ k
  | .ret e => Str.ofString "return " ++ eT e
def wthT (f : Str) (as : List Ar) (g : Str) (bs : List Ar) (ks : List Str) : Str :=
  if ks.isEmpty = true then Str.ofString "with " ++ callT f as ++ Str.ofString ", " ++ callT g bs else Str.ofString "with " ++ callT f as ++ Str.ofString ", " ++ callT g bs ++ Str.ofString " swallow " ++ Txt.join (Str.ofString ", ") ks
def hdT (h : List Str × TB) : Str × TB := (Str.ofString "except " ++ Txt.join (Str.ofString ", ") h.1, h.2)
def prS : TS → List (Str × TB)
  | .pl _ => []
  | .iff x y => (Str.ofString "if", x) :: (if y.L.isEmpty = true then [] else [(Str.ofString "else", y)])
  | .whl x => [(Str.ofString "while", x)]
  | .undo vs x => [(Str.ofString "undo " ++ Txt.join (Str.ofString ", ") vs, x)]
  | .tr x hs y => (Str.ofString "try", x) :: hs.L.map hdT ++ (if (!y.L.isEmpty || hs.L.isEmpty) = true then [(Str.ofString "finally", y)] else [])
  | .wth f as g bs ks x => [(wthT f as g bs ks, x)]
def plS : TS → Str
  | .pl p => plT p
  | _ => Str.ofString ""
def blkL (ln : Str → TS → List Str) (ind : Str) : Str → List (Str × TB) → List Str
  | _, [] => [ind ++ Str.ofString "}"]
  | bf, (h, x) :: r => (bf ++ h ++ Str.ofString " {") :: ((x.L.map (ln (ind ++ Str.ofString "  "))).flatten ++ blkL ln ind (ind ++ Str.ofString "} ") r)
/-- the lines of a statement that is at most n high -/
def lnS : Nat → Str → TS → List Str
  | 0, ind, s => [ind ++ plS s]
  | n + 1, ind, s => if (prS s).isEmpty = true then [ind ++ plS s] else blkL (lnS n) ind ind (prS s)
end K3
namespace K3
open PySem PySem.Spec PyProof.Rows L2 TL
/-! ### how long the texts are -/
theorem joinL_le {s : List Nat} {m : Nat} : ∀ (xs : List (List Nat)), (∀ x ∈ xs, x.length ≤ m) → (joinL s xs).length ≤ xs.length * (m + s.length)
  | [], _ => Nat.zero_le _
  | [x], h => by
    have := h x List.mem_cons_self
    show x.length ≤ 1 * (m + s.length)
    omega
  | x :: y :: r, h => by
    have h1 := joinL_le (s := s) (y :: r) fun z hz => h z (List.mem_cons_of_mem _ hz)
    have h2 := h x List.mem_cons_self
    show (x ++ (s ++ joinL s (y :: r))).length ≤ _
    rw [List.length_append, List.length_append, List.length_cons (a := x), Nat.add_mul]
    omega
theorem join_le {s : Str} {m : Nat} {xs : List Str} (h : ∀ x ∈ xs, x.length ≤ m) : (Txt.join s xs).length ≤ xs.length * (m + s.length) := by
  rw [len_tl, join_eq, tl_join, len_tl s]
  have := joinL_le (s := tl s) (m := m) (xs.map tl) fun x hx => by
    obtain ⟨v, hv, rfl⟩ := List.mem_map.mp hx
    rw [← len_tl]
    exact h v hv
  rw [List.length_map] at this
  exact this
theorem sum_le {m : Nat} : ∀ {xs : List Str}, (∀ x ∈ xs, x.length ≤ m) → (xs.map fun x => x.length).sum ≤ xs.length * m
  | [], _ => Nat.zero_le _
  | v :: r, h => by
    have h1 := sum_le (xs := r) fun x hx => h x (List.mem_cons_of_mem _ hx)
    have h2 := h v List.mem_cons_self
    rw [List.map_cons, List.sum_cons, List.length_cons, Nat.add_mul]
    omega
theorem c2_len : (Str.ofString ", ").length = 2 := by decide +kernel
theorem s1_len : (Str.ofString " ").length = 1 := by decide +kernel
theorem numT_small {i : Int} (h0 : 0 ≤ i) (h : i < 100) : (numT i).length ≤ 2 := by
  obtain ⟨n, rfl⟩ : ∃ n : Nat, i = (n : Int) := ⟨i.toNat, by omega⟩
  unfold numT
  rw [len_tl, tl_num]
  exact numL_len (by decide) (by have e : (10 : Nat) ^ 2 = 100 := by decide
                                 rw [e]; omega)
theorem ab_small {i : Int} (h : -10 < i ∧ i < 10) : 0 ≤ ab i ∧ ab i < 100 := by
  unfold ab
  split <;> omega
theorem termT_small {v : Str} {f : Int} (h : -10 < f ∧ f < 10) : (termT v f).length ≤ v.length + 3 := by
  have := numT_small (ab_small h).1 (ab_small h).2
  unfold termT
  split
  · omega
  · rw [Str.length_append, Str.length_append, star_len]
    omega
theorem ExOk.mid {e : Ex} (h : ExOk e) : Mid e.1 := by
  have := h.c
  unfold Mid
  omega
theorem ExOk.fine {e : Ex} (h : ExOk e) : Fine e.2 := fun p hp => by
  obtain ⟨h1, h2, h3, h4⟩ := h.nm p hp
  have := h1.len
  unfold Mid
  omega
theorem ExOk.real {e : Ex} (h : ExOk e) : Real e.2 := fun p hp => ⟨(h.nm p hp).2.1, (h.nm p hp).1.ne⟩
theorem eT_len {e : Ex} (h : ExOk e) : (eT e).length ≤ 200 := by
  unfold eT sumT
  have h1 := fold_len (m := 23) (partsOf e.1 e.2) (Str.ofString "") fun p hp => by
    unfold partsOf at hp
    rcases List.mem_append.mp hp with hp | hp
    · obtain ⟨y, hy, rfl⟩ := List.mem_map.mp hp
      obtain ⟨hv, _, hm⟩ := h.nm y hy
      have := termT_small (v := y.1) hm
      have := hv.len
      show (termT y.1 y.2).length ≤ 23
      omega
    · split at hp
      · rw [List.mem_singleton.mp hp]
        have := numT_small (ab_small h.c).1 (ab_small h.c).2
        show (numT (ab e.1)).length ≤ 23
        omega
      · cases hp
  have hpl : (partsOf e.1 e.2).length ≤ 7 := by
    have := h.len
    unfold partsOf
    rw [List.length_append, List.length_map]
    split
    · show e.2.length + 1 ≤ 7
      omega
    · show e.2.length + 0 ≤ 7
      omega
  rw [show (Str.ofString "").length = 0 from by decide +kernel] at h1
  have h2 : (partsOf e.1 e.2).length * (23 + 3) ≤ 7 * (23 + 3) := Nat.mul_le_mul_right _ hpl
  omega
theorem arT_len {x : Ar} (h : ArOk x) : (arT x).length ≤ 200 := by
  cases x with
  | pla v =>
    have : v.length ≤ 20 := NameOk.len h
    show (Str.ofString "&" ++ v).length ≤ 200
    rw [Str.length_append, show (Str.ofString "&").length = 1 from by decide +kernel]
    omega
  | val e => exact eT_len h
theorem args_sum {as : List Ar} (h : ArsOk as) : ((as.map arT).map fun x => x.length).sum + (as.map arT).length * 2 ≤ 404 := by
  have h1 := sum_le (m := 200) (xs := as.map arT) fun x hx => by
    obtain ⟨y, hy, rfl⟩ := List.mem_map.mp hx
    exact arT_len (h.ok y hy)
  have h2 := h.len
  rw [List.length_map] at h1 ⊢
  have h3 : as.length * 200 ≤ 2 * 200 := Nat.mul_le_mul_right _ h2
  omega
theorem args_len {as : List Ar} (h : ArsOk as) : (Txt.join (Str.ofString ", ") (as.map arT)).length ≤ 404 := by
  have h1 := join_le (s := Str.ofString ", ") (m := 200) (xs := as.map arT) fun x hx => by
    obtain ⟨y, hy, rfl⟩ := List.mem_map.mp hx
    exact arT_len (h.ok y hy)
  have h2 := h.len
  rw [List.length_map, c2_len] at h1
  have h3 : as.length * (200 + 2) ≤ 2 * (200 + 2) := Nat.mul_le_mul_right _ h2
  omega
theorem call_len {f : Str} {as : List Ar} (hf : NameOk f) (h : ArsOk as) : (callT f as).length ≤ 430 := by
  have h1 := args_len h
  have h2 := hf.len
  unfold callT
  rw [Str.length_append, Str.length_append, Str.length_append, show (Str.ofString "(").length = 1 from by decide +kernel, show (Str.ofString ")").length = 1 from by decide +kernel]
  omega
theorem ns_sum {ns : List Str} (h : NsOk ns) : (ns.map fun x => x.length).sum + ns.length * 2 ≤ 44 := by
  have h1 := sum_le (m := 20) (xs := ns) fun x hx => (h.nm x hx).len
  have h2 := h.len
  have h3 : ns.length * 20 ≤ 2 * 20 := Nat.mul_le_mul_right _ h2
  omega
theorem ns_len {ns : List Str} (h : NsOk ns) : (Txt.join (Str.ofString ", ") ns).length ≤ 44 := by
  have h1 := join_le (s := Str.ofString ", ") (m := 20) (xs := ns) fun x hx => (h.nm x hx).len
  have h2 := h.len
  rw [c2_len] at h1
  have h3 : ns.length * (20 + 2) ≤ 2 * (20 + 2) := Nat.mul_le_mul_right _ h2
  omega
theorem eq3_len : (Str.ofString " = ").length = 3 := by decide +kernel
theorem eq4_len : (Str.ofString " = ?").length = 4 := by decide +kernel
theorem risk_len : (Str.ofString "risk ").length = 5 := by decide +kernel
theorem raise_len : (Str.ofString "raise ").length = 6 := by decide +kernel
theorem ret_len : (Str.ofString "return ").length = 7 := by decide +kernel
theorem with_len : (Str.ofString "with ").length = 5 := by decide +kernel
theorem swa_len : (Str.ofString " swallow ").length = 9 := by decide +kernel
theorem exc_len : (Str.ofString "except ").length = 7 := by decide +kernel
theorem und_len : (Str.ofString "undo ").length = 5 := by decide +kernel
theorem pl_len {p : P0} (h : P0Ok p) : (plT p).length ≤ 460 := by
  match p, h with
  | .set v e, ⟨h1, h2⟩ =>
    have := h1.len; have := eT_len h2
    show (v ++ Str.ofString " = " ++ eT e).length ≤ 460
    rw [Str.length_append, Str.length_append, eq3_len]
    omega
  | .inp v, h =>
    have : v.length ≤ 20 := NameOk.len h
    show (v ++ Str.ofString " = ?").length ≤ 460
    rw [Str.length_append, eq4_len]
    omega
  | .call none f as, ⟨_, h1, h2⟩ =>
    have := call_len h1 h2
    show (callT f as).length ≤ 460
    omega
  | .call (some t) f as, ⟨h0, h1, h2⟩ =>
    have := (h0 t rfl).len
    have := call_len h1 h2
    show (t ++ Str.ofString " = " ++ callT f as).length ≤ 460
    rw [Str.length_append, Str.length_append, eq3_len]
    omega
  | .risk ks, ⟨_, h⟩ =>
    have := ns_len h
    show (Str.ofString "risk " ++ _).length ≤ 460
    rw [Str.length_append, risk_len]
    omega
  | .rse k, h =>
    have : k.length ≤ 20 := NameOk.len h
    show (Str.ofString "raise " ++ k).length ≤ 460
    rw [Str.length_append, raise_len]
    omega
  | .ret e, h =>
    have := eT_len h
    show (Str.ofString "return " ++ eT e).length ≤ 460
    rw [Str.length_append, ret_len]
    omega
theorem wth_len {f g : Str} {as bs : List Ar} {ks : List Str} (h1 : NameOk f) (h2 : ArsOk as) (h3 : NameOk g) (h4 : ArsOk bs) (h5 : NsOk ks) : (wthT f as g bs ks).length ≤ 920 := by
  have a1 := call_len h1 h2
  have a2 := call_len h3 h4
  have a3 := ns_len h5
  unfold wthT
  split
  · rw [Str.length_append, Str.length_append, Str.length_append, with_len, c2_len]
    omega
  · rw [Str.length_append, Str.length_append, Str.length_append, Str.length_append, Str.length_append, with_len, c2_len, swa_len]
    omega
theorem pr_len {s : TS} (h : s.Ok) : ∀ q ∈ prS s, q.1.length ≤ 930 := by
  match s, h with
  | .pl _, _ => exact fun q hq => by cases hq
  | .iff x y, _ =>
    intro q hq
    rcases List.mem_cons.mp hq with rfl | hq
    · show (Str.ofString "if").length ≤ 930
      decide +kernel
    · split at hq
      · cases hq
      · rw [List.mem_singleton.mp hq]
        show (Str.ofString "else").length ≤ 930
        decide +kernel
  | .whl x, _ =>
    intro q hq
    rw [List.mem_singleton.mp hq]
    show (Str.ofString "while").length ≤ 930
    decide +kernel
  | .undo vs x, ⟨_, h, _⟩ =>
    intro q hq
    rw [List.mem_singleton.mp hq]
    have := ns_len h
    show (Str.ofString "undo " ++ _).length ≤ 930
    rw [Str.length_append, und_len]
    omega
  | .tr x hs y, ⟨_, _, h, _⟩ =>
    intro q hq
    rcases List.mem_cons.mp hq with rfl | hq
    · show (Str.ofString "try").length ≤ 930
      decide +kernel
    · rcases List.mem_append.mp hq with hq | hq
      · obtain ⟨z, hz, rfl⟩ := List.mem_map.mp hq
        have := ns_len (TH.ok_mem h hz).2.1
        show (Str.ofString "except " ++ _).length ≤ 930
        rw [Str.length_append, exc_len]
        omega
      · split at hq
        · rw [List.mem_singleton.mp hq]
          show (Str.ofString "finally").length ≤ 930
          decide +kernel
        · cases hq
  | .wth f as g bs ks x, ⟨h1, h2, h3, h4, h5, _⟩ =>
    intro q hq
    rw [List.mem_singleton.mp hq]
    have := wth_len h1 h2 h3 h4 h5
    show (wthT f as g bs ks).length ≤ 930
    omega
end K3
namespace K3
open PySem PySem.Spec PyProof.Rows L2 TL
/-! ### what writes them -/
def dPa (p : Str × Bool) : D := tp [.str p.1, .bl p.2]
def paW (p : Str × Bool) : Str := if p.2 = true then Str.ofString "&" ++ p.1 else p.1
def paT (ps : List (Str × Bool)) : Str := Str.ofString "(" ++ Txt.join (Str.ofString ", ") (ps.map paW) ++ Str.ofString ")"
structure PsOk (ps : List (Str × Bool)) : Prop where
  nm : ∀ p ∈ ps, NameOk p.1
  len : ps.length ≤ 2
theorem paW_len {p : Str × Bool} (h : NameOk p.1) : (paW p).length ≤ 21 := by
  have := h.len
  unfold paW
  split
  · rw [Str.length_append, show (Str.ofString "&").length = 1 from by decide +kernel]
    omega
  · omega
theorem pas_sum {ps : List (Str × Bool)} (h : PsOk ps) : ((ps.map paW).map fun x => x.length).sum + (ps.map paW).length * 2 ≤ 46 := by
  have h1 := sum_le (m := 21) (xs := ps.map paW) fun x hx => by
    obtain ⟨y, hy, rfl⟩ := List.mem_map.mp hx
    exact paW_len (h.nm y hy)
  have h2 := h.len
  rw [List.length_map] at h1 ⊢
  have h3 : ps.length * 21 ≤ 2 * 21 := Nat.mul_le_mul_right _ h2
  omega
theorem pas_len {ps : List (Str × Bool)} (h : PsOk ps) : (paT ps).length ≤ 48 := by
  have h1 := join_le (s := Str.ofString ", ") (m := 21) (xs := ps.map paW) fun x hx => by
    obtain ⟨y, hy, rfl⟩ := List.mem_map.mp hx
    exact paW_len (h.nm y hy)
  have h2 := h.len
  rw [List.length_map, c2_len] at h1
  have h3 : ps.length * (21 + 2) ≤ 2 * (21 + 2) := Nat.mul_le_mul_right _ h2
  unfold paT
  rw [Str.length_append, Str.length_append, show (Str.ofString "(").length = 1 from by decide +kernel, show (Str.ofString ")").length = 1 from by decide +kernel]
  omega
def spParams : Sp := fun vs H Q _ => ∃ (v : V) (ps : List (Str × Bool)), vs = [v] ∧ Dv H v (.tup (DL.of (ps.map dPa))) ∧ PsOk ps ∧ ∀ H', Same H H' → Q (.str (paT ps)) H'
def spSumD : Sp := fun vs H Q _ => ∃ (v : V) (e : Ex), vs = [v] ∧ Dv H v (dE e) ∧ ExOk e ∧ ∀ H', Same H H' → Q (.str (eT e)) H'
def spArg : Sp := fun vs H Q _ => ∃ (v : V) (x : Ar), vs = [v] ∧ Dv H v (dA x) ∧ ArOk x ∧ ∀ H', Same H H' → Q (.str (arT x)) H'
def spCallD : Sp := fun vs H Q _ => ∃ (v : V) (f : Str) (as : List Ar), vs = [v] ∧ Dv H v (dCall f as) ∧ NameOk f ∧ ArsOk as ∧ ∀ H', Same H H' → Q (.str (callT f as)) H'
def spPlain : Sp := fun vs H Q _ => ∃ (v : V) (p : P0), vs = [v] ∧ Dv H v (dP p) ∧ P0Ok p ∧ ∀ H', Same H H' → Q (.str (plT p)) H'
def spWith : Sp := fun vs H Q _ => ∃ (v : V) (f : Str) (as : List Ar) (g : Str) (bs : List Ar) (ks : List Str) (x : TB), vs = [v] ∧ Dv H v (dS (.wth f as g bs ks x)) ∧ (TS.wth f as g bs ks x).Ok ∧ ∀ H', Same H H' → Q (.str (wthT f as g bs ks)) H'
section
variable {P : Program} {w : World} {K : PySem.W.Frag} {mg : Str → Option Value} {base : Heap} {a : Ads}
theorem ok_shown_sumD (T : Txt K mg a) : FnOk P w K mg base CX0 2 a.f_shown_sum a.f_shown_sum_d ["expression"] spSumD := FnOk.imp (ok_shown_sum T) fun vs H Q E h => by
  obtain ⟨v, e, rfl, hv, ok, q⟩ := h
  obtain ⟨p, pt, as, rfl, h1, h2, h3⟩ := hv.ex
  exact ⟨p, pt, as, e.1, e.2, rfl, h1, h2, h3, Nat.le_trans ok.len (by decide), ok.mid, ok.fine, fun H' s _ => q H' s⟩
theorem sc_shown_params : FnScope ["params", "words", "name", "by_place"] ["params"] (defScope s_shown_params) := ⟨rfl, rfl, rfl, by decide +kernel, rfl, by decide +kernel, by decide +kernel⟩
theorem ok_shown_params (T : Txt K mg a) : FnOk P w K mg base CX0 1 a.f_shown_params a.f_shown_params_d ["params"] spParams := by
  refine T.F_shown_params.ok sc_shown_params (fun vs H Q E h => ?_) (fun cdv A outer s H vs Q E hr h => ?_)
  · obtain ⟨v, ps, rfl, _⟩ := h
    rfl
  obtain ⟨v, ps, rfl, hv, ok, q⟩ := h
  refine ⟨_, (pss_cons (ps_setLc (i := 1) (own := [("name", 2), ("by_place", 3)]) (g := gTup K 2 (gCons (gName 2) (gCons (gName 3) gNil))) (tt := tYes) (by rfl) sc_shown_params.nd rfl rfl (sw_true rfl rfl rfl (by decide +kernel)) (pi_tup (pv 0)) (blkOk_by (own := [("name", 2), ("by_place", 3)]) (N := ["params", "words", "name", "by_place"]) (sc := defScope s_shown_params) (by decide +kernel)) (fun _ _ _ _ _ => pg_tup (by rfl) (pgs_cons (pg_name (i := 2) sc_shown_params.nd rfl (Or.inl rfl)) (pgs_cons (pg_name (i := 3) sc_shown_params.nd rfl (Or.inl rfl)) pgs_nil))) (fun _ _ _ _ _ => pts_nil) (fun _ _ _ _ _ => (pe_ifExp (pt_val (pv 3)) (pe_op op_add_str pe_str (pv 2)) (pv 2))))
    (pss_one (ps_ret (pe_op op_add_str (pe_op op_add_str pe_str (pe_join pe_str (pv 1))) pe_str)))), ?_⟩
  obtain ⟨p, xs, rfl, hp, hxs⟩ := hv
  have hl := hxs.len
  rw [List.length_map] at hl
  refine ⟨_, rfl, p, rfl, ⟨_, .inl (.inl hp)⟩, fun N nN => ?_⟩
  refine lc_tup (K := K) (a := p) (xs := xs) (fun i H' => Same H H' ∧ H' N = some (.lst (((ps.take i).map paW).map V.str))) ⟨same_upd nN, upd_same⟩ (fun i H' _ hh => .inl (.inl (hh.1 _ _ hp))) ?_ ?_
  · rintro i x H' hi ⟨s2, hN⟩
    obtain ⟨d, hd, hx⟩ := hxs.get hi
    rw [List.getElem?_map] at hd
    obtain ⟨pa, hpa, rfl⟩ : ∃ pa, ps[i]? = some pa ∧ dPa pa = d := by
      cases e : ps[i]? with
      | none => rw [e] at hd; cases hd
      | some z => rw [e] at hd; exact ⟨z, rfl, Option.some.inj hd⟩
    obtain ⟨r, _, rfl, hr, _, _, rfl, rfl, _, _, rfl, rfl, rfl⟩ := hx
    have hpl := (ok.nm pa (List.mem_of_getElem? hpa)).len
    have fin : ∀ z, z = paW pa → Same H (upd H' N (.lst (((ps.take i).map paW).map V.str ++ [V.str z]))) ∧ (upd H' N (.lst (((ps.take i).map paW).map V.str ++ [V.str z]))) N = some (.lst (((ps.take (i + 1)).map paW).map V.str)) := by
      rintro _ rfl
      refine ⟨same_mut s2 nN, ?_⟩
      rw [upd_same, List.take_add_one, hpa, List.map_append, List.map_append]
      rfl
    have hil : i < ps.length := (List.getElem?_eq_some_iff.mp hpa).1
    have hil2 := ok.len
    have lenN : (((ps.take i).map paW).map V.str).length < sizeLine := by
      rw [List.length_map, List.length_map, List.length_take]
      exact bigLine (by omega)
    refine ⟨r, _, rfl, .inl (.inl (s2 _ _ hr)), rfl, .str pa.1, _, rfl, .bl pa.2, [], rfl, rfl, rfl, ?_⟩
    refine ⟨_, rfl, pa.2, rfl, ite2 (fun e => ?_) (fun e => ?_)⟩
    · exact ⟨_, rfl, _, _, rfl, rfl, bigLe (by rw [show (Str.ofString "&").length = 1 from by decide +kernel]; omega), _, hN, lenN, fin _ (by unfold paW; rw [if_pos e])⟩
    · exact ⟨_, rfl, _, hN, lenN, fin _ (by unfold paW; rw [if_neg e])⟩
  · rintro H' ⟨s2, hN⟩
    rw [hl, List.take_length] at hN
    have h1 := pas_sum ok
    have h2 := join_le (s := Str.ofString ", ") (m := 21) (xs := ps.map paW) fun x hx => by
      obtain ⟨y, hy, rfl⟩ := List.mem_map.mp hx
      exact paW_len (ok.nm y hy)
    have h4 := ok.len
    rw [List.length_map, c2_len] at h2
    have h3 : ps.length * (21 + 2) ≤ 2 * (21 + 2) := Nat.mul_le_mul_right _ h4
    have p1 : (Str.ofString "(").length = 1 := by decide +kernel
    have p2 : (Str.ofString ")").length = 1 := by decide +kernel
    exact ⟨⟨_, rfl⟩, _, rfl, Str.ofString ", ", N, ps.map paW, rfl, rfl, .inl (SqL.of hN), by rw [c2_len]; omega, _, _, rfl, rfl, bigLe (by rw [p1]; omega), _, _, rfl, rfl, bigLe (by rw [Str.length_append, p1, p2]; omega), q _ s2⟩
theorem sne {x y : Str} (h : ¬ x = y) : ¬ decide (V.str x = V.str y) = true := fun e => h (V.str.inj (of_decide_eq_true e))
theorem ans_word {i : Nat} {σ : L2.St} {H : Hp} {x y : Str} {b : Bool} (h : σ[i]? = some (some (.str x))) (hb : decide (V.str x = V.str y) = b) : Ans (tTest (tOp rEq (tVar i) (tC (.str y)))) σ H b := ans_eq (val_var h) val_c rfl hb
theorem sc_shown_arg : FnScope ["arg", "word", "held"] ["arg"] (defScope s_shown_arg) := ⟨rfl, rfl, rfl, by decide +kernel, rfl, by decide +kernel, by decide +kernel⟩
theorem ok_shown_arg (T : Txt K mg a) : FnOk P w K mg base CX0 3 a.f_shown_arg a.f_shown_arg_d ["arg"] spArg := by
  refine T.F_shown_arg.ok sc_shown_arg (fun vs H Q E h => ?_) (fun cdv A outer s H vs Q E hr h => ?_)
  · obtain ⟨v, x, rfl, _⟩ := h
    rfl
  obtain ⟨v, x, rfl, hv, ok, q⟩ := h
  refine ⟨_, (pss_cons (ps_asg (pv 0) (pg_tup (by rfl) (pgs_cons (pg_name (i := 1) sc_shown_arg.nd rfl (Or.inl rfl)) (pgs_cons (pg_name (i := 2) sc_shown_arg.nd rfl (Or.inl rfl)) pgs_nil))))
    (pss_one (ps_ret (pe_ifExp (pt_cmpR op_eq (pv 1) pe_str (nomark _)) (pe_op op_add_str pe_str (pv 2)) (pe_call (ok_shown_sumD T) (hr.mono (by decide)) (by rfl) T.g_shown_sum T.F_shown_sum.kp T.b_shown_sum .nil pass0 (pa_cons (pv 2) pa_nil)))))), ?_⟩
  cases x with
  | pla z =>
    obtain ⟨p, _, rfl, hp, _, _, rfl, rfl, _, _, rfl, rfl, rfl⟩ := hv
    have : z.length ≤ 20 := NameOk.len ok
    refine ⟨_, rfl, p, _, rfl, .inl (.inl hp), rfl, .str "place", _, rfl, .str z, [], rfl, rfl, ?_⟩
    refine ⟨_, rfl, rfl, _, rfl, ite2 (fun _ => ?_) (fun e => absurd (decide_eq_true rfl) e)⟩
    exact ⟨_, rfl, _, _, rfl, rfl, bigLe (by rw [show (Str.ofString "&").length = 1 from by decide +kernel]; omega), q H (Same.refl H)⟩
  | val e =>
    obtain ⟨p, _, rfl, hp, _, _, rfl, rfl, u, _, rfl, he, rfl⟩ := hv
    refine ⟨_, rfl, p, _, rfl, .inl (.inl hp), rfl, .str "value", _, rfl, u, [], rfl, rfl, ?_⟩
    refine ⟨_, rfl, rfl, _, rfl, ite2 (fun e => absurd e (sne (by decide +kernel))) (fun _ => ?_)⟩
    exact ⟨_, rfl, u, e, rfl, he, ok, fun H' s => q H' s⟩
theorem len_take {α β : Type} {l : List α} {g : α → β} {i n : Nat} (h : l.length ≤ n) (hn : n ≤ 1000000) : ((l.take i).map g).length < sizeLine := by
  rw [List.length_map, List.length_take]
  exact bigLine (by omega)
theorem get_map {α β : Type} {l : List α} {g : α → β} {i : Nat} {d : β} (h : (l.map g)[i]? = some d) : ∃ x, l[i]? = some x ∧ g x = d := by
  rw [List.getElem?_map] at h
  cases e : l[i]? with
  | none => rw [e] at h; cases h
  | some z => rw [e] at h; exact ⟨z, rfl, Option.some.inj h⟩
theorem sc_shown_call : FnScope ["call", "name", "args", "arg"] ["call"] (defScope s_shown_call) := ⟨rfl, rfl, rfl, by decide +kernel, rfl, by decide +kernel, by decide +kernel⟩
theorem ok_shown_call (T : Txt K mg a) : FnOk P w K mg base CX0 4 a.f_shown_call a.f_shown_call_d ["call"] spCallD := by
  refine T.F_shown_call.ok sc_shown_call (fun vs H Q E h => ?_) (fun cdv A outer s H vs Q E hr h => ?_)
  · obtain ⟨v, f, as, rfl, _⟩ := h
    rfl
  obtain ⟨v, f, as, rfl, hv, hf, ok, q⟩ := h
  refine ⟨_, (pss_cons (ps_asg (pv 0) (pg_tup (by rfl) (pgs_cons (pg_name (i := 1) sc_shown_call.nd rfl (Or.inl rfl)) (pgs_cons (pg_name (i := 2) sc_shown_call.nd rfl (Or.inl rfl)) pgs_nil))))
    (pss_one (ps_ret (pe_op op_add_str (pe_op op_add_str (pe_op op_add_str (pv 1) pe_str) (pe_join pe_str (pe_lc (own := [("arg", 3)]) (g := gName 3) (tt := tYes) (by rfl) sc_shown_call.nd (pi_tup (pv 2)) (blkOk_by (own := [("arg", 3)]) (N := ["call", "name", "args", "arg"]) (sc := defScope s_shown_call) (by decide +kernel)) (fun _ _ _ _ _ => pg_name (i := 3) sc_shown_call.nd rfl (Or.inl rfl)) (fun _ _ _ _ _ => pts_nil) (fun _ _ _ _ _ => (pe_call (ok_shown_arg T) (hr.mono (by decide)) (by rfl) T.g_shown_arg T.F_shown_arg.kp T.b_shown_arg .nil pass0 (pa_cons (pv 3) pa_nil)))))) pe_str)))), ?_⟩
  obtain ⟨p, _, rfl, hp, _, _, rfl, rfl, u, _, rfl, ⟨pa, xs, rfl, hpa, hxs⟩, rfl⟩ := hv
  have hl := hxs.len
  rw [List.length_map] at hl
  have hfl := hf.len
  have p1 : (Str.ofString "(").length = 1 := by decide +kernel
  have p2 : (Str.ofString ")").length = 1 := by decide +kernel
  refine ⟨_, rfl, p, _, rfl, .inl (.inl hp), rfl, .str f, _, rfl, .ref pa, [], rfl, rfl, ?_⟩
  refine ⟨_, rfl, _, _, rfl, rfl, bigLe (by rw [p1]; omega), ⟨_, rfl⟩, _, rfl, pa, rfl, ⟨_, .inl (.inl hpa)⟩, fun N nN => ?_⟩
  refine lc_tup (K := K) (a := pa) (xs := xs) (fun i H' => Same H H' ∧ H' N = some (.lst (((as.take i).map arT).map V.str))) ⟨same_upd nN, upd_same⟩ (fun i H' _ hh => .inl (.inl (hh.1 _ _ hpa))) ?_ ?_
  · rintro i x H' hi ⟨s2, hN⟩
    obtain ⟨d, hd, hx⟩ := hxs.get hi
    obtain ⟨ar, har, rfl⟩ := get_map hd
    refine ⟨rfl, _, rfl, x, ar, rfl, hx.mono (TK.of s2), ok.ok ar (List.mem_of_getElem? har), fun H3 s3 => ⟨_, s3 _ _ hN, ?_, same_mut (s2.trans s3) nN, ?_⟩⟩
    · rw [List.length_map]
      exact len_take ok.len (by decide)
    · rw [upd_same, List.take_add_one, har, List.map_append, List.map_append]
      rfl
  · rintro H' ⟨s2, hN⟩
    rw [hl, List.take_length] at hN
    have h1 := args_sum ok
    have h2 := args_len ok
    exact ⟨Str.ofString ", ", N, as.map arT, rfl, rfl, .inl (SqL.of hN), by rw [c2_len]; omega, _, _, rfl, rfl, bigLe (by rw [Str.length_append, p1]; omega), _, _, rfl, rfl, bigLe (by rw [Str.length_append, Str.length_append, p1, p2]; omega), q _ s2⟩
theorem sc_shown_plain : FnScope ["statement", "word", "call", "target", "name", "args"] ["statement"] (defScope s_shown_plain) := ⟨rfl, rfl, rfl, by decide +kernel, rfl, by decide +kernel, by decide +kernel⟩
theorem ok_shown_plain (T : Txt K mg a) : FnOk P w K mg base CX0 5 a.f_shown_plain a.f_shown_plain_d ["statement"] spPlain := by
  refine T.F_shown_plain.ok sc_shown_plain (fun vs H Q E h => ?_) (fun cdv A outer s H vs Q E hr h => ?_)
  · obtain ⟨v, p, rfl, _⟩ := h
    rfl
  obtain ⟨v, p, rfl, hv, ok, q⟩ := h
  refine ⟨_, (pss_cons (ps_set (i := 1) sc_shown_plain.nd rfl (Or.inl rfl) (pe_ix ix_tup (pv 0) pe_int (fun _ _ => rfl)))
    (pss_cons (ps_if (pt_cmpR op_eq (pv 1) pe_str (nomark _))
      (pss_one (ps_ret (pe_op op_add_str (pe_op op_add_str (pe_ix ix_tup (pv 0) pe_int (fun _ _ => rfl)) pe_str) (pe_call (ok_shown_sumD T) (hr.mono (by decide)) (by rfl) T.g_shown_sum T.F_shown_sum.kp T.b_shown_sum .nil pass0 (pa_cons (pe_ix ix_tup (pv 0) pe_int (fun _ _ => rfl)) pa_nil)))))
      pss_nil)
    (pss_cons (ps_if (pt_cmpR op_eq (pv 1) pe_str (nomark _))
      (pss_one (ps_ret (pe_op op_add_str (pe_ix ix_tup (pv 0) pe_int (fun _ _ => rfl)) pe_str)))
      pss_nil)
    (pss_cons (ps_if (pt_cmpR op_eq (pv 1) pe_str (nomark _))
      (pss_one (ps_ret (pe_op op_add_str pe_str (pe_join pe_str (pe_ix ix_tup (pv 0) pe_int (fun _ _ => rfl))))))
      pss_nil)
    (pss_cons (ps_if (pt_cmpR op_eq (pv 1) pe_str (nomark _))
      (pss_one (ps_ret (pe_op op_add_str pe_str (pe_ix ix_tup (pv 0) pe_int (fun _ _ => rfl)))))
      pss_nil)
    (pss_cons (ps_if (pt_cmpR op_eq (pv 1) pe_str (nomark _))
      (pss_one (ps_ret (pe_op op_add_str pe_str (pe_call (ok_shown_sumD T) (hr.mono (by decide)) (by rfl) T.g_shown_sum T.F_shown_sum.kp T.b_shown_sum .nil pass0 (pa_cons (pe_ix ix_tup (pv 0) pe_int (fun _ _ => rfl)) pa_nil)))))
      pss_nil)
    (pss_cons (ps_asg (pe_slice sl_tup (pv 0) (po_some pe_int) po_none) (pg_tup (by rfl) (pgs_cons (pg_name (i := 3) sc_shown_plain.nd rfl (Or.inl rfl)) (pgs_cons (pg_name (i := 4) sc_shown_plain.nd rfl (Or.inl rfl)) (pgs_cons (pg_name (i := 5) sc_shown_plain.nd rfl (Or.inl rfl)) pgs_nil)))))
    (pss_cons (ps_set (i := 2) sc_shown_plain.nd rfl (Or.inl rfl) (pe_call (ok_shown_call T) (hr.mono (by decide)) (by rfl) T.g_shown_call T.F_shown_call.kp T.b_shown_call .nil pass0 (pa_cons (pe_tup (pa_cons (pv 4) (pa_cons (pv 5) pa_nil))) pa_nil)))
    (pss_one (ps_ret (pe_ifExp (pt_cmpR op_isN (pv 3) pe_non (nomark _)) (pv 2) (pe_op op_add_str (pe_op op_add_str (pv 3) pe_str) (pv 2))))))))))))), ?_⟩
  have word : ∀ {r : Addr} {x : Str} {xs : List V} {Q : VK}, H r = some (.tup (.str x :: xs)) → Q (.str x) H → (tOp (rIxT K) (tVar 0) (tC (.int 0))) [some (.ref r), none, none, none, none, none] H Q := fun {r x xs Q} hr q => ⟨_, rfl, r, _, _, _, rfl, rfl, .inl (.inl hr), atI_nat (j := 0) rfl, q⟩
  cases p with
  | set z e =>
    obtain ⟨r, _, rfl, hr, _, _, rfl, rfl, _, _, rfl, rfl, u, _, rfl, he, rfl⟩ := hv
    obtain ⟨hz, ok⟩ := ok
    have h1 := hz.len
    have h2 := eT_len ok
    refine word hr ?_
    dsimp only [gName]
    refine st_seq (st_yes (ans_word rfl (by decide +kernel)) ?_)
    exact ⟨_, rfl, r, _, _, _, rfl, rfl, .inl (.inl hr), atI_nat (j := 1) rfl, _, _, rfl, rfl, bigLe (by rw [eq3_len]; omega), _, rfl, r, _, _, _, rfl, rfl, .inl (.inl hr), atI_nat (j := 2) rfl, u, e, rfl, he, ok, fun H' s => ⟨_, _, rfl, rfl, bigLe (by rw [Str.length_append, eq3_len]; omega), q H' s⟩⟩
  | inp z =>
    obtain ⟨r, _, rfl, hr, _, _, rfl, rfl, _, _, rfl, rfl, rfl⟩ := hv
    have h1 : z.length ≤ 20 := NameOk.len ok
    refine word hr ?_
    dsimp only [gName]
    refine st_seq (st_no (ans_word rfl (by decide +kernel)) ?_)
    refine st_seq (st_yes (ans_word rfl (by decide +kernel)) ?_)
    exact ⟨_, rfl, r, _, _, _, rfl, rfl, .inl (.inl hr), atI_nat (j := 1) rfl, _, _, rfl, rfl, bigLe (by rw [eq4_len]; omega), q H (Same.refl H)⟩
  | risk ks =>
    obtain ⟨r, _, rfl, hr, _, _, rfl, rfl, u, _, rfl, hu, rfl⟩ := hv
    obtain ⟨k, rfl, hk⟩ := Dv.strs hu
    have h1 := ns_sum ok.2
    have h2 := ns_len ok.2
    refine word hr ?_
    dsimp only [gName]
    refine st_seq (st_no (ans_word rfl (by decide +kernel)) ?_)
    refine st_seq (st_no (ans_word rfl (by decide +kernel)) ?_)
    refine st_seq (st_yes (ans_word rfl (by decide +kernel)) ?_)
    exact ⟨⟨_, rfl⟩, _, rfl, r, _, _, _, rfl, rfl, .inl (.inl hr), atI_nat (j := 1) rfl, Str.ofString ", ", k, ks, rfl, rfl, .inr (.inl (.inl hk)), by rw [c2_len]; omega, _, _, rfl, rfl, bigLe (by rw [risk_len]; omega), q H (Same.refl H)⟩
  | rse k =>
    obtain ⟨r, _, rfl, hr, _, _, rfl, rfl, _, _, rfl, rfl, rfl⟩ := hv
    have h1 : k.length ≤ 20 := NameOk.len ok
    refine word hr ?_
    dsimp only [gName]
    refine st_seq (st_no (ans_word rfl (by decide +kernel)) ?_)
    refine st_seq (st_no (ans_word rfl (by decide +kernel)) ?_)
    refine st_seq (st_no (ans_word rfl (by decide +kernel)) ?_)
    refine st_seq (st_yes (ans_word rfl (by decide +kernel)) ?_)
    exact ⟨_, rfl, r, _, _, _, rfl, rfl, .inl (.inl hr), atI_nat (j := 1) rfl, _, _, rfl, rfl, bigLe (by rw [raise_len]; omega), q H (Same.refl H)⟩
  | ret e =>
    obtain ⟨r, _, rfl, hr, _, _, rfl, rfl, u, _, rfl, he, rfl⟩ := hv
    have h2 := eT_len ok
    refine word hr ?_
    dsimp only [gName]
    refine st_seq (st_no (ans_word rfl (by decide +kernel)) ?_)
    refine st_seq (st_no (ans_word rfl (by decide +kernel)) ?_)
    refine st_seq (st_no (ans_word rfl (by decide +kernel)) ?_)
    refine st_seq (st_no (ans_word rfl (by decide +kernel)) ?_)
    refine st_seq (st_yes (ans_word rfl (by decide +kernel)) ?_)
    exact ⟨_, rfl, r, _, _, _, rfl, rfl, .inl (.inl hr), atI_nat (j := 1) rfl, u, e, rfl, he, ok, fun H' s => ⟨_, _, rfl, rfl, bigLe (by rw [ret_len]; omega), q H' s⟩⟩
  | call t f as =>
    obtain ⟨ot, hf, ha⟩ := ok
    have hc := call_len hf ha
    obtain ⟨r, tv, u, rfl, hr, htv, hu⟩ : ∃ (r : Addr) (tv u : V), v = .ref r ∧ H r = some (.tup [.str "call", tv, .str f, u]) ∧ tv = (match t with | none => V.non | some t => V.str t) ∧ Dv H u (.tup (DL.of (as.map dA))) := by
      cases t with
      | none =>
        obtain ⟨r, _, rfl, hr, _, _, rfl, rfl, _, _, rfl, rfl, _, _, rfl, rfl, u, _, rfl, hu, rfl⟩ := hv
        exact ⟨r, _, u, rfl, hr, rfl, hu⟩
      | some t =>
        obtain ⟨r, _, rfl, hr, _, _, rfl, rfl, _, _, rfl, rfl, _, _, rfl, rfl, u, _, rfl, hu, rfl⟩ := hv
        exact ⟨r, _, u, rfl, hr, rfl, hu⟩
    refine word hr ?_
    dsimp only [gName]
    refine st_seq (st_no (ans_word rfl (by decide +kernel)) ?_)
    refine st_seq (st_no (ans_word rfl (by decide +kernel)) ?_)
    refine st_seq (st_no (ans_word rfl (by decide +kernel)) ?_)
    refine st_seq (st_no (ans_word rfl (by decide +kernel)) ?_)
    refine st_seq (st_no (ans_word rfl (by decide +kernel)) ?_)
    refine ⟨_, rfl, 1, rfl, r, _, rfl, .inl (.inl hr), fun z => absurd z.1 (by show ¬ HT.sIx 4 0 (some 1) = 0; decide), fun q1 n1 => ?_⟩
    have h1 : (upd H q1 (.tup (cutV [.str "call", tv, .str f, u] (some 1) none))) q1 = some (.tup [tv, .str f, u]) := upd_same
    have s1 := same_upd (o := .tup (cutV [.str "call", tv, .str f, u] (some 1) none)) n1
    generalize upd H q1 (.tup (cutV [.str "call", tv, .str f, u] (some 1) none)) = H1 at h1 s1
    refine ⟨q1, _, rfl, .inl (.inl h1), rfl, tv, _, rfl, .str f, _, rfl, u, [], rfl, rfl, ?_⟩
    refine ⟨_, rfl, _, rfl, (by show 2 ≤ sizeLine; decide), fun q2 n2 => ?_⟩
    have s2 := same_upd (o := .tup [.str f, u]) n2
    refine ⟨_, f, as, rfl, ⟨q2, _, rfl, upd_same, _, _, rfl, rfl, u, _, rfl, Dv.mono (TK.of (s1.trans s2)) hu, rfl⟩, hf, ha, fun H' s3 => ?_⟩
    have s4 := (s1.trans s2).trans s3
    cases t with
    | none =>
      subst htv
      exact ⟨_, rfl, rfl, _, rfl, ite2 (fun _ => ⟨_, rfl, q H' s4⟩) (fun e => absurd rfl e)⟩
    | some t =>
      subst htv
      have h5 := (ot t rfl).len
      exact ⟨_, rfl, rfl, _, rfl, ite2 (fun e => absurd e (by simp)) (fun _ => ⟨_, rfl, _, _, rfl, rfl, bigLe (by rw [eq3_len]; omega), _, rfl, _, _, rfl, rfl, bigLe (by rw [Str.length_append, eq3_len]; omega), q H' s4⟩)⟩
end
end K3
namespace K3
open PySem PySem.Spec PyProof.Rows L2 TL
def dPt (p : Str × TB) : D := tp [.str p.1, .tup (dB p.2)]
/-- a list that is new and holds such parts -/
def spParts (f : TS → Bool) : Sp := fun vs H Q _ => ∃ (v : V) (s : TS), vs = [v] ∧ f s = true ∧ Dv H v (dS s) ∧ s.Ok ∧ ∀ (H' : Hp) (L : Addr) (qs : List V), Same H H' → H L = none → H' L = some (.lst qs) → Dvs H' qs (DL.of ((prS s).map dPt)) → Q (.ref L) H'
def isI : TS → Bool
  | .iff _ _ => true
  | _ => false
def isT : TS → Bool
  | .tr _ _ _ => true
  | _ => false
theorem Dv.blk {H : Hp} {v : V} {x : TB} (h : Dv H v (.tup (dB x))) : ∃ (p : Addr) (xs : List V), v = .ref p ∧ H p = some (.tup xs) ∧ Dvs H xs (DL.of (x.L.map dS)) ∧ xs.isEmpty = x.L.isEmpty ∧ xs.length = x.L.length := by
  obtain ⟨p, xs, e, h1, h2⟩ := h
  rw [dB_of] at h2
  have hl := h2.len
  rw [List.length_map] at hl
  refine ⟨p, xs, e, h1, h2, ?_, hl⟩
  cases xs with
  | nil =>
    cases hx : x.L with
    | nil => rfl
    | cons _ _ => rw [hx] at hl; simp at hl
  | cons _ _ =>
    cases hx : x.L with
    | nil => rw [hx] at hl; simp at hl
    | cons _ _ => rfl
theorem Dv.part {H : Hp} {q : Addr} {h : Str} {u : V} {x : TB} (hq : H q = some (.tup [.str h, u])) (hu : Dv H u (.tup (dB x))) : Dv H (.ref q) (dPt (h, x)) := ⟨q, _, rfl, hq, _, _, rfl, rfl, u, _, rfl, hu, rfl⟩
section
variable {P : Program} {w : World} {K : PySem.W.Frag} {mg : Str → Option Value} {base : Heap} {a : Ads}
theorem sc_shown_with : FnScope ["statement", "head", "enter", "leave", "kinds"] ["statement"] (defScope s_shown_with) := ⟨rfl, rfl, rfl, by decide +kernel, rfl, by decide +kernel, by decide +kernel⟩
theorem ok_shown_with (T : Txt K mg a) : FnOk P w K mg base CX0 5 a.f_shown_with a.f_shown_with_d ["statement"] spWith := by
  refine T.F_shown_with.ok sc_shown_with (fun vs H Q E h => ?_) (fun cdv A outer s H vs Q E hr h => ?_)
  · obtain ⟨v, f, as, g, bs, ks, x, rfl, _⟩ := h
    rfl
  obtain ⟨v, f, as, g, bs, ks, x, rfl, hv, ⟨hf, ha, hg, hb, hk, _⟩, q⟩ := h
  refine ⟨_, (pss_cons (ps_asg (pe_slice sl_tup (pv 0) (po_some pe_int) (po_some pe_int)) (pg_tup (by rfl) (pgs_cons (pg_name (i := 2) sc_shown_with.nd rfl (Or.inl rfl)) (pgs_cons (pg_name (i := 3) sc_shown_with.nd rfl (Or.inl rfl)) (pgs_cons (pg_name (i := 4) sc_shown_with.nd rfl (Or.inl rfl)) pgs_nil)))))
    (pss_cons (ps_set (i := 1) sc_shown_with.nd rfl (Or.inl rfl) (pe_op op_add_str (pe_op op_add_str (pe_op op_add_str pe_str (pe_call (ok_shown_call T) (hr.mono (by decide)) (by rfl) T.g_shown_call T.F_shown_call.kp T.b_shown_call .nil pass0 (pa_cons (pv 2) pa_nil))) pe_str) (pe_call (ok_shown_call T) (hr.mono (by decide)) (by rfl) T.g_shown_call T.F_shown_call.kp T.b_shown_call .nil pass0 (pa_cons (pv 3) pa_nil))))
    (pss_cons (ps_if (pt_truth (pv 4) (by intro _; rfl))
      (pss_one (ps_set (i := 1) sc_shown_with.nd rfl (Or.inl rfl) (pe_op op_add_str (pe_op op_add_str (pv 1) pe_str) (pe_join pe_str (pv 4)))))
      pss_nil)
    (pss_one (ps_ret (pv 1)))))), ?_⟩
  obtain ⟨r, _, rfl, hr, _, _, rfl, rfl, u1, _, rfl, h1, u2, _, rfl, h2, u3, _, rfl, h3, u4, _, rfl, h4, rfl⟩ := hv
  obtain ⟨kp, rfl, hkp⟩ := Dv.strs h3
  have l1 := call_len hf ha
  have l2 := call_len hg hb
  have l3 := ns_len hk
  have l4 := ns_sum hk
  refine ⟨_, rfl, 1, rfl, 4, rfl, r, _, rfl, .inl (.inl hr), fun z => absurd z.1 (by show ¬ HT.sIx 5 0 (some 1) = 0; decide), fun q1 n1 => ?_⟩
  have e1 : (upd H q1 (.tup (cutV [.str "with", u1, u2, .ref kp, u4] (some 1) (some 4)))) q1 = some (.tup [u1, u2, .ref kp]) := upd_same
  have s1 := same_upd (o := .tup (cutV [.str "with", u1, u2, .ref kp, u4] (some 1) (some 4))) n1
  generalize upd H q1 (.tup (cutV [.str "with", u1, u2, .ref kp, u4] (some 1) (some 4))) = H1 at e1 s1
  refine ⟨q1, _, rfl, .inl (.inl e1), rfl, u1, _, rfl, u2, _, rfl, .ref kp, [], rfl, rfl, ?_⟩
  refine ⟨_, rfl, u1, f, as, rfl, h1.mono (TK.of s1), hf, ha, fun H2 s2 => ⟨_, _, rfl, rfl, bigLe (by rw [with_len]; omega), _, _, rfl, rfl, bigLe (by rw [Str.length_append, with_len, c2_len]; omega), _, rfl, u2, g, bs, rfl, h2.mono (TK.of (s1.trans s2)), hg, hb, fun H3 s3 => ⟨_, _, rfl, rfl, bigLe (by rw [Str.length_append, Str.length_append, with_len, c2_len]; omega), ?_⟩⟩⟩
  have s4 := (s1.trans s2).trans s3
  dsimp only [gName]
  have hkp3 := s4 _ _ hkp
  generalize hw : Str.ofString "with " ++ callT f as ++ Str.ofString ", " ++ callT g bs = wt
  have wl : wt.length ≤ 867 := by
    rw [← hw, Str.length_append, Str.length_append, Str.length_append, with_len, c2_len]
    omega
  have q' := q H3 s4
  unfold wthT at q'
  rw [hw] at q'
  cases ks with
  | nil =>
    refine st_seq (st_no (fun Q q => ⟨_, rfl, false, .inr (.inl ⟨_, .inl (.inl hkp3), rfl⟩), q⟩) ?_)
    dsimp only [tNext]
    exact ⟨_, rfl, q'⟩
  | cons k kr =>
    refine st_seq (st_yes (fun Q q => ⟨_, rfl, true, .inr (.inl ⟨_, .inl (.inl hkp3), rfl⟩), q⟩) ?_)
    exact ⟨_, rfl, _, _, rfl, rfl, bigLe (by rw [swa_len]; omega), ⟨_, rfl⟩, _, rfl, Str.ofString ", ", kp, k :: kr, rfl, rfl, .inr (.inl (.inl hkp3)), by rw [c2_len]; omega, _, _, rfl, rfl, bigLe (by rw [Str.length_append, swa_len]; omega), _, rfl, q'⟩
theorem sc_if_parts : FnScope ["statement", "parts"] ["statement"] (defScope s_if_parts) := ⟨rfl, rfl, rfl, by decide +kernel, rfl, by decide +kernel, by decide +kernel⟩
theorem ok_if_parts (T : Txt K mg a) : FnOk P w K mg base CX0 1 a.f_if_parts a.f_if_parts_d ["statement"] (spParts isI) := by
  refine T.F_if_parts.ok sc_if_parts (fun vs H Q E h => ?_) (fun cdv A outer s H vs Q E hr h => ?_)
  · obtain ⟨v, s, rfl, _⟩ := h
    rfl
  obtain ⟨v, s, rfl, hs, hv, ok, q⟩ := h
  refine ⟨_, (pss_cons (ps_set (i := 1) sc_if_parts.nd rfl (Or.inl rfl) (pe_lst (pa_cons (pe_tup (pa_cons pe_str (pa_cons (pe_ix ix_tup (pv 0) pe_int (fun _ _ => rfl)) pa_nil))) pa_nil)))
    (pss_cons (ps_if (pt_truth (pe_ix ix_tup (pv 0) pe_int (fun _ _ => rfl)) (by intro _; rfl))
      (pss_one (ps_expr (pe_bm PySem.F.plainAttrs_list PySem.F.slot_list_append PySem.F.type_list_append mt_append (pv 1) (pa_cons (pe_tup (pa_cons pe_str (pa_cons (pe_ix ix_tup (pv 0) pe_int (fun _ _ => rfl)) pa_nil))) pa_nil))))
      pss_nil)
    (pss_one (ps_ret (pv 1))))), ?_⟩
  cases s with
  | iff x y =>
    obtain ⟨r, _, rfl, hr, _, _, rfl, rfl, u1, _, rfl, h1, u2, _, rfl, h2, rfl⟩ := hv
    obtain ⟨p2, ys, rfl, hp2, _, hye, _⟩ := h2.blk
    refine ⟨_, rfl, r, _, _, _, rfl, rfl, .inl (.inl hr), atI_nat (j := 1) rfl, (by show 2 ≤ sizeLine; decide), fun t1 n1 => ⟨(by show 1 ≤ sizeLine; decide), fun L nL => ?_⟩⟩
    have s1 := same_upd (o := .tup [.str "if", u1]) n1
    have s2 := same_upd (o := .lst [.ref t1]) nL
    have ht1 := s2 _ _ (upd_same (H := H) (a := t1) (o := .tup [.str "if", u1]))
    have s3 := s1.trans s2
    have nL0 := s1.free nL
    have hL : (upd (upd H t1 (.tup [.str "if", u1])) L (.lst [.ref t1])) L = some (.lst [.ref t1]) := upd_same
    dsimp only [gName]
    generalize upd (upd H t1 (.tup [.str "if", u1])) L (.lst [.ref t1]) = H1 at s3 ht1 hL
    have hy := hp2
    cases hy : y.L with
    | nil =>
      rw [hy] at hye
      refine st_seq (st_no (fun Q q => ⟨_, rfl, r, _, _, _, rfl, rfl, .inl (.inl (s3 _ _ hr)), atI_nat (j := 2) rfl, false, .inr (.inl ⟨_, .inl (.inl (s3 _ _ hp2)), by rw [hye]; rfl⟩), q⟩) ?_)
      dsimp only [tNext]
      refine ⟨_, rfl, q H1 L _ s3 nL0 hL ?_⟩
      show Dvs H1 _ (DL.of (List.map dPt ((Str.ofString "if", x) :: (if y.L.isEmpty = true then [] else [(Str.ofString "else", y)]))))
      rw [hy]
      exact ⟨_, _, rfl, Dv.part ht1 (h1.mono (TK.of s3)), rfl⟩
    | cons z zr =>
      rw [hy] at hye
      refine st_seq (st_yes (fun Q q => ⟨_, rfl, r, _, _, _, rfl, rfl, .inl (.inl (s3 _ _ hr)), atI_nat (j := 2) rfl, true, .inr (.inl ⟨_, .inl (.inl (s3 _ _ hp2)), by rw [hye]; rfl⟩), q⟩) ?_)
      refine ⟨_, rfl, .inl ⟨rfl, _, SqL.of hL⟩, _, rfl, r, _, _, _, rfl, rfl, .inl (.inl (s3 _ _ hr)), atI_nat (j := 2) rfl, (by show 2 ≤ sizeLine; decide), fun t2 n2 => ?_⟩
      have s4 := same_upd (o := .tup [.str "else", .ref p2]) n2
      have hL2 := s4 _ _ hL
      refine ⟨L, _, _, rfl, rfl, hL2, (by show 1 < sizeLine; decide), ?_⟩
      have k4 : TK H1 (upd (upd H1 t2 (.tup [.str "else", .ref p2])) L (.lst ([.ref t1] ++ [.ref t2]))) := (TK.of s4).trans (TK.upd hL2 (fun _ z => by cases z))
      refine ⟨_, rfl, q _ L _ (same_mut (s3.trans s4) nL0) nL0 upd_same ?_⟩
      show Dvs _ _ (DL.of (List.map dPt ((Str.ofString "if", x) :: (if y.L.isEmpty = true then [] else [(Str.ofString "else", y)]))))
      rw [hy]
      refine ⟨_, _, rfl, Dv.part (k4 _ _ ht1) (h1.mono ((TK.of s3).trans k4)), _, _, rfl, Dv.part ?_ (h2.mono ((TK.of s3).trans k4)), rfl⟩
      rw [upd_ne (ne_of_none hL n2).symm]
      exact upd_same
  | pl _ => cases hs
  | whl _ => cases hs
  | undo _ _ => cases hs
  | tr _ _ _ => cases hs
  | wth _ _ _ _ _ _ => cases hs
end
end K3
namespace K3
open PySem PySem.Spec PyProof.Rows L2 TL
theorem TB.sz_L : ∀ x : TB, x.sz = (x.L.map TS.sz).sum
  | .nil => rfl
  | .cons s r => by show s.sz + r.sz = _; rw [TB.sz_L r]; rfl
theorem TH.sz_L : ∀ x : TH, x.sz = (x.L.map fun h => h.2.sz).sum
  | .nil => rfl
  | .cons ks x r => by show x.sz + r.sz = _; rw [TH.sz_L r]; rfl
def wsum (ps : List (Str × TB)) : Nat := (ps.map fun p => p.2.sz).sum
theorem pr_sz (s : TS) : wsum (prS s) + 1 ≤ s.sz := by
  cases s with
  | pl _ => exact Nat.le_refl 1
  | iff x y =>
    show wsum ((Str.ofString "if", x) :: (if y.L.isEmpty = true then [] else [(Str.ofString "else", y)])) + 1 ≤ x.sz + y.sz + 1
    split
    · show x.sz + 0 + 1 ≤ _
      omega
    · show x.sz + (y.sz + 0) + 1 ≤ _
      omega
  | whl x => exact Nat.le_refl _
  | undo vs x => exact Nat.le_refl _
  | tr x hs y =>
    have e : (hs.L.map hdT).map (fun p => p.2.sz) = hs.L.map fun h => h.2.sz := by
      rw [List.map_map]
      rfl
    show ((Str.ofString "try", x) :: hs.L.map hdT ++ (if (!y.L.isEmpty || hs.L.isEmpty) = true then [(Str.ofString "finally", y)] else []) |>.map fun p => p.2.sz).sum + 1 ≤ x.sz + hs.sz + y.sz + 1
    rw [List.map_append, List.sum_append, List.map_cons, List.sum_cons, e, ← TH.sz_L]
    split
    · show x.sz + hs.sz + (y.sz + 0) + 1 ≤ _
      omega
    · show x.sz + hs.sz + 0 + 1 ≤ _
      omega
  | wth _ _ _ _ _ x => exact Nat.le_refl _
theorem pr_num {s : TS} (h : s.Ok) : (prS s).length ≤ 4 := by
  match s, h with
  | .pl _, _ => exact Nat.zero_le _
  | .iff x y, _ =>
    show (_ :: (if y.L.isEmpty = true then [] else [(Str.ofString "else", y)])).length ≤ 4
    split
    · exact (by decide : 1 ≤ 4)
    · exact (by decide : 2 ≤ 4)
  | .whl x, _ => exact (by decide : 1 ≤ 4)
  | .undo vs x, _ => exact (by decide : 1 ≤ 4)
  | .tr x hs y, ⟨_, hl, _, _⟩ =>
    show (_ :: hs.L.map hdT ++ (if (!y.L.isEmpty || hs.L.isEmpty) = true then [(Str.ofString "finally", y)] else [])).length ≤ 4
    rw [List.length_append, List.length_cons, List.length_map]
    split
    · show hs.L.length + 1 + 1 ≤ 4
      omega
    · show hs.L.length + 1 + 0 ≤ 4
      omega
  | .wth _ _ _ _ _ x, _ => exact (by decide : 1 ≤ 4)
theorem pr_ok {s : TS} (h : s.Ok) : ∀ q ∈ prS s, q.2.Ok ∧ q.2.ht + 1 ≤ s.ht := by
  match s, h with
  | .pl _, _ => exact fun q hq => by cases hq
  | .iff x y, ⟨h1, h2⟩ =>
    intro q hq
    show _ ∧ q.2.ht + 1 ≤ max x.ht y.ht + 1
    rcases List.mem_cons.mp hq with rfl | hq
    · exact ⟨h1, Nat.succ_le_succ (Nat.le_max_left _ _)⟩
    · split at hq
      · cases hq
      · rw [List.mem_singleton.mp hq]
        exact ⟨h2, Nat.succ_le_succ (Nat.le_max_right _ _)⟩
  | .whl x, h =>
    intro q hq
    rw [List.mem_singleton.mp hq]
    exact ⟨h, Nat.le_refl _⟩
  | .undo vs x, ⟨_, _, h⟩ =>
    intro q hq
    rw [List.mem_singleton.mp hq]
    exact ⟨h, Nat.le_refl _⟩
  | .tr x hs y, ⟨h1, _, h2, h3⟩ =>
    intro q hq
    show _ ∧ q.2.ht + 1 ≤ max x.ht (max hs.ht y.ht) + 1
    have m1 := Nat.le_max_left x.ht (max hs.ht y.ht)
    have m2 := Nat.le_max_right x.ht (max hs.ht y.ht)
    have m3 := Nat.le_max_left hs.ht y.ht
    have m4 := Nat.le_max_right hs.ht y.ht
    rcases List.mem_cons.mp hq with rfl | hq
    · exact ⟨h1, Nat.succ_le_succ m1⟩
    · rcases List.mem_append.mp hq with hq | hq
      · obtain ⟨z, hz, rfl⟩ := List.mem_map.mp hq
        refine ⟨(TH.ok_mem h2 hz).2.2, ?_⟩
        have : z.2.ht ≤ hs.ht := TH.ht_mem hz
        show z.2.ht + 1 ≤ _
        omega
      · split at hq
        · rw [List.mem_singleton.mp hq]
          refine ⟨h3, ?_⟩
          show y.ht + 1 ≤ _
          omega
        · cases hq
  | .wth f as g bs ks x, ⟨_, _, _, _, _, h⟩ =>
    intro q hq
    rw [List.mem_singleton.mp hq]
    exact ⟨h, Nat.le_refl _⟩
/-! ### how many lines, how long -/
theorem flat_len {α : Type} {f : α → List Str} {g : α → Nat} : ∀ (l : List α), (∀ x ∈ l, (f x).length ≤ 5 * g x) → (l.map f).flatten.length ≤ 5 * (l.map g).sum
  | [], _ => Nat.zero_le _
  | x :: r, h => by
    have h1 := flat_len r fun y hy => h y (List.mem_cons_of_mem _ hy)
    have h2 := h x List.mem_cons_self
    rw [List.map_cons, List.flatten_cons, List.length_append, List.map_cons, List.sum_cons]
    omega
theorem blk_len {ln : Str → TS → List Str} {ind : Str} : ∀ (ps : List (Str × TB)) (bf : Str), (∀ p ∈ ps, ∀ t ∈ p.2.L, (ln (ind ++ Str.ofString "  ") t).length ≤ 5 * t.sz) → (blkL ln ind bf ps).length ≤ ps.length + 1 + 5 * wsum ps
  | [], _, _ => Nat.le_refl 1
  | (h, x) :: r, bf, hh => by
    have h1 := blk_len r (ind ++ Str.ofString "} ") fun p hp => hh p (List.mem_cons_of_mem _ hp)
    have h2 := flat_len x.L fun t ht => hh (h, x) List.mem_cons_self t ht
    show (_ :: (_ ++ blkL ln ind (ind ++ Str.ofString "} ") r)).length ≤ _
    rw [List.length_cons, List.length_append, List.length_cons]
    show _ ≤ r.length + 1 + 1 + 5 * (x.sz + wsum r)
    rw [← TB.sz_L] at h2
    omega
theorem ln_len : ∀ (n : Nat) (ind : Str) (s : TS), s.Ok → (lnS n ind s).length ≤ 5 * s.sz
  | 0, ind, s, _ => by
    have := s.sz_pos
    show 1 ≤ _
    omega
  | n + 1, ind, s, h => by
    have h0 := s.sz_pos
    show (if (prS s).isEmpty = true then [ind ++ plS s] else blkL (lnS n) ind ind (prS s)).length ≤ _
    split
    · show 1 ≤ _
      omega
    · have h1 := blk_len (ln := lnS n) (ind := ind) (prS s) ind fun p hp t ht => ln_len n _ t (TB.ok_mem (pr_ok h p hp).1 ht)
      have h2 := pr_sz s
      have h3 := pr_num h
      omega
theorem in2_len : (Str.ofString "  ").length = 2 := by decide +kernel
theorem br2_len : (Str.ofString "} ").length = 2 := by decide +kernel
theorem bo2_len : (Str.ofString " {").length = 2 := by decide +kernel
theorem br1_len : (Str.ofString "}").length = 1 := by decide +kernel
theorem blk_wide {ln : Str → TS → List Str} {ind : Str} {m : Nat} : ∀ (ps : List (Str × TB)) (bf : Str), (∀ p ∈ ps, p.1.length ≤ 930 ∧ ∀ t ∈ p.2.L, ∀ z ∈ ln (ind ++ Str.ofString "  ") t, z.length ≤ m) → ind.length + 940 ≤ m → bf.length ≤ ind.length + 2 → ∀ z ∈ blkL ln ind bf ps, z.length ≤ m
  | [], _, _, hm, _ => fun z hz => by
    rw [List.mem_singleton.mp hz, Str.length_append, br1_len]
    omega
  | (h, x) :: r, bf, hh, hm, hb => fun z hz => by
    have h1 := (hh (h, x) List.mem_cons_self)
    rcases List.mem_cons.mp hz with rfl | hz
    · have : h.length ≤ 930 := h1.1
      rw [Str.length_append, Str.length_append, bo2_len]
      omega
    · rcases List.mem_append.mp hz with hz | hz
      · obtain ⟨l, hl, hz⟩ := List.mem_flatten.mp hz
        obtain ⟨t, ht, rfl⟩ := List.mem_map.mp hl
        exact h1.2 t ht z hz
      · exact blk_wide r _ (fun p hp => hh p (List.mem_cons_of_mem _ hp)) hm (by rw [Str.length_append, br2_len]; omega) z hz
theorem pls_len {s : TS} (h : s.Ok) : (plS s).length ≤ 460 := by
  cases s with
  | pl p => exact pl_len h
  | _ => show (Str.ofString "").length ≤ 460; decide +kernel
theorem ln_wide : ∀ (n : Nat) (ind : Str) (s : TS), s.Ok → ∀ z ∈ lnS n ind s, z.length ≤ ind.length + 2 * n + 940
  | 0, ind, s, h => fun z hz => by
    have := pls_len h
    rw [List.mem_singleton.mp hz, Str.length_append]
    omega
  | n + 1, ind, s, h => fun z hz => by
    have hz' : z ∈ (if (prS s).isEmpty = true then [ind ++ plS s] else blkL (lnS n) ind ind (prS s)) := hz
    split at hz'
    · have := pls_len h
      rw [List.mem_singleton.mp hz', Str.length_append]
      omega
    · refine blk_wide (m := ind.length + 2 * (n + 1) + 940) (prS s) ind (fun p hp => ⟨pr_len h p hp, fun t ht z hz => ?_⟩) (by omega) (by omega) z hz'
      have := ln_wide n _ t (TB.ok_mem (pr_ok h p hp).1 ht) z hz
      rw [Str.length_append, in2_len] at this
      omega
/-! ### what tells them -/
def spLines (n : Nat) : Sp := fun vs H Q _ => ∃ (v : V) (ind : Str) (s : TS), vs = [v, .str ind] ∧ Dv H v (dS s) ∧ s.Ok ∧ s.ht ≤ n ∧ s.sz ≤ 1000 ∧ ind.length + 2 * n ≤ 900 ∧
  ∀ (H' : Hp) (L : Addr), Same H H' → H L = none → H' L = some (.lst ((lnS n ind s).map V.str)) → Q (.ref L) H'
def spBlock : Nat → Sp
  | 0 => fun _ _ _ _ => False
  | n + 1 => fun vs H Q _ => ∃ (p : Addr) (qs : List V) (ind : Str) (ps : List (Str × TB)), vs = [.ref p, .str ind] ∧ H p = some (.lst qs) ∧ Dvs H qs (DL.of (ps.map dPt)) ∧ (∀ q ∈ ps, q.1.length ≤ 930 ∧ q.2.Ok ∧ q.2.ht ≤ n) ∧ ps.length ≤ 10 ∧ wsum ps ≤ 1000 ∧ ind.length + 2 * (n + 1) ≤ 900 ∧
    ∀ (H' : Hp) (L : Addr), Same H H' → H L = none → H' L = some (.lst ((blkL (lnS n) ind ind ps).map V.str)) → Q (.ref L) H'
theorem wsum_mem {ps : List (Str × TB)} {p : Str × TB} (h : p ∈ ps) : p.2.sz ≤ wsum ps := by
  induction ps with
  | nil => cases h
  | cons x r ih =>
    show _ ≤ x.2.sz + wsum r
    rcases List.mem_cons.mp h with rfl | h
    · omega
    · have := ih h
      omega
theorem sz_mem {x : TB} {t : TS} (h : t ∈ x.L) : t.sz ≤ x.sz := by
  rw [TB.sz_L]
  generalize x.L = l at h
  induction l with
  | nil => cases h
  | cons y r ih =>
    rw [List.map_cons, List.sum_cons]
    rcases List.mem_cons.mp h with rfl | h
    · omega
    · have := ih h
      omega
section
variable {P : Program} {w : World} {K : PySem.W.Frag} {mg : Str → Option Value} {base : Heap} {a : Ads}
theorem sc_try_parts : FnScope ["statement", "parts", "block", "handlers", "last", "kinds", "handled"] ["statement"] (defScope s_try_parts) := ⟨rfl, rfl, rfl, by decide +kernel, rfl, by decide +kernel, by decide +kernel⟩
theorem ok_try_parts (T : Txt K mg a) : FnOk P w K mg base CX0 1 a.f_try_parts a.f_try_parts_d ["statement"] (spParts isT) := by
  refine T.F_try_parts.ok sc_try_parts (fun vs H Q E h => ?_) (fun cdv A outer s H vs Q E hr h => ?_)
  · obtain ⟨v, s, rfl, _⟩ := h
    rfl
  obtain ⟨v, s, rfl, hz, hv, ok, q⟩ := h
  refine ⟨_, (pss_cons (ps_asg (pe_slice sl_tup (pv 0) (po_some pe_int) po_none) (pg_tup (by rfl) (pgs_cons (pg_name (i := 2) sc_try_parts.nd rfl (Or.inl rfl)) (pgs_cons (pg_name (i := 3) sc_try_parts.nd rfl (Or.inl rfl)) (pgs_cons (pg_name (i := 4) sc_try_parts.nd rfl (Or.inl rfl)) pgs_nil)))))
    (pss_cons (ps_set (i := 1) sc_try_parts.nd rfl (Or.inl rfl) (pe_lst (pa_cons (pe_tup (pa_cons pe_str (pa_cons (pv 2) pa_nil))) pa_nil)))
    (pss_cons (ps_for PassesOwn.never rfl (pi_tup (pv 3)) (pg_tup (by rfl) (pgs_cons (pg_name (i := 5) sc_try_parts.nd rfl (Or.inl rfl)) (pgs_cons (pg_name (i := 6) sc_try_parts.nd rfl (Or.inl rfl)) pgs_nil)))
      (pss_one (ps_expr (pe_bm PySem.F.plainAttrs_list PySem.F.slot_list_append PySem.F.type_list_append mt_append (pv 1) (pa_cons (pe_tup (pa_cons (pe_op op_add_str pe_str (pe_join pe_str (pv 5))) (pa_cons (pv 6) pa_nil))) pa_nil)))))
    (pss_cons (ps_if (PW.pt (pw_or (pt_truth (pv 4) (by intro _; rfl)) (pw_or1 (pt_not (pt_truth (pv 3) (by intro _; rfl))))))
      (pss_one (ps_expr (pe_bm PySem.F.plainAttrs_list PySem.F.slot_list_append PySem.F.type_list_append mt_append (pv 1) (pa_cons (pe_tup (pa_cons pe_str (pa_cons (pv 4) pa_nil))) pa_nil))))
      pss_nil)
    (pss_one (ps_ret (pv 1))))))), ?_⟩
  cases s with
  | tr x hs y =>
    obtain ⟨r, _, rfl, hr, _, _, rfl, rfl, u1, _, rfl, h1, u2, _, rfl, ⟨ph, xs, rfl, hph, hxs⟩, u3, _, rfl, h3, rfl⟩ := hv
    obtain ⟨p2, ys, rfl, hp2, _, hye, _⟩ := h3.blk
    rw [dH_of] at hxs
    have hl := hxs.len
    rw [List.length_map] at hl
    obtain ⟨okx, hhl, okh, oky⟩ := ok
    have ep : prS (.tr x hs y) = (Str.ofString "try", x) :: hs.L.map hdT ++ (if (!y.L.isEmpty || hs.L.isEmpty) = true then [(Str.ofString "finally", y)] else []) := rfl
    refine ⟨_, rfl, 1, rfl, r, _, rfl, .inl (.inl hr), fun z => absurd z.1 (by show ¬ HT.sIx 4 0 (some 1) = 0; decide), fun q1 n1 => ?_⟩
    have e1 : (upd H q1 (.tup (cutV [.str "try", u1, .ref ph, .ref p2] (some 1) none))) q1 = some (.tup [u1, .ref ph, .ref p2]) := upd_same
    have s1 := same_upd (o := .tup (cutV [.str "try", u1, .ref ph, .ref p2] (some 1) none)) n1
    generalize upd H q1 (.tup (cutV [.str "try", u1, .ref ph, .ref p2] (some 1) none)) = H1 at e1 s1
    refine ⟨q1, _, rfl, .inl (.inl e1), rfl, u1, _, rfl, .ref ph, _, rfl, .ref p2, [], rfl, rfl, ?_⟩
    refine ⟨_, rfl, (by show 2 ≤ sizeLine; decide), fun t1 n2 => ⟨(by show 1 ≤ sizeLine; decide), fun L nL => ?_⟩⟩
    have s2 := same_upd (o := .tup [.str "try", u1]) n2
    have s3 := same_upd (o := .lst [.ref t1]) nL
    have ht1 := s3 _ _ (show (upd H1 t1 (.tup [.str "try", u1])) t1 = _ from upd_same)
    have s4 := (s1.trans s2).trans s3
    have nL0 := (s1.trans s2).free nL
    have hL : (upd (upd H1 t1 (.tup [.str "try", u1])) L (.lst [.ref t1])) L = some (.lst [.ref t1]) := upd_same
    dsimp only [gName]
    generalize upd (upd H1 t1 (.tup [.str "try", u1])) L (.lst [.ref t1]) = H2 at s4 ht1 hL
    refine st_seq ⟨_, rfl, ph, rfl, ⟨_, .inl (.inl (s4 _ _ hph))⟩, for_tup (K := K) (a := ph) (xs := xs) (fun i σ H' => ∃ v5 v6 : Option V, σ = [some (.ref r), some (.ref L), some u1, some (.ref ph), some (.ref p2), v5, v6] ∧ Same H H' ∧ ∃ qs, H' L = some (.lst qs) ∧ qs.length = i + 1 ∧ Dvs H' qs (DL.of (((Str.ofString "try", x) :: (hs.L.take i).map hdT).map dPt)))
      ⟨none, none, rfl, s4, _, hL, rfl, (show Dvs H2 _ (DL.of (List.map dPt [(Str.ofString "try", x)])) from ⟨_, _, rfl, Dv.part ht1 (h1.mono (TK.of s4)), rfl⟩)⟩ (fun i σ H' _ ⟨_, _, _, s', _⟩ => .inl (.inl (s' _ _ hph))) ?_ ?_⟩
    · rintro i xi σ H' hi ⟨v5, v6, rfl, s5, qs, hL5, hql, hD⟩
      obtain ⟨d, hd, hx⟩ := (hxs.mono (TK.of s5)).get hi
      obtain ⟨hh, hhi, rfl⟩ := get_map hd
      obtain ⟨b, _, rfl, hb, k1, _, rfl, hk1, k2, _, rfl, hk2, rfl⟩ := hx
      obtain ⟨kp, rfl, hkp⟩ := Dv.strs hk1
      have hm := TH.ok_mem okh (List.mem_of_getElem? hhi)
      have hil := (List.getElem?_eq_some_iff.mp hhi).1
      have l1 := ns_sum hm.2.1
      have l2 := ns_len hm.2.1
      refine ⟨b, _, rfl, .inl (.inl hb), rfl, .ref kp, _, rfl, k2, [], rfl, rfl, ?_⟩
      refine ⟨_, rfl, .inl ⟨rfl, _, SqL.of hL5⟩, ⟨_, rfl⟩, _, rfl, Str.ofString ", ", kp, hh.1, rfl, rfl, .inr (.inl (.inl hkp)), by rw [c2_len]; omega, _, _, rfl, rfl, bigLe (by rw [exc_len]; omega), _, rfl, (by show 2 ≤ sizeLine; decide), fun t2 n2 => ?_⟩
      have s6 := same_upd (o := .tup [.str (Str.ofString "except " ++ Txt.join (Str.ofString ", ") hh.1), k2]) n2
      have hL6 := s6 _ _ hL5
      refine ⟨L, _, _, rfl, rfl, hL6, bigLine (by omega), ?_⟩
      have k6 := (TK.of s6).trans (TK.upd (x := .lst (qs ++ [.ref t2])) hL6 (fun _ z => by cases z))
      refine ⟨_, _, rfl, same_mut (s5.trans s6) nL0, qs ++ [.ref t2], upd_same, by rw [List.length_append, hql]; rfl, ?_⟩
      rw [List.take_add_one, hhi, List.map_append, ← List.cons_append, List.map_append]
      refine Dvs.app (Dv.part (h := (hdT hh).1) (x := (hdT hh).2) ?_ (hk2.mono k6)) (hD.mono k6)
      rw [upd_ne (ne_of_none hL5 n2).symm]
      exact upd_same
    rintro σ H' ⟨v5, v6, rfl, s5, qs, hL5, hql, hD⟩
    rw [hl, List.take_length] at hD
    have hxe : xs.isEmpty = hs.L.isEmpty := by
      cases xs with
      | nil =>
        cases hx : hs.L with
        | nil => rfl
        | cons _ _ => rw [hx] at hl; simp at hl
      | cons _ _ =>
        cases hx : hs.L with
        | nil => rw [hx] at hl; simp at hl
        | cons _ _ => rfl
    dsimp only
    refine st_seq (if_drop (b := !y.L.isEmpty || hs.L.isEmpty) (fun H3 => Same H H3 ∧ ∃ qs, H3 L = some (.lst qs) ∧ Dvs H3 qs (DL.of ((prS (.tr x hs y)).map dPt))) (ans_or2 (fun Q q => ⟨_, rfl, _, .inr (.inl ⟨_, .inl (.inl (s5 _ _ hp2)), by rw [hye]⟩), q⟩) (fun Q q => ⟨_, rfl, _, .inr (.inl ⟨_, .inl (.inl (s5 _ _ hph)), rfl⟩), by
        show Q (!!xs.isEmpty) H'
        rw [Bool.not_not, hxe]
        exact q⟩)) (fun e Q' q' => ?_) (fun e => ⟨s5, qs, hL5, ?_⟩) ?_)
    · refine ⟨_, rfl, .inl ⟨rfl, _, SqL.of hL5⟩, _, rfl, (by show 2 ≤ sizeLine; decide), fun t2 n2 => ?_⟩
      have s6 := same_upd (o := .tup [.str "finally", .ref p2]) n2
      have hL6 := s6 _ _ hL5
      refine ⟨L, _, _, rfl, rfl, hL6, bigLine (by omega), ?_⟩
      have k6 := (TK.of s6).trans (TK.upd (x := .lst (qs ++ [.ref t2])) hL6 (fun _ z => by cases z))
      refine q' _ _ ⟨same_mut (s5.trans s6) nL0, qs ++ [.ref t2], upd_same, ?_⟩
      rw [ep, if_pos e, List.map_append]
      refine Dvs.app (Dv.part (h := Str.ofString "finally") (x := y) ?_ (h3.mono ((TK.of s5).trans k6))) (hD.mono k6)
      rw [upd_ne (ne_of_none hL5 n2).symm]
      exact upd_same
    · rw [ep, if_neg (by rw [e]; exact Bool.false_ne_true), List.append_nil]
      exact hD
    rintro H3 ⟨s6, qs, hL3, hD3⟩
    exact ⟨_, rfl, q H3 L qs s6 nL0 hL3 hD3⟩
  | pl _ => cases hz
  | iff _ _ => cases hz
  | whl _ => cases hz
  | undo _ _ => cases hz
  | wth _ _ _ _ _ _ => cases hz
end
end K3
namespace K3
open PySem PySem.Spec PyProof.Rows L2 TL
def isA : TS → Bool := fun _ => true
theorem dP_word {H : Hp} {v : V} {p : P0} (h : Dv H v (dP p)) : ∃ (r : Addr) (w : Str) (xs : List V), v = .ref r ∧ H r = some (.tup (.str w :: xs)) ∧ ¬ w = "if" ∧ ¬ w = "while" ∧ ¬ w = "try" ∧ ¬ w = "undo" ∧ ¬ w = "with" := by
  cases p with
  | set z e =>
    obtain ⟨r, _, rfl, hr, _, xs, rfl, rfl, _⟩ := h
    exact ⟨r, _, xs, rfl, hr, by decide +kernel, by decide +kernel, by decide +kernel, by decide +kernel, by decide +kernel⟩
  | inp z =>
    obtain ⟨r, _, rfl, hr, _, xs, rfl, rfl, _⟩ := h
    exact ⟨r, _, xs, rfl, hr, by decide +kernel, by decide +kernel, by decide +kernel, by decide +kernel, by decide +kernel⟩
  | risk ks =>
    obtain ⟨r, _, rfl, hr, _, xs, rfl, rfl, _⟩ := h
    exact ⟨r, _, xs, rfl, hr, by decide +kernel, by decide +kernel, by decide +kernel, by decide +kernel, by decide +kernel⟩
  | rse k =>
    obtain ⟨r, _, rfl, hr, _, xs, rfl, rfl, _⟩ := h
    exact ⟨r, _, xs, rfl, hr, by decide +kernel, by decide +kernel, by decide +kernel, by decide +kernel, by decide +kernel⟩
  | ret e =>
    obtain ⟨r, _, rfl, hr, _, xs, rfl, rfl, _⟩ := h
    exact ⟨r, _, xs, rfl, hr, by decide +kernel, by decide +kernel, by decide +kernel, by decide +kernel, by decide +kernel⟩
  | call t f as =>
    cases t with
    | none =>
      obtain ⟨r, _, rfl, hr, _, xs, rfl, rfl, _⟩ := h
      exact ⟨r, _, xs, rfl, hr, by decide +kernel, by decide +kernel, by decide +kernel, by decide +kernel, by decide +kernel⟩
    | some t =>
      obtain ⟨r, _, rfl, hr, _, xs, rfl, rfl, _⟩ := h
      exact ⟨r, _, xs, rfl, hr, by decide +kernel, by decide +kernel, by decide +kernel, by decide +kernel, by decide +kernel⟩
theorem one_list {H : Hp} {t L : Addr} {h : Str} {u : V} {x : TB} (hu : Dv H u (.tup (dB x))) (n1 : H t = none) (nL : (upd H t (.tup [.str h, u])) L = none) :
    Same H (upd (upd H t (.tup [.str h, u])) L (.lst [.ref t])) ∧ H L = none ∧ Dvs (upd (upd H t (.tup [.str h, u])) L (.lst [.ref t])) [.ref t] (DL.of ([(h, x)].map dPt)) := by
  have s1 := same_upd (o := .tup [.str h, u]) n1
  have s2 := same_upd (o := .lst [.ref t]) nL
  have s := s1.trans s2
  exact ⟨s, s1.free nL, _, _, rfl, Dv.part (s2 _ _ (show (upd H t (.tup [.str h, u])) t = _ from upd_same)) (hu.mono (TK.of s)), rfl⟩
section
variable {P : Program} {w : World} {K : PySem.W.Frag} {mg : Str → Option Value} {base : Heap} {a : Ads}
theorem sc_block_parts : FnScope ["statement", "word"] ["statement"] (defScope s_block_parts) := ⟨rfl, rfl, rfl, by decide +kernel, rfl, by decide +kernel, by decide +kernel⟩
theorem ok_block_parts (T : Txt K mg a) : FnOk P w K mg base CX0 6 a.f_block_parts a.f_block_parts_d ["statement"] (spParts isA) := by
  refine T.F_block_parts.ok sc_block_parts (fun vs H Q E h => ?_) (fun cdv A outer s H vs Q E hr h => ?_)
  · obtain ⟨v, s, rfl, _⟩ := h
    rfl
  obtain ⟨v, s, rfl, _, hv, ok, q⟩ := h
  refine ⟨_, (pss_cons (ps_set (i := 1) sc_block_parts.nd rfl (Or.inl rfl) (pe_ix ix_tup (pv 0) pe_int (fun _ _ => rfl)))
    (pss_cons (ps_if (pt_cmpR op_eq (pv 1) pe_str (nomark _))
      (pss_one (ps_ret (pe_call (ok_if_parts T) (hr.mono (by decide)) (by rfl) T.g_if_parts T.F_if_parts.kp T.b_if_parts .nil pass0 (pa_cons (pv 0) pa_nil))))
      pss_nil)
    (pss_cons (ps_if (pt_cmpR op_eq (pv 1) pe_str (nomark _))
      (pss_one (ps_ret (pe_lst (pa_cons (pe_tup (pa_cons pe_str (pa_cons (pe_ix ix_tup (pv 0) pe_int (fun _ _ => rfl)) pa_nil))) pa_nil))))
      pss_nil)
    (pss_cons (ps_if (pt_cmpR op_eq (pv 1) pe_str (nomark _))
      (pss_one (ps_ret (pe_call (ok_try_parts T) (hr.mono (by decide)) (by rfl) T.g_try_parts T.F_try_parts.kp T.b_try_parts .nil pass0 (pa_cons (pv 0) pa_nil))))
      pss_nil)
    (pss_cons (ps_if (pt_cmpR op_eq (pv 1) pe_str (nomark _))
      (pss_one (ps_ret (pe_lst (pa_cons (pe_tup (pa_cons (pe_op op_add_str pe_str (pe_join pe_str (pe_ix ix_tup (pv 0) pe_int (fun _ _ => rfl)))) (pa_cons (pe_ix ix_tup (pv 0) pe_int (fun _ _ => rfl)) pa_nil))) pa_nil))))
      pss_nil)
    (pss_cons (ps_if (pt_cmpR op_eq (pv 1) pe_str (nomark _))
      (pss_one (ps_ret (pe_lst (pa_cons (pe_tup (pa_cons (pe_call (ok_shown_with T) (hr.mono (by decide)) (by rfl) T.g_shown_with T.F_shown_with.kp T.b_shown_with .nil pass0 (pa_cons (pv 0) pa_nil)) (pa_cons (pe_ix ix_tup (pv 0) pe_int (fun _ _ => rfl)) pa_nil))) pa_nil))))
      pss_nil)
    (pss_one (ps_ret (pe_lst pa_nil))))))))), ?_⟩
  cases s with
  | pl p =>
    obtain ⟨r, w, xs, rfl, hr, n1, n2, n3, n4, n5⟩ := dP_word hv
    refine ⟨_, rfl, r, _, _, _, rfl, rfl, .inl (.inl hr), atI_nat (j := 0) rfl, ?_⟩
    dsimp only [gName]
    refine st_seq (st_no (ans_word rfl (decide_eq_false fun e => n1 (V.str.inj e))) ?_)
    dsimp only [tNext]
    refine st_seq (st_no (ans_word rfl (decide_eq_false fun e => n2 (V.str.inj e))) ?_)
    dsimp only [tNext]
    refine st_seq (st_no (ans_word rfl (decide_eq_false fun e => n3 (V.str.inj e))) ?_)
    dsimp only [tNext]
    refine st_seq (st_no (ans_word rfl (decide_eq_false fun e => n4 (V.str.inj e))) ?_)
    dsimp only [tNext]
    refine st_seq (st_no (ans_word rfl (decide_eq_false fun e => n5 (V.str.inj e))) ?_)
    dsimp only [tNext]
    refine ⟨Nat.zero_le _, fun L nL => q _ L [] (same_upd nL) nL upd_same rfl⟩
  | iff x y =>
    have hv' := hv
    obtain ⟨r, _, rfl, hr, _, xs, rfl, rfl, _⟩ := hv'
    refine ⟨_, rfl, r, _, _, _, rfl, rfl, .inl (.inl hr), atI_nat (j := 0) rfl, ?_⟩
    dsimp only [gName]
    refine st_seq (st_yes (ans_word rfl (by decide +kernel)) ?_)
    exact ⟨_, rfl, _, .iff x y, rfl, rfl, hv, ok, q⟩
  | whl x =>
    obtain ⟨r, _, rfl, hr, _, _, rfl, rfl, u1, _, rfl, h1, rfl⟩ := hv
    refine ⟨_, rfl, r, _, _, _, rfl, rfl, .inl (.inl hr), atI_nat (j := 0) rfl, ?_⟩
    dsimp only [gName]
    refine st_seq (st_no (ans_word rfl (by decide +kernel)) ?_)
    dsimp only [tNext]
    refine st_seq (st_yes (ans_word rfl (by decide +kernel)) ?_)
    refine ⟨_, rfl, r, _, _, _, rfl, rfl, .inl (.inl hr), atI_nat (j := 1) rfl, (by show 2 ≤ sizeLine; decide), fun t n1 => ⟨(by show 1 ≤ sizeLine; decide), fun L nL => ?_⟩⟩
    obtain ⟨a1, a2, a3⟩ := one_list h1 n1 nL
    exact q _ L _ a1 a2 upd_same a3
  | tr x hs y =>
    have hv' := hv
    obtain ⟨r, _, rfl, hr, _, xs, rfl, rfl, _⟩ := hv'
    refine ⟨_, rfl, r, _, _, _, rfl, rfl, .inl (.inl hr), atI_nat (j := 0) rfl, ?_⟩
    dsimp only [gName]
    refine st_seq (st_no (ans_word rfl (by decide +kernel)) ?_)
    dsimp only [tNext]
    refine st_seq (st_no (ans_word rfl (by decide +kernel)) ?_)
    dsimp only [tNext]
    refine st_seq (st_yes (ans_word rfl (by decide +kernel)) ?_)
    exact ⟨_, rfl, _, .tr x hs y, rfl, rfl, hv, ok, q⟩
  | undo vs x =>
    obtain ⟨r, _, rfl, hr, _, _, rfl, rfl, u1, _, rfl, h1, u2, _, rfl, h2, rfl⟩ := hv
    obtain ⟨k, rfl, hk⟩ := Dv.strs h1
    have l1 := ns_sum ok.2.1
    have l2 := ns_len ok.2.1
    refine ⟨_, rfl, r, _, _, _, rfl, rfl, .inl (.inl hr), atI_nat (j := 0) rfl, ?_⟩
    dsimp only [gName]
    refine st_seq (st_no (ans_word rfl (by decide +kernel)) ?_)
    dsimp only [tNext]
    refine st_seq (st_no (ans_word rfl (by decide +kernel)) ?_)
    dsimp only [tNext]
    refine st_seq (st_no (ans_word rfl (by decide +kernel)) ?_)
    dsimp only [tNext]
    refine st_seq (st_yes (ans_word rfl (by decide +kernel)) ?_)
    refine ⟨⟨_, rfl⟩, _, rfl, r, _, _, _, rfl, rfl, .inl (.inl hr), atI_nat (j := 1) rfl, Str.ofString ", ", k, vs, rfl, rfl, .inr (.inl (.inl hk)), by rw [c2_len]; omega, _, _, rfl, rfl, bigLe (by rw [und_len]; omega), _, rfl, r, _, _, _, rfl, rfl, .inl (.inl hr), atI_nat (j := 2) rfl, (by show 2 ≤ sizeLine; decide), fun t n1 => ⟨(by show 1 ≤ sizeLine; decide), fun L nL => ?_⟩⟩
    obtain ⟨a1, a2, a3⟩ := one_list h2 n1 nL
    exact q _ L _ a1 a2 upd_same a3
  | wth f as g bs ks x =>
    have hv' := hv
    obtain ⟨r, _, rfl, hr, _, _, rfl, rfl, u1, _, rfl, h1, u2, _, rfl, h2, u3, _, rfl, h3, u4, _, rfl, h4, rfl⟩ := hv'
    refine ⟨_, rfl, r, _, _, _, rfl, rfl, .inl (.inl hr), atI_nat (j := 0) rfl, ?_⟩
    dsimp only [gName]
    refine st_seq (st_no (ans_word rfl (by decide +kernel)) ?_)
    dsimp only [tNext]
    refine st_seq (st_no (ans_word rfl (by decide +kernel)) ?_)
    dsimp only [tNext]
    refine st_seq (st_no (ans_word rfl (by decide +kernel)) ?_)
    dsimp only [tNext]
    refine st_seq (st_no (ans_word rfl (by decide +kernel)) ?_)
    dsimp only [tNext]
    refine st_seq (st_yes (ans_word rfl (by decide +kernel)) ?_)
    refine ⟨_, rfl, _, f, as, g, bs, ks, x, rfl, hv, ok, fun H1 s1 => ⟨_, rfl, r, _, _, _, rfl, rfl, .inl (.inl (s1 _ _ hr)), atI_nat (j := 4) rfl, (by show 2 ≤ sizeLine; decide), fun t n1 => ⟨(by show 1 ≤ sizeLine; decide), fun L nL => ?_⟩⟩⟩
    obtain ⟨a1, a2, a3⟩ := one_list (h4.mono (TK.of s1)) n1 nL
    exact q _ L _ (s1.trans a1) (s1.free a2) upd_same a3
theorem sc_block_lines : FnScope ["parts", "indent", "lines", "before", "head", "block", "statement"] ["parts", "indent"] (defScope s_block_lines) := ⟨rfl, rfl, rfl, by decide +kernel, rfl, by decide +kernel, by decide +kernel⟩
theorem ok_block_lines1 (T : Txt K mg a) (n k : Nat) (hk : 1 ≤ k) (ihs : FnOk P w K mg base CX0 k a.f_statement_lines a.f_statement_lines_d ["statement", "indent"] (spLines n)) : FnOk P w K mg base CX0 (k + 1) a.f_block_lines a.f_block_lines_d ["parts", "indent"] (spBlock (n + 1)) := by
  refine T.F_block_lines.ok sc_block_lines (fun vs H Q E h => ?_) (fun cdv A outer s H vs Q E hr h => ?_)
  · obtain ⟨p, qs, ind, ps, rfl, _⟩ := h
    rfl
  obtain ⟨p, qs, ind, ps, rfl, hp, hD, hps, hpl, hw, hil, q⟩ := h
  refine ⟨_, (pss_cons (ps_set (i := 2) sc_block_lines.nd rfl (Or.inl rfl) (pe_lst pa_nil))
    (pss_cons (ps_set (i := 3) sc_block_lines.nd rfl (Or.inl rfl) (pv 1))
    (pss_cons (ps_for PassesOwn.never rfl (pi_list (pv 0)) (pg_tup (by rfl) (pgs_cons (pg_name (i := 4) sc_block_lines.nd rfl (Or.inl rfl)) (pgs_cons (pg_name (i := 5) sc_block_lines.nd rfl (Or.inl rfl)) pgs_nil)))
      (pss_cons (ps_expr (pe_bm PySem.F.plainAttrs_list PySem.F.slot_list_append PySem.F.type_list_append mt_append (pv 2) (pa_cons (pe_op op_add_str (pe_op op_add_str (pv 3) (pv 4)) pe_str) pa_nil)))
      (pss_cons (ps_for PassesOwn.never rfl (pi_tup (pv 5)) (pg_name (i := 6) sc_block_lines.nd rfl (Or.inl rfl))
        (pss_one (ps_expr (pe_bm PySem.F.plainAttrs_list PySem.F.slot_list_extend PySem.F.type_list_extend mt_extend (pv 2) (pa_cons (pe_call ihs hr (by rfl) T.g_statement_lines T.F_statement_lines.kp T.b_statement_lines .nil pass0 (pa_cons (pv 6) (pa_cons (pe_op op_add_str (pv 1) (pe_gs rfl T.g_INDENT)) pa_nil))) pa_nil)))))
      (pss_one (ps_set (i := 3) sc_block_lines.nd rfl (Or.inl rfl) (pe_op op_add_str (pv 1) pe_str))))))
    (pss_cons (ps_expr (pe_bm PySem.F.plainAttrs_list PySem.F.slot_list_append PySem.F.type_list_append mt_append (pv 2) (pa_cons (pe_op op_add_str (pv 1) pe_str) pa_nil)))
    (pss_one (ps_ret (pv 2))))))), ?_⟩
  have htot : (blkL (lnS n) ind ind ps).length ≤ 5011 := by
    have := blk_len (ln := lnS n) (ind := ind) ps ind fun p hp t ht => ln_len n _ t (TB.ok_mem (hps p hp).2.1 ht)
    omega
  have hql := hD.len
  rw [List.length_map] at hql
  refine ⟨Nat.zero_le _, fun L nL => ?_⟩
  have s1 := same_upd (o := .lst []) nL
  dsimp only [gName]
  refine st_seq ⟨_, rfl, ?_⟩
  dsimp only [gName]
  refine st_seq ⟨_, rfl, p, rfl, ⟨_, SqL.of (s1 _ _ hp)⟩, for_list (K := K) (a := p) (xs := qs) (fun i σ H' => ∃ (bf : Str) (done : List Str) (v4 v5 v6 : Option V), σ = [some (.ref p), some (.str ind), some (.ref L), some (.str bf), v4, v5, v6] ∧ Same H H' ∧ H' L = some (.lst (done.map V.str)) ∧ blkL (lnS n) ind ind ps = done ++ blkL (lnS n) ind bf (ps.drop i) ∧ bf.length ≤ ind.length + 2)
    ⟨ind, [], none, none, none, rfl, s1, upd_same, rfl, by omega⟩ (fun i σ H' _ ⟨_, _, _, _, _, _, s', _⟩ => SqL.of (s' _ _ hp)) ?_ ?_⟩
  · rintro i xi σ H' hi ⟨bf, done, v4, v5, v6, rfl, s2, hL2, heq, hbf⟩
    obtain ⟨d, hd, hx⟩ := (hD.mono (TK.of s2)).get hi
    obtain ⟨⟨h, x⟩, hpi, rfl⟩ := get_map hd
    obtain ⟨r, _, rfl, hr, _, _, rfl, rfl, u, _, rfl, hu, rfl⟩ := hx
    obtain ⟨px, xs, rfl, hpx, hxs, _, hxl⟩ := hu.blk
    obtain ⟨hh, hxok, hxh⟩ := hps (h, x) (List.mem_of_getElem? hpi)
    have hxz : x.sz ≤ 1000 := Nat.le_trans (wsum_mem (List.mem_of_getElem? hpi)) hw
    have hh' : h.length ≤ 930 := hh
    have edrop : ps.drop i = (h, x) :: ps.drop (i + 1) := by
      have hil := (List.getElem?_eq_some_iff.mp hpi)
      rw [List.drop_eq_getElem_cons hil.1, hil.2]
    rw [edrop] at heq
    have heq' : blkL (lnS n) ind ind ps = (done ++ [bf ++ h ++ Str.ofString " {"]) ++ ((x.L.map (lnS n (ind ++ Str.ofString "  "))).flatten ++ blkL (lnS n) ind (ind ++ Str.ofString "} ") (ps.drop (i + 1))) := by
      rw [heq, List.append_assoc]
      rfl
    have hdl : done.length + 1 + (x.L.map (lnS n (ind ++ Str.ofString "  "))).flatten.length ≤ 5011 := by
      have := congrArg List.length heq'
      rw [List.length_append, List.length_append, List.length_append, List.length_singleton] at this
      omega
    refine ⟨r, _, rfl, .inl (.inl hr), rfl, .str h, _, rfl, .ref px, [], rfl, rfl, ?_⟩
    dsimp only [gName]
    refine st_seq ⟨_, rfl, .inl ⟨rfl, _, SqL.of hL2⟩, _, rfl, _, rfl, _, _, rfl, rfl, bigLe (by omega), _, _, rfl, rfl, bigLe (by rw [Str.length_append, bo2_len]; omega), L, _, _, rfl, rfl, hL2, bigLine (by rw [List.length_map]; omega), ?_⟩
    have s3 := same_mut (p := L) (o := .lst (done.map V.str ++ [.str (bf ++ h ++ Str.ofString " {")])) s2 nL
    have hL3 : (upd H' L (.lst (done.map V.str ++ [.str (bf ++ h ++ Str.ofString " {")]))) L = some (.lst ((done ++ [bf ++ h ++ Str.ofString " {"]).map V.str)) := by
      rw [upd_same, List.map_append]
      rfl
    have k3 : TK H' (upd H' L (.lst (done.map V.str ++ [.str (bf ++ h ++ Str.ofString " {")]))) := TK.upd hL2 (fun _ z => by cases z)
    have hpx3 := k3 _ _ hpx
    have hxs3 := hxs.mono k3
    generalize upd H' L (.lst (done.map V.str ++ [.str (bf ++ h ++ Str.ofString " {")])) = H3 at s3 hL3 hpx3 hxs3
    clear k3
    dsimp only
    refine st_seq ⟨_, rfl, px, rfl, ⟨_, .inl (.inl hpx3)⟩, for_tup (K := K) (a := px) (xs := xs) (fun j σ H' => ∃ (v6 : Option V), σ = [some (.ref p), some (.str ind), some (.ref L), some (.str bf), some (.str h), some (.ref px), v6] ∧ Same H H' ∧ TK H3 H' ∧ H' L = some (.lst (((done ++ [bf ++ h ++ Str.ofString " {"]) ++ ((x.L.take j).map (lnS n (ind ++ Str.ofString "  "))).flatten).map V.str)))
      ⟨v6, rfl, s3, TK.refl _, by rw [hL3]; simp⟩ (fun j σ H' _ ⟨_, _, _, k', _⟩ => .inl (.inl (k' _ _ hpx3))) ?_ ?_⟩
    · rintro j y σ H4 hj ⟨v6, rfl, s4, k4, hL4⟩
      obtain ⟨d, hd, hy⟩ := (hxs3.mono k4).get hj
      obtain ⟨t, hti, rfl⟩ := get_map hd
      have htm := List.mem_of_getElem? hti
      refine ⟨_, rfl, .inl ⟨rfl, _, SqL.of hL4⟩, _, rfl, _, rfl, _, _, rfl, rfl, bigLe (by rw [in2_len]; omega), y, _, t, rfl, hy, TB.ok_mem hxok htm, Nat.le_trans (TB.ht_mem htm) hxh, Nat.le_trans (sz_mem htm) hxz, by rw [Str.length_append, in2_len]; omega, fun H5 M s5 nM hM => ?_⟩
      have hL5 := s5 _ _ hL4
      have el : (x.L.map (lnS n (ind ++ Str.ofString "  "))).flatten.length = ((x.L.take j).map (lnS n (ind ++ Str.ofString "  "))).flatten.length + ((x.L.drop j).map (lnS n (ind ++ Str.ofString "  "))).flatten.length := by
        rw [← List.length_append, ← List.flatten_append, ← List.map_append, List.take_append_drop]
      have e2 : x.L.drop j = t :: x.L.drop (j + 1) := by
        have hil := (List.getElem?_eq_some_iff.mp hti)
        rw [List.drop_eq_getElem_cons hil.1, hil.2]
      rw [e2, List.map_cons, List.flatten_cons, List.length_append (bs := _)] at el
      refine ⟨L, M, _, _, rfl, rfl, hL5, hM, bigLe (by rw [List.length_map, List.length_map, List.length_append, List.length_append, List.length_singleton]; omega), ?_⟩
      refine ⟨some y, rfl, same_mut (s4.trans s5) nL, k4.trans ((TK.of s5).trans (TK.upd hL5 (fun _ z => by cases z))), ?_⟩
      rw [upd_same, ← List.map_append, List.take_add_one, hti, List.append_assoc]
      congr 3
      rw [List.map_append, List.flatten_append]
      simp
    · rintro σ H4 ⟨v6, rfl, s4, k4, hL4⟩
      rw [hxl, List.take_length] at hL4
      refine ⟨_, rfl, _, _, rfl, rfl, bigLe (by rw [br2_len]; omega), ?_⟩
      refine ⟨ind ++ Str.ofString "} ", _, _, _, _, rfl, s4, hL4, ?_, by rw [Str.length_append, br2_len]; omega⟩
      rw [heq', List.append_assoc (as := done ++ _)]
  · rintro σ H' ⟨bf, done, v4, v5, v6, rfl, s2, hL2, heq, hbf⟩
    rw [hql, List.drop_length] at heq
    have heq' : blkL (lnS n) ind ind ps = done ++ [ind ++ Str.ofString "}"] := heq
    have hdl : done.length + 1 ≤ 5011 := by
      have := congrArg List.length heq'
      rw [List.length_append, List.length_singleton] at this
      omega
    dsimp only
    refine st_seq ⟨_, rfl, .inl ⟨rfl, _, SqL.of hL2⟩, _, rfl, _, _, rfl, rfl, bigLe (by rw [br1_len]; omega), L, _, _, rfl, rfl, hL2, bigLine (by rw [List.length_map]; omega), ?_⟩
    refine ⟨_, rfl, q _ L (same_mut s2 nL) nL ?_⟩
    rw [upd_same, heq', List.map_append]
    rfl
end
end K3
namespace K3
open PySem PySem.Spec PyProof.Rows L2 TL
structure FnT where
  nm : Str
  ps : List (Str × Bool)
  bk : TB
structure Tree where
  gs : List Str
  ks : List Str
  kp : List Ex
  fs : List FnT
def dFn (f : FnT) : D := tp [.str f.nm, .tup (DL.of (f.ps.map dPa)), .tup (dB f.bk)]
def dT (t : Tree) : D := tp [dNs t.gs, dNs t.ks, .tup (DL.of (t.kp.map dE)), .tup (DL.of (t.fs.map dFn))]
structure FnOk3 (f : FnT) : Prop where
  nm : NameOk f.nm
  ps : PsOk f.ps
  bk : f.bk.Ok
  ht : f.bk.ht ≤ 3
structure TreeOk (t : Tree) : Prop where
  gs : NsOk t.gs
  ks : NsOk t.ks
  kp : ∀ e ∈ t.kp, ExOk e
  kl : t.kp.length ≤ 1
  fs : ∀ f ∈ t.fs, FnOk3 f
  fl : t.fs.length ≤ 3
  sz : (t.fs.map fun f => f.bk.sz).sum ≤ 33
def fnH (f : FnT) : Str := Str.ofString "def " ++ f.nm ++ paT f.ps
def fnL (f : FnT) : List Str := blkL (lnS 3) (Str.ofString "") (Str.ofString "") [(fnH f, f.bk)]
def wdL (k : Str) (ns : List Str) : List Str := if ns.isEmpty = true then [] else [k ++ Txt.join (Str.ofString " ") ns]
def treeL (t : Tree) : List Str := wdL (Str.ofString "globals ") t.gs ++ wdL (Str.ofString "kinds ") t.ks ++ (t.kp.map fun e => Str.ofString "keep " ++ eT e) ++ (t.fs.map fnL).flatten
def nlT (z : Str) : Str := z ++ Str.ofString "\n"
def showX (t : Tree) : Str := Txt.join (Str.ofString "") ((treeL t).map nlT)
theorem e0_len : (Str.ofString "").length = 0 := by decide +kernel
theorem nl_len : (Str.ofString "\n").length = 1 := by decide +kernel
theorem glo_len : (Str.ofString "globals ").length = 8 := by decide +kernel
theorem kin_len : (Str.ofString "kinds ").length = 6 := by decide +kernel
theorem kee_len : (Str.ofString "keep ").length = 5 := by decide +kernel
theorem def_len : (Str.ofString "def ").length = 4 := by decide +kernel
theorem ns1_sum {ns : List Str} (h : NsOk ns) : (ns.map fun x => x.length).sum + ns.length * 1 ≤ 44 := by
  have h1 := sum_le (m := 20) (xs := ns) fun x hx => (h.nm x hx).len
  have h2 := h.len
  have h3 : ns.length * 20 ≤ 2 * 20 := Nat.mul_le_mul_right _ h2
  omega
theorem ns1_len {ns : List Str} (h : NsOk ns) : (Txt.join (Str.ofString " ") ns).length ≤ 42 := by
  have h1 := join_le (s := Str.ofString " ") (m := 20) (xs := ns) fun x hx => (h.nm x hx).len
  have h2 := h.len
  rw [s1_len] at h1
  have h3 : ns.length * (20 + 1) ≤ 2 * (20 + 1) := Nat.mul_le_mul_right _ h2
  omega
theorem fnH_len {f : FnT} (h : FnOk3 f) : (fnH f).length ≤ 72 := by
  have := h.nm.len
  have := pas_len h.ps
  unfold fnH
  rw [Str.length_append, Str.length_append, def_len]
  omega
theorem fnL_len {f : FnT} (h : FnOk3 f) : (fnL f).length ≤ 2 + 5 * f.bk.sz := by
  have := blk_len (ln := lnS 3) (ind := Str.ofString "") [(fnH f, f.bk)] (Str.ofString "") fun p hp t ht => by
    rw [List.mem_singleton.mp hp] at ht
    exact ln_len 3 _ t (TB.ok_mem h.bk ht)
  exact this
theorem fnL_wide {f : FnT} (h : FnOk3 f) : ∀ z ∈ fnL f, z.length ≤ 950 := by
  refine blk_wide (m := 950) [(fnH f, f.bk)] (Str.ofString "") (fun p hp => ?_) (by rw [e0_len]; omega) (by rw [e0_len]; omega)
  rw [List.mem_singleton.mp hp]
  refine ⟨Nat.le_trans (fnH_len h) (by decide), fun t ht z hz => ?_⟩
  have := ln_wide 3 _ t (TB.ok_mem h.bk ht) z hz
  rw [Str.length_append, e0_len, in2_len] at this
  omega
theorem fns_len : ∀ {fs : List FnT}, (∀ f ∈ fs, FnOk3 f) → (fs.map fnL).flatten.length ≤ 2 * fs.length + 5 * (fs.map fun f => f.bk.sz).sum
  | [], _ => Nat.zero_le _
  | f :: r, h => by
    have h1 := fns_len (fs := r) fun x hx => h x (List.mem_cons_of_mem _ hx)
    have h2 := fnL_len (h f List.mem_cons_self)
    rw [List.map_cons, List.flatten_cons, List.length_append, List.length_cons, List.map_cons, List.sum_cons]
    omega
theorem wdL_len (k : Str) (ns : List Str) : (wdL k ns).length ≤ 1 := by
  unfold wdL
  split
  · exact Nat.zero_le _
  · exact Nat.le_refl 1
theorem treeL_len {t : Tree} (h : TreeOk t) : (treeL t).length ≤ 174 := by
  have h1 := fns_len h.fs
  have h2 := wdL_len (Str.ofString "globals ") t.gs
  have h3 := wdL_len (Str.ofString "kinds ") t.ks
  have h4 := h.kl
  have h5 := h.fl
  have h6 := h.sz
  unfold treeL
  rw [List.length_append, List.length_append, List.length_append, List.length_map]
  omega
theorem treeL_wide {t : Tree} (h : TreeOk t) : ∀ z ∈ treeL t, z.length ≤ 950 := by
  intro z hz
  unfold treeL at hz
  rcases List.mem_append.mp hz with hz | hz
  · rcases List.mem_append.mp hz with hz | hz
    · rcases List.mem_append.mp hz with hz | hz
      · unfold wdL at hz
        split at hz
        · cases hz
        · have := ns1_len h.gs
          rw [List.mem_singleton.mp hz, Str.length_append, glo_len]
          omega
      · unfold wdL at hz
        split at hz
        · cases hz
        · have := ns1_len h.ks
          rw [List.mem_singleton.mp hz, Str.length_append, kin_len]
          omega
    · obtain ⟨e, he, rfl⟩ := List.mem_map.mp hz
      have := eT_len (h.kp e he)
      rw [Str.length_append, kee_len]
      omega
  · obtain ⟨l, hl, hz⟩ := List.mem_flatten.mp hz
    obtain ⟨f, hf, rfl⟩ := List.mem_map.mp hl
    exact fnL_wide (h.fs f hf) z hz
theorem nls_sum {t : Tree} (h : TreeOk t) : ∀ x ∈ (treeL t).map nlT, x.length ≤ 951 := fun x hx => by
  obtain ⟨z, hz, rfl⟩ := List.mem_map.mp hx
  have := treeL_wide h z hz
  show (z ++ Str.ofString "\n").length ≤ 951
  rw [Str.length_append, nl_len]
  omega
theorem showX_len {t : Tree} (h : TreeOk t) : (showX t).length ≤ 165474 := by
  have h1 := join_le (s := Str.ofString "") (nls_sum h)
  have h2 := treeL_len h
  rw [List.length_map, e0_len] at h1
  have h3 : (treeL t).length * (951 + 0) ≤ 174 * (951 + 0) := Nat.mul_le_mul_right _ h2
  unfold showX
  omega
def spShow : Sp := fun vs H Q _ => ∃ (v : V) (t : Tree), vs = [v] ∧ Dv H v (dT t) ∧ TreeOk t ∧ ∀ H', Same H H' → Q (.str (showX t)) H'
section
variable {P : Program} {w : World} {K : PySem.W.Frag} {mg : Str → Option Value} {base : Heap} {a : Ads}
theorem sc_statement_lines : FnScope ["statement", "indent", "parts"] ["statement", "indent"] (defScope s_statement_lines) := ⟨rfl, rfl, rfl, by decide +kernel, rfl, by decide +kernel, by decide +kernel⟩
theorem ok_statement_lines1 (T : Txt K mg a) (n k : Nat) (hk : 7 ≤ k) (ihb : FnOk P w K mg base CX0 k a.f_block_lines a.f_block_lines_d ["parts", "indent"] (spBlock n)) : FnOk P w K mg base CX0 (k + 1) a.f_statement_lines a.f_statement_lines_d ["statement", "indent"] (spLines n) := by
  refine T.F_statement_lines.ok sc_statement_lines (fun vs H Q E h => ?_) (fun cdv A outer s H vs Q E hr h => ?_)
  · obtain ⟨v, ind, s, rfl, _⟩ := h
    rfl
  obtain ⟨v, ind, s, rfl, hv, ok, hht, hsz, hil, q⟩ := h
  refine ⟨_, (pss_cons (ps_set (i := 2) sc_statement_lines.nd rfl (Or.inl rfl) (pe_call (ok_block_parts T) (hr.mono (by omega)) (by rfl) T.g_block_parts T.F_block_parts.kp T.b_block_parts .nil pass0 (pa_cons (pv 0) pa_nil)))
    (pss_cons (ps_if (pt_truth (pv 2) (by intro _; rfl))
      (pss_one (ps_ret (pe_call ihb hr (by rfl) T.g_block_lines T.F_block_lines.kp T.b_block_lines .nil pass0 (pa_cons (pv 2) (pa_cons (pv 1) pa_nil)))))
      pss_nil)
    (pss_one (ps_ret (pe_lst (pa_cons (pe_op op_add_str (pv 1) (pe_call (ok_shown_plain T) (hr.mono (by omega)) (by rfl) T.g_shown_plain T.F_shown_plain.kp T.b_shown_plain .nil pass0 (pa_cons (pv 0) pa_nil))) pa_nil)))))), ?_⟩
  refine ⟨_, rfl, v, s, rfl, rfl, hv, ok, fun H1 L qs s1 nL hL hD => ?_⟩
  dsimp only [gName]
  have hl := hD.len
  rw [List.length_map] at hl
  cases hp : prS s with
  | nil =>
    rw [hp] at hl
    have hq : qs = [] := List.length_eq_zero_iff.mp hl
    subst hq
    have eln : lnS n ind s = [ind ++ plS s] := by
      cases n with
      | zero => rfl
      | succ m =>
        show (if (prS s).isEmpty = true then [ind ++ plS s] else _) = _
        rw [hp]
        rfl
    rw [eln] at q
    refine st_seq (st_no (fun Q q => ⟨_, rfl, false, .inl ⟨_, SqL.of hL, rfl⟩, q⟩) ?_)
    dsimp only [tNext]
    cases s with
    | pl p =>
      have hpl := pl_len (p := p) ok
      refine ⟨_, rfl, _, rfl, v, p, rfl, hv.mono (TK.of s1), ok, fun H2 s2 => ⟨_, _, rfl, rfl, bigLe (by omega), (by show 1 ≤ sizeLine; decide), fun M nM => ?_⟩⟩
      have s3 := s1.trans s2
      exact q _ M (s3.trans (same_upd nM)) (s3.free nM) upd_same
    | iff _ _ => exact absurd hp (by intro z; cases z)
    | whl _ => exact absurd hp (by intro z; cases z)
    | undo _ _ => exact absurd hp (by intro z; cases z)
    | tr _ _ _ => exact absurd hp (by intro z; cases z)
    | wth _ _ _ _ _ _ => exact absurd hp (by intro z; cases z)
  | cons y yr =>
    have hn : ∃ m, n = m + 1 := by
      have := (pr_ok ok y (by rw [hp]; exact List.mem_cons_self)).2
      exact ⟨n - 1, by omega⟩
    obtain ⟨m, rfl⟩ := hn
    have eln : lnS (m + 1) ind s = blkL (lnS m) ind ind (prS s) := by
      show (if (prS s).isEmpty = true then [ind ++ plS s] else _) = _
      rw [hp]
      rfl
    rw [eln] at q
    cases qs with
    | nil => rw [hp] at hl; simp at hl
    | cons x xr =>
      refine st_seq (st_yes (fun Q q => ⟨_, rfl, true, .inl ⟨_, SqL.of hL, rfl⟩, q⟩) ?_)
      refine ⟨_, rfl, _, rfl, L, _, ind, prS s, rfl, hL, hD, fun z hz => ⟨pr_len ok z hz, (pr_ok ok z hz).1, ?_⟩, Nat.le_trans (pr_num ok) (by decide), ?_, hil, fun H2 M s2 nM hM => q H2 M (s1.trans s2) (s1.free nM) hM⟩
      · have := (pr_ok ok z hz).2
        omega
      · have := pr_sz s
        omega
/-- both, at all heights -/
theorem ok_lines (T : Txt K mg a) : ∀ n : Nat, FnOk P w K mg base CX0 (8 + 2 * n) a.f_statement_lines a.f_statement_lines_d ["statement", "indent"] (spLines n) ∧ FnOk P w K mg base CX0 (9 + 2 * n) a.f_block_lines a.f_block_lines_d ["parts", "indent"] (spBlock (n + 1))
  | 0 => by
    have h0 : FnOk P w K mg base CX0 7 a.f_block_lines a.f_block_lines_d ["parts", "indent"] (spBlock 0) := ⟨fun _ _ _ _ h => h.elim, fun _ _ _ _ _ _ _ _ _ _ _ _ _ h => h.elim⟩
    have h1 := ok_statement_lines1 T 0 7 (Nat.le_refl _) h0
    exact ⟨h1, ok_block_lines1 T 0 8 (by decide) h1⟩
  | n + 1 => by
    have h0 := (ok_lines T n).2
    have h1 := ok_statement_lines1 T (n + 1) (9 + 2 * n) (by omega) h0
    have h2 := ok_block_lines1 T (n + 1) (9 + 2 * n + 1) (by omega) h1
    exact ⟨by rw [show 8 + 2 * (n + 1) = 9 + 2 * n + 1 by omega]; exact h1, by rw [show 9 + 2 * (n + 1) = 9 + 2 * n + 1 + 1 by omega]; exact h2⟩
theorem ok_block_lines (T : Txt K mg a) : FnOk P w K mg base CX0 15 a.f_block_lines a.f_block_lines_d ["parts", "indent"] (spBlock 4) := (ok_lines T 3).2
end
end K3
namespace K3
open PySem PySem.Spec PyProof.Rows L2 TL
theorem wd_yes {k : Str} {ns : List Str} (e : (!(ns.map V.str).isEmpty) = true) : wdL k ns = [k ++ Txt.join (Str.ofString " ") ns] := by
  cases ns with
  | nil => cases e
  | cons _ _ => rfl
theorem wd_no {k : Str} {ns : List Str} (e : (!(ns.map V.str).isEmpty) = false) : wdL k ns = [] := by
  cases ns with
  | nil => rfl
  | cons _ _ => cases e
theorem le_sum : ∀ {l : List Nat} {x : Nat}, x ∈ l → x ≤ l.sum
  | [], _, h => by cases h
  | y :: r, x, h => by
    rw [List.sum_cons]
    rcases List.mem_cons.mp h with rfl | h
    · omega
    · have := le_sum h
      omega
theorem take_flat {α : Type} {f : α → List Str} {l : List α} {i : Nat} {x : α} (h : l[i]? = some x) : ((l.take (i + 1)).map f).flatten = ((l.take i).map f).flatten ++ f x := by
  rw [List.take_add_one, h, List.map_append, List.flatten_append]
  simp
theorem take_flat_le {α : Type} {f : α → List Str} {l : List α} {i : Nat} : ((l.take i).map f).flatten.length ≤ (l.map f).flatten.length := by
  rw [← List.take_append_drop i l, List.map_append, List.flatten_append, List.length_append, List.take_append_drop]
  omega
section
variable {P : Program} {w : World} {K : PySem.W.Frag} {mg : Str → Option Value} {base : Heap} {a : Ads}
theorem sc_show : FnScope ["tree", "lines", "keep", "variables", "kinds", "keeps", "functions", "name", "params", "block", "line"] ["tree"] (defScope s_show) := ⟨rfl, rfl, rfl, by decide +kernel, rfl, by decide +kernel, by decide +kernel⟩
theorem ok_show (T : Txt K mg a) : FnOk P w K mg base CX0 16 a.f_show a.f_show_d ["tree"] spShow := by
  refine T.F_show.ok sc_show (fun vs H Q E h => ?_) (fun cdv A outer s H vs Q E hr h => ?_)
  · obtain ⟨v, t, rfl, _⟩ := h
    rfl
  obtain ⟨v, t, rfl, hv, ok, q⟩ := h
  refine ⟨_, (pss_cons (ps_asg (pv 0) (pg_tup (by rfl) (pgs_cons (pg_name (i := 3) sc_show.nd rfl (Or.inl rfl)) (pgs_cons (pg_name (i := 4) sc_show.nd rfl (Or.inl rfl)) (pgs_cons (pg_name (i := 5) sc_show.nd rfl (Or.inl rfl)) (pgs_cons (pg_name (i := 6) sc_show.nd rfl (Or.inl rfl)) pgs_nil))))))
    (pss_cons (ps_set (i := 1) sc_show.nd rfl (Or.inl rfl) (pe_lst pa_nil))
    (pss_cons (ps_if (pt_truth (pv 3) (by intro _; rfl))
      (pss_one (ps_expr (pe_bm PySem.F.plainAttrs_list PySem.F.slot_list_append PySem.F.type_list_append mt_append (pv 1) (pa_cons (pe_op op_add_str pe_str (pe_join pe_str (pv 3))) pa_nil))))
      pss_nil)
    (pss_cons (ps_if (pt_truth (pv 4) (by intro _; rfl))
      (pss_one (ps_expr (pe_bm PySem.F.plainAttrs_list PySem.F.slot_list_append PySem.F.type_list_append mt_append (pv 1) (pa_cons (pe_op op_add_str pe_str (pe_join pe_str (pv 4))) pa_nil))))
      pss_nil)
    (pss_cons (ps_for PassesOwn.never rfl (pi_tup (pv 5)) (pg_name (i := 2) sc_show.nd rfl (Or.inl rfl))
      (pss_one (ps_expr (pe_bm PySem.F.plainAttrs_list PySem.F.slot_list_append PySem.F.type_list_append mt_append (pv 1) (pa_cons (pe_op op_add_str pe_str (pe_call (ok_shown_sumD T) (hr.mono (by decide)) (by rfl) T.g_shown_sum T.F_shown_sum.kp T.b_shown_sum .nil pass0 (pa_cons (pv 2) pa_nil))) pa_nil)))))
    (pss_cons (ps_for PassesOwn.never rfl (pi_tup (pv 6)) (pg_tup (by rfl) (pgs_cons (pg_name (i := 7) sc_show.nd rfl (Or.inl rfl)) (pgs_cons (pg_name (i := 8) sc_show.nd rfl (Or.inl rfl)) (pgs_cons (pg_name (i := 9) sc_show.nd rfl (Or.inl rfl)) pgs_nil))))
      (pss_one (ps_expr (pe_bm PySem.F.plainAttrs_list PySem.F.slot_list_extend PySem.F.type_list_extend mt_extend (pv 1) (pa_cons (pe_call (ok_block_lines T) (hr.mono (by decide)) (by rfl) T.g_block_lines T.F_block_lines.kp T.b_block_lines .nil pass0 (pa_cons (pe_lst (pa_cons (pe_tup (pa_cons (pe_op op_add_str (pe_op op_add_str pe_str (pv 7)) (pe_call (ok_shown_params T) (hr.mono (by decide)) (by rfl) T.g_shown_params T.F_shown_params.kp T.b_shown_params .nil pass0 (pa_cons (pv 8) pa_nil))) (pa_cons (pv 9) pa_nil))) pa_nil)) (pa_cons pe_str pa_nil))) pa_nil)))))
    (pss_one (ps_ret (pe_join pe_str (pe_lc (own := [("line", 10)]) (g := gName 10) (tt := tYes) (by rfl) sc_show.nd (pi_list (pv 1)) (blkOk_by (own := [("line", 10)]) (N := ["tree", "lines", "keep", "variables", "kinds", "keeps", "functions", "name", "params", "block", "line"]) (sc := defScope s_show) (by decide +kernel)) (fun _ _ _ _ _ => pg_name (i := 10) sc_show.nd rfl (Or.inl rfl)) (fun _ _ _ _ _ => pts_nil) (fun _ _ _ _ _ => (pe_op op_add_str (pv 10) pe_str)))))))))))), ?_⟩
  obtain ⟨r, _, rfl, hr, ug, _, rfl, hg, uk, _, rfl, hk, up, _, rfl, ⟨pk, xk, rfl, hpk, hxk⟩, uf, _, rfl, ⟨pf, xf, rfl, hpf, hxf⟩, rfl⟩ := hv
  obtain ⟨pg, rfl, hpg⟩ := Dv.strs hg
  obtain ⟨pn, rfl, hpn⟩ := Dv.strs hk
  have lk := hxk.len
  rw [List.length_map] at lk
  have lf := hxf.len
  rw [List.length_map] at lf
  have g1 := ns1_sum ok.gs
  have g2 := ns1_len ok.gs
  have k1 := ns1_sum ok.ks
  have k2 := ns1_len ok.ks
  have htl := treeL_len ok
  have kl := ok.kl
  have fl := ok.fl
  have fz := ok.sz
  have tf := fns_len ok.fs
  have w1 := wdL_len (Str.ofString "globals ") t.gs
  have w2 := wdL_len (Str.ofString "kinds ") t.ks
  refine ⟨_, rfl, r, _, rfl, .inl (.inl hr), rfl, .ref pg, _, rfl, .ref pn, _, rfl, .ref pk, _, rfl, .ref pf, [], rfl, rfl, ?_⟩
  refine ⟨Nat.zero_le _, fun L nL => ?_⟩
  have s1 := same_upd (o := .lst []) nL
  have hL1 : (upd H L (.lst [])) L = some (.lst []) := upd_same
  dsimp only [gName]
  generalize upd H L (.lst []) = H1 at s1 hL1
  refine st_seq (if_drop (b := !(t.gs.map V.str).isEmpty) (fun H3 => Same H H3 ∧ H3 L = some (.lst ((wdL (Str.ofString "globals ") t.gs).map V.str))) (fun Q q => ⟨_, rfl, _, .inr (.inl ⟨_, .inl (.inl (s1 _ _ hpg)), rfl⟩), q⟩) (fun e Q' q' => ?_) (fun e => ⟨s1, by rw [wd_no e]; exact hL1⟩) ?_)
  · refine ⟨_, rfl, .inl ⟨rfl, _, SqL.of hL1⟩, ⟨_, rfl⟩, _, rfl, Str.ofString " ", pg, t.gs, rfl, rfl, .inr (.inl (.inl (s1 _ _ hpg))), (by rw [s1_len]; omega), _, _, rfl, rfl, bigLe (by rw [glo_len]; omega), L, _, _, rfl, rfl, hL1, (by show 0 < sizeLine; decide), ?_⟩
    exact q' _ _ ⟨same_mut s1 nL, by rw [wd_yes e, upd_same]; rfl⟩
  rintro H2 ⟨s2, hL2⟩
  dsimp only
  refine st_seq (if_drop (b := !(t.ks.map V.str).isEmpty) (fun H3 => Same H H3 ∧ H3 L = some (.lst ((wdL (Str.ofString "globals ") t.gs ++ wdL (Str.ofString "kinds ") t.ks).map V.str))) (fun Q q => ⟨_, rfl, _, .inr (.inl ⟨_, .inl (.inl (s2 _ _ hpn)), rfl⟩), q⟩) (fun e Q' q' => ?_) (fun e => ⟨s2, by rw [wd_no e, List.append_nil]; exact hL2⟩) ?_)
  · refine ⟨_, rfl, .inl ⟨rfl, _, SqL.of hL2⟩, ⟨_, rfl⟩, _, rfl, Str.ofString " ", pn, t.ks, rfl, rfl, .inr (.inl (.inl (s2 _ _ hpn))), (by rw [s1_len]; omega), _, _, rfl, rfl, bigLe (by rw [kin_len]; omega), L, _, _, rfl, rfl, hL2, bigLine (by rw [List.length_map]; omega), ?_⟩
    refine q' _ _ ⟨same_mut s2 nL, ?_⟩
    rw [wd_yes (k := Str.ofString "kinds ") e, upd_same, List.map_append]
    rfl
  rintro H3 ⟨s3, hL3⟩
  dsimp only
  generalize hb : wdL (Str.ofString "globals ") t.gs ++ wdL (Str.ofString "kinds ") t.ks = bs at hL3
  have bl : bs.length ≤ 2 := by
    rw [← hb, List.length_append]
    omega
  refine st_seq ⟨_, rfl, pk, rfl, ⟨_, .inl (.inl (s3 _ _ hpk))⟩, for_tup (K := K) (a := pk) (xs := xk) (fun i σ H' => ∃ v2 : Option V, σ = [some (.ref r), some (.ref L), v2, some (.ref pg), some (.ref pn), some (.ref pk), some (.ref pf), none, none, none, none] ∧ Same H H' ∧ H' L = some (.lst ((bs ++ (t.kp.take i).map fun e => Str.ofString "keep " ++ eT e).map V.str)))
    ⟨none, rfl, s3, by rw [hL3]; simp⟩ (fun i σ H' _ ⟨_, _, s', _⟩ => .inl (.inl (s' _ _ hpk))) ?_ ?_⟩
  · rintro i x σ H4 hi ⟨v2, rfl, s4, hL4⟩
    obtain ⟨d, hd, hx⟩ := (hxk.mono (TK.of s4)).get hi
    obtain ⟨e, hei, rfl⟩ := get_map hd
    have hil := (List.getElem?_eq_some_iff.mp hei).1
    have hek := ok.kp e (List.mem_of_getElem? hei)
    have hel := eT_len hek
    refine ⟨_, rfl, .inl ⟨rfl, _, SqL.of hL4⟩, _, rfl, x, e, rfl, hx, hek, fun H5 s5 => ⟨_, _, rfl, rfl, bigLe (by rw [kee_len]; omega), L, _, _, rfl, rfl, s5 _ _ hL4, bigLine (by rw [List.length_map, List.length_append, List.length_map, List.length_take]; omega), ?_⟩⟩
    refine ⟨some x, rfl, same_mut (s4.trans s5) nL, ?_⟩
    rw [upd_same, List.take_add_one, hei, List.map_append, List.map_append, List.map_append, List.map_append, List.append_assoc]
    rfl
  rintro σ H4 ⟨v2, rfl, s4, hL4⟩
  rw [lk, List.take_length] at hL4
  dsimp only
  generalize hb2 : (bs ++ t.kp.map fun e => Str.ofString "keep " ++ eT e) = b2 at hL4
  have b2l : b2.length ≤ 3 := by
    rw [← hb2, List.length_append, List.length_map]
    omega
  refine st_seq ⟨_, rfl, pf, rfl, ⟨_, .inl (.inl (s4 _ _ hpf))⟩, for_tup (K := K) (a := pf) (xs := xf) (fun i σ H' => ∃ v7 v8 v9 : Option V, σ = [some (.ref r), some (.ref L), v2, some (.ref pg), some (.ref pn), some (.ref pk), some (.ref pf), v7, v8, v9, none] ∧ Same H H' ∧ H' L = some (.lst ((b2 ++ ((t.fs.take i).map fnL).flatten).map V.str)))
    ⟨none, none, none, rfl, s4, by rw [hL4]; simp⟩ (fun i σ H' _ ⟨_, _, _, _, s', _⟩ => .inl (.inl (s' _ _ hpf))) ?_ ?_⟩
  · rintro i x σ H5 hi ⟨v7, v8, v9, rfl, s5, hL5⟩
    obtain ⟨d, hd, hx⟩ := (hxf.mono (TK.of s5)).get hi
    obtain ⟨f, hfi, rfl⟩ := get_map hd
    have fok := ok.fs f (List.mem_of_getElem? hfi)
    obtain ⟨b, _, rfl, hb, _, _, rfl, rfl, u2, _, rfl, h2, u3, _, rfl, h3, rfl⟩ := hx
    have l1 := fok.nm.len
    have l2 := pas_len fok.ps
    have ht1 := fnL_len fok
    have ht2 := take_flat_le (f := fnL) (l := t.fs) (i := i)
    have hsz : f.bk.sz ≤ 33 := by
      have : f.bk.sz ≤ (t.fs.map fun f => f.bk.sz).sum := le_sum (List.mem_map.mpr ⟨f, List.mem_of_getElem? hfi, rfl⟩)
      omega
    refine ⟨b, _, rfl, .inl (.inl hb), rfl, .str f.nm, _, rfl, u2, _, rfl, u3, [], rfl, rfl, ?_⟩
    refine ⟨_, rfl, .inl ⟨rfl, _, SqL.of hL5⟩, _, rfl, _, _, rfl, rfl, bigLe (by rw [def_len]; omega), _, rfl, u2, f.ps, rfl, h2, fok.ps, fun H6 s6 => ⟨_, _, rfl, rfl, bigLe (by rw [Str.length_append, def_len]; omega), _, rfl, (by show 2 ≤ sizeLine; decide), fun q1 n1 => ⟨(by show 1 ≤ sizeLine; decide), fun M nM => ?_⟩⟩⟩
    obtain ⟨a1, a2, a3⟩ := one_list (h := fnH f) (h3.mono (TK.of s6)) n1 nM
    refine ⟨M, _, Str.ofString "", [(fnH f, f.bk)], rfl, upd_same, a3, fun z hz => ?_, (by show 1 ≤ 10; decide), ?_, by rw [e0_len]; decide, fun H7 N s7 nN hN => ?_⟩
    · rw [List.mem_singleton.mp hz]
      exact ⟨Nat.le_trans (fnH_len fok) (by decide), fok.bk, fok.ht⟩
    · show f.bk.sz + 0 ≤ 1000
      omega
    have s8 := (s6.trans a1).trans s7
    have hL7 := s8 _ _ hL5
    refine ⟨L, N, _, _, rfl, rfl, hL7, hN, bigLe (by
      show ((b2 ++ ((t.fs.take i).map fnL).flatten).map V.str).length + ((fnL f).map V.str).length ≤ 1000000
      rw [List.length_map, List.length_map, List.length_append]
      omega), ?_⟩
    refine ⟨_, _, _, rfl, same_mut (s5.trans s8) nL, ?_⟩
    rw [upd_same, take_flat hfi, ← List.map_append, List.append_assoc]
    rfl
  rintro σ H5 ⟨v7, v8, v9, rfl, s5, hL5⟩
  rw [lf, List.take_length] at hL5
  have etl : b2 ++ (t.fs.map fnL).flatten = treeL t := by
    rw [← hb2, ← hb]
    rfl
  rw [etl] at hL5
  refine ⟨⟨_, rfl⟩, _, rfl, L, rfl, ⟨_, SqL.of hL5⟩, fun M nM => ?_⟩
  have hLM : L ≠ M := ne_of_none hL5 nM
  refine lc_list (K := K) (a := L) (xs := (treeL t).map V.str) (fun i H' => Same H5 H' ∧ H' L = some (.lst ((treeL t).map V.str)) ∧ H' M = some (.lst ((((treeL t).take i).map nlT).map V.str)))
    ⟨same_upd nM, by rw [upd_ne hLM]; exact hL5, upd_same⟩ (fun i H' _ hh => SqL.of hh.2.1) ?_ ?_
  · rintro i x H' hi ⟨s6, hL6, hM6⟩
    obtain ⟨z, hz, rfl⟩ := get_map hi
    have hzl := treeL_wide ok z (List.mem_of_getElem? hz)
    refine ⟨rfl, _, rfl, _, _, rfl, rfl, bigLe (by rw [nl_len]; omega), _, hM6, ?_, same_mut s6 nM, by rw [upd_ne hLM]; exact hL6, ?_⟩
    · rw [List.length_map]
      exact len_take htl (by decide)
    · rw [upd_same, List.take_add_one, hz, List.map_append, List.map_append]
      rfl
  · rintro H' ⟨s6, hL6, hM6⟩
    rw [List.length_map, List.take_length] at hM6
    refine ⟨Str.ofString "", M, (treeL t).map nlT, rfl, rfl, .inl (SqL.of hM6), ?_, q H' (s5.trans s6)⟩
    have h1 := sum_le (nls_sum ok)
    rw [List.length_map] at h1 ⊢
    rw [e0_len]
    have h3 : (treeL t).length * 951 ≤ 174 * 951 := Nat.mul_le_mul_right _ htl
    omega
end
end K3
namespace K3
open PySem PySem.Spec PyProof.Rows L2 TL
/-- a pool at p, its cells at l, at most n draws so far -/
structure PoolAt (H : Hp) (p l : Addr) (n bd : Int) : Prop where
  ne : p ≠ l
  ex : ∃ (cs : List Int) (ix cnt seed ph : Int), H p = some (.lst [.ref l, .int ix, .int cnt, .int seed, .int ph, .int bd]) ∧ H l = some (.lst (cs.map V.int)) ∧
    0 ≤ ix ∧ 0 ≤ cnt ∧ cnt ≤ n ∧ 0 ≤ seed ∧ seed < 2147483647 ∧ cs.length ≤ 63
theorem PoolAt.keep {H H' : Hp} {p l : Addr} {n bd : Int} (P : PoolAt H p l n bd) (hp : H' p = H p) (hl : H' l = H l) : PoolAt H' p l n bd := by
  obtain ⟨ne, cs, ix, cnt, seed, ph, h1, h2, r⟩ := P
  exact ⟨ne, cs, ix, cnt, seed, ph, by rw [hp]; exact h1, by rw [hl]; exact h2, r⟩
theorem PoolAt.same {H H' : Hp} {p l : Addr} {n bd : Int} (P : PoolAt H p l n bd) (s : Same H H') : PoolAt H' p l n bd := by
  obtain ⟨ne, cs, ix, cnt, seed, ph, h1, h2, r⟩ := P
  exact ⟨ne, cs, ix, cnt, seed, ph, s _ _ h1, s _ _ h2, r⟩
def spPool (K : PySem.W.Frag) : Sp := fun vs H Q _ => ∃ (a : Addr) (ns : List Int), vs = [.ref a] ∧ SqL K H a (ns.map V.int) ∧ ns.length ≤ 63 ∧
  ∀ H' p l, Same H H' → H p = none → H l = none → PoolAt H' p l 0 30 → Q (.ref p) H'
def spMixed : Sp := fun vs H Q _ => ∃ (a c m : Int), vs = [.int a, .int c, .int m] ∧ 0 ≤ a ∧ a < 2147483647 ∧ 0 ≤ c ∧ c ≤ 1099511627776 ∧ 0 < m ∧
  ∀ r : Int, 0 ≤ r → r < m → Q (.int r) H
def spDraw : Sp := fun vs H Q _ => ∃ (p l : Addr) (n bd m : Int), vs = [.ref p, .int m] ∧ PoolAt H p l n bd ∧ n < 1099511627776 ∧ 0 < m ∧ m.natAbs.log2 < 9000 ∧
  ∀ (r : Int) (H' : Hp), 0 ≤ r → r < m → PoolAt H' p l (n + 1) bd → (∀ b, b ≠ p → b ≠ l → H' b = H b) → Q (.int r) H'
theorem ixN_at {n j : Nat} (hj : j < n) : ixN n (j : Int) = some j := by
  unfold ixN
  rw [if_pos (by omega), if_pos (by omega)]
  exact congrArg some (by omega)
section
variable {P : Program} {w : World} {K : PySem.W.Frag} {mg : Str → Option Value} {base : Heap} {a : Ads}
theorem sc__law_mixed : FnScope ["_law_number", "_law_count", "_law_many"] ["_law_number", "_law_count", "_law_many"] (defScope s__law_mixed) := ⟨rfl, rfl, rfl, by decide +kernel, rfl, by decide +kernel, by decide +kernel⟩
theorem ok__law_mixed (T : Txt K mg a) : FnOk P w K mg base CX0 1 a.f__law_mixed a.f__law_mixed_d ["_law_number", "_law_count", "_law_many"] spMixed := by
  refine T.F__law_mixed.ok sc__law_mixed (fun vs H Q E h => ?_) (fun cdv A outer s H vs Q E hr h => ?_)
  · obtain ⟨x, c, m, rfl, _⟩ := h
    rfl
  obtain ⟨x, c, m, rfl, ha0, ha1, hc0, hc1, hm, q⟩ := h
  refine ⟨_, (pss_one (ps_ret (pe_op op_mod (pe_op op_fdiv (pe_callTy call_int1 (by rfl) T.int (by decide +kernel) (pa_cons (pe_op op_mod (pe_op op_pow (pe_callTy call_int1 (by rfl) T.int (by decide +kernel) (pa_cons (pe_op op_add (pv 0) (pe_op op_mul pe_int (pv 1))) pa_nil)) pe_int) pe_int) pa_nil)) pe_int) (pv 2)))), ?_⟩
  refine ⟨_, rfl, _, rfl, _, _, rfl, rfl, .inl ⟨by decide, by decide⟩, _, _, rfl, rfl, .inl ⟨_, rfl, ?_⟩⟩
  refine ⟨_, _, rfl, rfl, ⟨by decide, by decide, by omega⟩, _, _, rfl, rfl, (by show (0 : Int) < 2147483647; decide), .inl ⟨_, rfl, ?_⟩⟩
  refine ⟨_, _, rfl, rfl, ⟨by decide, by decide⟩, _, rfl, _, _, rfl, rfl, hm, ?_⟩
  exact q _ (Int.emod_nonneg _ (by omega)) (Int.emod_lt_of_pos _ hm)
theorem sc__law_pool : FnScope ["_law_script", "_law_cells", "_law_seed", "_law_cell"] ["_law_script"] (defScope s__law_pool) := ⟨rfl, rfl, rfl, by decide +kernel, rfl, by decide +kernel, by decide +kernel⟩
theorem ok__law_pool (T : Txt K mg a) : FnOk P w K mg base CX0 1 a.f__law_pool a.f__law_pool_d ["_law_script"] (spPool K) := by
  refine T.F__law_pool.ok sc__law_pool (fun vs H Q E h => ?_) (fun cdv A outer s H vs Q E hr h => ?_)
  · obtain ⟨a, ns, rfl, _⟩ := h
    rfl
  obtain ⟨a, ns, rfl, hS, hlen, q⟩ := h
  refine ⟨_, (pss_cons (ps_setLc (i := 1) (own := [("_law_cell", 3)]) (g := gName 3) (tt := tYes) (by rfl) sc__law_pool.nd rfl rfl (sw_true rfl rfl rfl (by decide +kernel)) (pi_list (pe_slice sl_list (pv 0) po_none (po_some pe_int))) (blkOk_by (own := [("_law_cell", 3)]) (N := ["_law_script", "_law_cells", "_law_seed", "_law_cell"]) (sc := defScope s__law_pool) (by decide +kernel)) (fun _ _ _ _ _ => pg_name (i := 3) sc__law_pool.nd rfl (Or.inl rfl)) (fun _ _ _ _ _ => pts_nil) (fun _ _ _ _ _ => (pe_callTy call_int1 (by rfl) T.int (by decide +kernel) (pa_cons (pv 3) pa_nil))))
    (pss_cons (ps_set (i := 2) sc__law_pool.nd rfl (Or.inl rfl) pe_int)
    (pss_cons (ps_for PassesOwn.never rfl (pi_list (pv 1)) (pg_name (i := 3) sc__law_pool.nd rfl (Or.inl rfl))
      (pss_one (ps_set (i := 2) sc__law_pool.nd rfl (Or.inl rfl) (pe_op op_mod (pe_callTy call_int1 (by rfl) T.int (by decide +kernel) (pa_cons (pe_op op_add (pe_op op_mul (pv 2) pe_int) (pv 3)) pa_nil)) pe_int))))
    (pss_one (ps_ret (pe_lst (pa_cons (pv 1) (pa_cons pe_int (pa_cons pe_int (pa_cons (pv 2) (pa_cons pe_int (pa_cons pe_int pa_nil)))))))))))), ?_⟩
  have ecut : cutV (ns.map V.int) none (some 63) = ns.map V.int := by
    unfold cutV
    rw [show HT.sIx (ns.map V.int).length (ns.map V.int).length (some 63) = min 63 (ns.map V.int).length from HT.sIx_nat _ _ 63, HT.sIx_none, List.length_map]
    show (ns.map V.int).take (min 63 ns.length - 0) = ns.map V.int
    exact List.take_of_length_le (by rw [List.length_map]; omega)
  refine ⟨_, rfl, 63, rfl, a, _, rfl, hS, fun c hc => ?_⟩
  have s1 : Same H (upd H c (.lst (cutV (ns.map V.int) none (some 63)))) := same_upd hc
  refine ⟨c, rfl, ⟨_, SqL.of upd_same⟩, fun D hD => ?_⟩
  have hcD : c ≠ D := ne_of_none upd_same hD
  refine lc_list (K := K) (a := c) (xs := ns.map V.int) (fun i H' => Same H H' ∧ H' c = some (.lst (ns.map V.int)) ∧ H' D = some (.lst ((ns.take i).map V.int))) ⟨s1.trans (same_upd hD), ?_, upd_same⟩ (fun i H' _ hh => SqL.of hh.2.1) ?_ ?_
  · rw [upd_ne hcD, upd_same, ecut]
  · rintro i x H' hi ⟨s2, hc2, hD2⟩
    obtain ⟨z, hz, rfl⟩ : ∃ z, ns[i]? = some z ∧ x = V.int z := by
      rw [List.getElem?_map] at hi
      cases e : ns[i]? with
      | none => rw [e] at hi; cases hi
      | some z => rw [e] at hi; exact ⟨z, rfl, (Option.some.inj hi).symm⟩
    have hil : i < ns.length := (List.getElem?_eq_some_iff.mp hz).1
    refine ⟨rfl, _, rfl, .inl ⟨_, rfl, _, hD2, ?_, ?_, ?_, ?_⟩⟩
    · rw [List.length_map, List.length_take]
      exact Nat.lt_of_le_of_lt (Nat.min_le_left _ _) (small1000 (by omega))
    · intro b o e
      rw [upd_ne (ne_of_none e (s1.free hD))]
      exact s2 _ _ e
    · rw [upd_ne hcD]; exact hc2
    · rw [upd_same, List.take_add_one, hz, List.map_append]; rfl
  · rintro H1 ⟨s2, hc2, hD2⟩
    rw [List.length_map, List.take_length] at hD2
    refine ⟨_, rfl, D, rfl, ⟨_, SqL.of hD2⟩, for_list (K := K) (a := D) (xs := ns.map V.int) (fun i σ H' => ∃ (v : Option V) (sd : Int), σ = [some (.ref a), some (.ref D), some (.int sd), v] ∧ H' = H1 ∧ 0 ≤ sd ∧ sd < 2147483647)
      ⟨none, 11, rfl, rfl, by decide, by decide⟩ (fun i σ H' _ ⟨_, _, _, e, _⟩ => by rw [e]; exact SqL.of hD2) ?_ ?_⟩
    · rintro i x σ H' hi ⟨v, sd, rfl, rfl, h0, h1⟩
      obtain ⟨z, hz, rfl⟩ : ∃ z, ns[i]? = some z ∧ x = V.int z := by
        rw [List.getElem?_map] at hi
        cases e : ns[i]? with
        | none => rw [e] at hi; cases hi
        | some z => rw [e] at hi; exact ⟨z, rfl, (Option.some.inj hi).symm⟩
      refine ⟨_, rfl, _, _, rfl, rfl, .inl ⟨by omega, by omega⟩, _, rfl, _, _, rfl, rfl, .inl ⟨_, rfl, _, _, rfl, rfl, (by show (0 : Int) < 2147483647; decide), ?_⟩⟩
      exact ⟨_, _, rfl, rfl, Int.emod_nonneg _ (by decide), Int.emod_lt_of_pos _ (by decide)⟩
    · rintro σ H' ⟨v, sd, rfl, rfl, h0, h1⟩
      refine ⟨_, rfl, _, rfl, (by show 6 ≤ sizeLine; decide), fun p hp => ?_⟩
      have hpD : D ≠ p := ne_of_none hD2 hp
      refine q _ p D (s2.trans (same_upd hp)) (s2.free hp) (s1.free hD) ⟨fun e => hpD e.symm, ns, 0, 0, sd, 0, upd_same, by rw [upd_ne hpD]; exact hD2, by decide, by decide, by decide, h0, h1, hlen⟩
theorem sc__law_draw : FnScope ["_law_pool_here", "_law_many", "_law_at", "_law_cells", "_law_cell"] ["_law_pool_here", "_law_many"] (defScope s__law_draw) := ⟨rfl, rfl, rfl, by decide +kernel, rfl, by decide +kernel, by decide +kernel⟩
theorem ok__law_draw (T : Txt K mg a) : FnOk P w K mg base CX0 2 a.f__law_draw a.f__law_draw_d ["_law_pool_here", "_law_many"] spDraw := by
  refine T.F__law_draw.ok sc__law_draw (fun vs H Q E h => ?_) (fun cdv A outer s H vs Q E hr h => ?_)
  · obtain ⟨p, l, n, bd, m, rfl, _⟩ := h
    rfl
  obtain ⟨p, l, n, bd, m, rfl, ⟨ne, cs, ix, cnt, seed, ph, h1, h2, hix, hc0, hcn, hs0, hs1, hlen⟩, hn, hm, hml, q⟩ := h
  refine ⟨_, (pss_cons (ps_asg (pe_op op_add (pe_ix ix_list (pv 0) pe_int (fun _ _ => rfl)) pe_int) (pg_sub (pv 0) pe_int set_list))
    (pss_cons (ps_if (pt_cmpR op_ge (pe_ix ix_list (pv 0) pe_int (fun _ _ => rfl)) (pe_callB call_len_seq (by rfl) T.len PySem.boot_len (pa_cons (pe_ix ix_list (pv 0) pe_int (fun _ _ => rfl)) pa_nil)) (nomark _))
      (pss_one (ps_ret (pe_call (ok__law_mixed T) (hr.mono (by decide)) (by rfl) T.g__law_mixed T.F__law_mixed.kp T.b__law_mixed .nil pass0 (pa_cons (pe_ix ix_list (pv 0) pe_int (fun _ _ => rfl)) (pa_cons (pe_ix ix_list (pv 0) pe_int (fun _ _ => rfl)) (pa_cons (pv 1) pa_nil))))))
      pss_nil)
    (pss_cons (ps_set (i := 2) sc__law_draw.nd rfl (Or.inl rfl) (pe_ix ix_list (pv 0) pe_int (fun _ _ => rfl)))
    (pss_cons (ps_set (i := 3) sc__law_draw.nd rfl (Or.inl rfl) (pe_ix ix_list (pv 0) pe_int (fun _ _ => rfl)))
    (pss_cons (ps_set (i := 4) sc__law_draw.nd rfl (Or.inl rfl) (pe_ix ix_list (pv 3) (pv 2) (fun _ _ => rfl)))
    (pss_cons (ps_if (PW.pt (pw_and (pt_cmpR op_ne (pe_ix ix_list (pv 0) pe_int (fun _ _ => rfl)) pe_int (nomark _)) (pw_and1 (pt_cmpR op_lt (pv 4) (pe_op op_pow pe_int pe_int) (nomark _)))))
      (pss_cons (ps_asg (pe_op op_add (pe_ix ix_list (pv 0) pe_int (fun _ _ => rfl)) pe_int) (pg_sub (pv 0) pe_int set_list))
      (pss_cons (ps_if (pt_cmpR op_eq (pe_ix ix_list (pv 0) pe_int (fun _ _ => rfl)) pe_int (nomark _))
        (pss_cons (ps_asg (pe_op op_add (pv 2) pe_int) (pg_sub (pv 0) pe_int set_list))
        (pss_one (ps_asg pe_int (pg_sub (pv 0) pe_int set_list))))
        pss_nil)
      (pss_one (ps_ret (pe_call (ok__law_mixed T) (hr.mono (by decide)) (by rfl) T.g__law_mixed T.F__law_mixed.kp T.b__law_mixed .nil pass0 (pa_cons (pe_op op_mod (pe_callTy call_int1 (by rfl) T.int (by decide +kernel) (pa_cons (pv 4) pa_nil)) pe_int) (pa_cons (pe_ix ix_list (pv 0) pe_int (fun _ _ => rfl)) (pa_cons (pv 1) pa_nil))))))))
      pss_nil)
    (pss_cons (ps_asg pe_int (pg_sub (pv 0) pe_int set_list))
    (pss_cons (ps_asg (pe_op op_fdivW (pe_callTy call_int1 (by rfl) T.int (by decide +kernel) (pa_cons (pv 4) pa_nil)) (pv 1)) (pg_sub (pv 3) (pv 2) set_list))
    (pss_cons (ps_if (pt_cmpR op_eq (pe_ix ix_list (pv 3) (pv 2) (fun _ _ => rfl)) pe_int (nomark _))
      (pss_cons (ps_asg (pe_op op_add (pv 2) pe_int) (pg_sub (pv 0) pe_int set_list))
      (pss_one (ps_asg pe_int (pg_sub (pv 0) pe_int set_list))))
      pss_nil)
    (pss_one (ps_ret (pe_op op_mod (pe_callTy call_int1 (by rfl) T.int (by decide +kernel) (pa_cons (pv 4) pa_nil)) (pv 1))))))))))))), ?_⟩
  refine ⟨_, rfl, p, _, _, _, rfl, rfl, SqL.of h1, atI_nat (j := 2) rfl, _, _, rfl, rfl, _, rfl, p, _, _, 2, rfl, rfl, h1, rfl, ?_⟩
  have h1a : (upd H p (.lst [.ref l, .int ix, .int (cnt + 1), .int seed, .int ph, .int bd])) p = some (.lst [.ref l, .int ix, .int (cnt + 1), .int seed, .int ph, .int bd]) := upd_same
  have h2a : (upd H p (.lst [.ref l, .int ix, .int (cnt + 1), .int seed, .int ph, .int bd])) l = some (.lst (cs.map V.int)) := by rw [upd_ne ne.symm]; exact h2
  have hfa : ∀ b, b ≠ p → b ≠ l → (upd H p (.lst [.ref l, .int ix, .int (cnt + 1), .int seed, .int ph, .int bd])) b = H b := fun b hb _ => upd_ne hb
  show tSeq _ _ _ _ (upd H p (.lst [.ref l, .int ix, .int (cnt + 1), .int seed, .int ph, .int bd]))
  generalize (upd H p (.lst [.ref l, .int ix, .int (cnt + 1), .int seed, .int ph, .int bd])) = H1 at h1a h2a hfa ⊢
  refine ⟨_, rfl, p, _, _, _, rfl, rfl, SqL.of h1a, atI_nat (j := 1) rfl, _, rfl, p, _, _, _, rfl, rfl, SqL.of h1a, atI_nat (j := 0) rfl, l, _, rfl, .inl (SqL.of h2a), _, _, rfl, rfl, _, rfl, ite2 (fun e => ?_) (fun e => ?_)⟩
  · refine ⟨_, rfl, p, _, _, _, rfl, rfl, SqL.of h1a, atI_nat (j := 3) rfl, _, rfl, p, _, _, _, rfl, rfl, SqL.of h1a, atI_nat (j := 2) rfl, _, rfl, seed, cnt + 1, m, rfl, hs0, hs1, by omega, by omega, hm, fun r hr0 hr1 => ?_⟩
    exact q r _ hr0 hr1 ⟨ne, cs, ix, cnt + 1, seed, ph, h1a, h2a, hix, by omega, by omega, hs0, hs1, hlen⟩ hfa
  · have hlt : ix < (cs.length : Int) := by
      have e' := of_decide_eq_false (Bool.eq_false_iff.mpr e)
      rw [List.length_map] at e'
      omega
    obtain ⟨j, rfl⟩ : ∃ j : Nat, ix = (j : Int) := ⟨ix.toNat, by omega⟩
    have hj : j < cs.length := by omega
    have hz : (cs.map V.int)[j]? = some (.int cs[j]) := by rw [List.getElem?_map, List.getElem?_eq_getElem hj]; rfl
    generalize cs[j] = z at hz
    refine ⟨_, rfl, p, _, _, _, rfl, rfl, SqL.of h1a, atI_nat (j := 1) rfl, ?_⟩
    refine ⟨_, rfl, p, _, _, _, rfl, rfl, SqL.of h1a, atI_nat (j := 0) rfl, ?_⟩
    refine ⟨_, rfl, _, rfl, l, _, _, _, rfl, rfl, SqL.of h2a, atI_nat (j := j) hz, ?_⟩
    dsimp only [gName]
    refine st_seq (st_ite (b := (!decide (V.int ph = V.int 2)) && decide (z < 10 ^ (18 : Int).toNat)) (ans_and2 (fun Q q => ⟨_, rfl, p, _, _, _, rfl, rfl, SqL.of h1a, atI_nat (j := 4) rfl, rfl, _, rfl, q⟩) (fun Q q => ⟨_, rfl, _, _, rfl, rfl, ⟨by decide, by decide, by decide⟩, _, _, rfl, rfl, _, rfl, q⟩)) (fun e1 => ?_) (fun e1 => ?_))
    · -- a small cell: the phase grows
      refine ⟨_, rfl, p, _, _, _, rfl, rfl, SqL.of h1a, atI_nat (j := 4) rfl, _, _, rfl, rfl, _, rfl, p, _, _, 4, rfl, rfl, h1a, rfl, ?_⟩
      dsimp only [gName]
      refine st_seq (st_ite (b := decide (V.int (ph + 1) = V.int 2)) (fun Q q => ⟨_, rfl, p, _, _, _, rfl, rfl, SqL.of upd_same, atI_nat (j := 4) rfl, rfl, _, rfl, q⟩) (fun e2 => ?_) (fun e2 => ?_))
      · refine ⟨_, rfl, _, _, rfl, rfl, _, rfl, p, _, _, 1, rfl, rfl, upd_same, rfl, _, rfl, p, _, _, 4, rfl, rfl, upd_same, rfl, ?_⟩
        refine ⟨_, rfl, .inl ⟨_, rfl, _, _, rfl, rfl, (by show (0 : Int) < 2147483647; decide), _, rfl, p, _, _, _, rfl, rfl, SqL.of upd_same, atI_nat (j := 2) rfl, _, rfl, _, cnt + 1, m, rfl, Int.emod_nonneg _ (by decide), Int.emod_lt_of_pos _ (by decide), by omega, by omega, hm, fun r hr0 hr1 => ?_⟩⟩
        exact q r _ hr0 hr1 ⟨ne, cs, (j : Int) + 1, cnt + 1, seed, 0, upd_same, by rw [upd_ne ne.symm, upd_ne ne.symm, upd_ne ne.symm]; exact h2a, by omega, by omega, by omega, hs0, hs1, hlen⟩ fun b hb hb2 => by rw [upd_ne hb, upd_ne hb, upd_ne hb]; exact hfa b hb hb2
      · refine ⟨_, rfl, .inl ⟨_, rfl, _, _, rfl, rfl, (by show (0 : Int) < 2147483647; decide), _, rfl, p, _, _, _, rfl, rfl, SqL.of upd_same, atI_nat (j := 2) rfl, _, rfl, _, cnt + 1, m, rfl, Int.emod_nonneg _ (by decide), Int.emod_lt_of_pos _ (by decide), by omega, by omega, hm, fun r hr0 hr1 => ?_⟩⟩
        exact q r _ hr0 hr1 ⟨ne, cs, (j : Int), cnt + 1, seed, ph + 1, upd_same, by rw [upd_ne ne.symm]; exact h2a, by omega, by omega, by omega, hs0, hs1, hlen⟩ fun b hb hb2 => by rw [upd_ne hb]; exact hfa b hb hb2
    · -- a great one: divided
      refine ⟨_, rfl, p, _, _, 4, rfl, rfl, h1a, rfl, ?_⟩
      refine ⟨_, rfl, .inl ⟨_, rfl, _, rfl, _, _, rfl, rfl, ⟨hm, hml⟩, _, rfl, _, rfl, l, _, _, j, rfl, rfl, by rw [upd_ne ne.symm]; exact h2a, ixN_at (by rw [List.length_map]; exact hj), ?_⟩⟩
      have h1b : ∀ x, (upd (upd H1 p (.lst [.ref l, .int j, .int (cnt + 1), .int seed, .int 2, .int bd])) l x) p = some (.lst [.ref l, .int j, .int (cnt + 1), .int seed, .int 2, .int bd]) := fun x => by rw [upd_ne ne]; exact upd_same
      have e3 : (cs.map V.int).set j (.int (z / m)) = (cs.set j (z / m)).map V.int := by rw [List.map_set]
      have hl2 : (cs.set j (z / m)).length ≤ 63 := by rw [List.length_set]; exact hlen
      have hz2 : ((cs.map V.int).set j (.int (z / m)))[j]? = some (.int (z / m)) := by rw [List.getElem?_set_self]; rw [List.length_map]; exact hj
      dsimp only [gName]
      refine st_seq (st_ite (b := decide (V.int (z / m) = V.int 0)) (fun Q q => ⟨_, rfl, _, rfl, l, _, _, _, rfl, rfl, SqL.of upd_same, atI_nat (j := j) hz2, rfl, _, rfl, q⟩) (fun e2 => ?_) (fun e2 => ?_))
      · refine ⟨_, rfl, _, _, rfl, rfl, _, rfl, p, _, _, 1, rfl, rfl, h1b _, rfl, _, rfl, p, _, _, 4, rfl, rfl, upd_same, rfl, ?_⟩
        refine ⟨_, rfl, .inl ⟨_, rfl, _, rfl, _, _, rfl, rfl, hm, ?_⟩⟩
        exact q _ _ (Int.emod_nonneg _ (by omega)) (Int.emod_lt_of_pos _ hm) ⟨ne, _, (j : Int) + 1, cnt + 1, seed, 0, upd_same, by rw [upd_ne ne.symm, upd_ne ne.symm, upd_same, e3], by omega, by omega, by omega, hs0, hs1, hl2⟩ fun b hb hb2 => by rw [upd_ne hb, upd_ne hb, upd_ne hb2, upd_ne hb]; exact hfa b hb hb2
      · refine ⟨_, rfl, .inl ⟨_, rfl, _, rfl, _, _, rfl, rfl, hm, ?_⟩⟩
        exact q _ _ (Int.emod_nonneg _ (by omega)) (Int.emod_lt_of_pos _ hm) ⟨ne, _, (j : Int), cnt + 1, seed, 2, h1b _, by rw [upd_same, e3], by omega, by omega, by omega, hs0, hs1, hl2⟩ fun b hb hb2 => by rw [upd_ne hb2, upd_ne hb]; exact hfa b hb hb2
end
end K3
namespace K3
open PySem PySem.Spec PyProof.Rows L2 TL
/-! ### the law's names -/
theorem PoolAt.mono {H : Hp} {p l : Addr} {n m bd : Int} (P : PoolAt H p l n bd) (h : n ≤ m) : PoolAt H p l m bd := by
  obtain ⟨ne, cs, ix, cnt, seed, ph, h1, h2, a, b, c, d⟩ := P
  exact ⟨ne, cs, ix, cnt, seed, ph, h1, h2, a, b, by omega, d⟩
theorem PoolAt.off {H : Hp} {p l k : Addr} {n bd : Int} (P : PoolAt H p l n bd) (h : H k = none) : k ≠ p ∧ k ≠ l := by
  obtain ⟨_, cs, ix, cnt, seed, ph, e1, e2, _⟩ := P
  refine ⟨fun e => ?_, fun e => ?_⟩
  · rw [e, e1] at h
    cases h
  · rw [e, e2] at h
    cases h
/-- all but the pool stands -/
def Keep (p l : Addr) (H H' : Hp) : Prop := ∀ b x, H b = some x → b ≠ p → b ≠ l → H' b = some x
theorem Keep.refl (p l : Addr) (H : Hp) : Keep p l H H := fun _ _ h _ _ => h
theorem Keep.trans {p l : Addr} {H H1 H2 : Hp} (a : Keep p l H H1) (b : Keep p l H1 H2) : Keep p l H H2 := fun c x h n m => b c x (a c x h n m) n m
theorem Keep.of {p l : Addr} {H H1 : Hp} (s : Same H H1) : Keep p l H H1 := fun c x h _ _ => s c x h
theorem Keep.draw {p l : Addr} {H H1 : Hp} (f : ∀ b, b ≠ p → b ≠ l → H1 b = H b) : Keep p l H H1 := fun b x e n m => by
  rw [f b n m]
  exact e
theorem Keep.mut {p l : Addr} {H H1 : Hp} {q : Addr} {u : HO} (s : Keep p l H H1) (h : H q = none) : Keep p l H (upd H1 q u) := fun b x e n m => by
  rw [upd_ne (ne_of_none e h)]
  exact s _ _ e n m
theorem Keep.free {p l : Addr} {H H' : Hp} (e : Keep p l H H') {q : Addr} (h : H' q = none) (n : q ≠ p) (m : q ≠ l) : H q = none := by
  cases r : H q with
  | none => rfl
  | some x =>
    rw [e q x r n m] at h
    cases h
theorem atI_ex {α : Type} {xs : List α} {r : Int} (h0 : 0 ≤ r) (h1 : r < xs.length) : ∃ c, atI xs r = some c ∧ c ∈ xs := by
  obtain ⟨j, rfl⟩ : ∃ j : Nat, r = (j : Int) := ⟨r.toNat, by omega⟩
  have hj : j < xs.length := by omega
  exact ⟨xs[j], atI_nat (List.getElem?_eq_getElem hj), List.getElem_mem hj⟩
theorem log_small {m : Int} (h0 : 0 < m) (h : m < 1152921504606846976) : m.natAbs.log2 < 9000 := by
  have e : (2:Nat) ^ 60 = 1152921504606846976 := by decide
  have : m.natAbs.log2 < 60 := (Nat.log2_lt (by omega)).mpr (by rw [e]; omega)
  omega
def nameL (c : Nat) (s : Int) (k : Nat) : Str := (⟨#[c]⟩ : Str) ++ numT ((7 * ((0 : Int) + (k : Int)) + s) % 16)
def namesL (c : Nat) (s : Int) : List Str := (List.range 16).map (nameL c s)
def spNames : Sp := fun vs H Q _ => ∃ (p l : Addr) (n bd : Int), vs = [.ref p] ∧ PoolAt H p l n bd ∧ n < 1099511627000 ∧
  ∀ (H' : Hp) (q : Addr) (c : Nat) (s : Int), PoolAt H' p l (n + 2) bd → Keep p l H H' → q ≠ p → q ≠ l → H q = none → c ∈ tl LET → 0 ≤ s → s < 16 → H' q = some (.lst ((namesL c s).map V.str)) → Q (.ref q) H'
theorem ans_isi {K : PySem.W.Frag} {i : Nat} {σ : L2.St} {H : Hp} {x : V} {t n : String} {b : Bool} (h : σ[i]? = some (some x)) (ty : TyX K H x (.type t)) (k : kitB t n = some b) : Ans (tB (tCB (rIsi K) (tCons (tVar i) (tCons (tC (.ty n)) tNil)))) σ H b :=
  fun Q q => ⟨x, h, x, .ty n, .type t, .type n, b, rfl, .ty n, ty, kit_ty k, b, rfl, q⟩
theorem val_isi {K : PySem.W.Frag} {i : Nat} {σ : L2.St} {H : Hp} {x : V} {t n : String} {b : Bool} (h : σ[i]? = some (some x)) (ty : TyX K H x (.type t)) (k : kitB t n = some b) : Val (tCB (rIsi K) (tCons (tVar i) (tCons (tC (.ty n)) tNil))) σ H (.bl b) :=
  fun Q q => ⟨x, h, x, .ty n, .type t, .type n, b, rfl, .ty n, ty, kit_ty k, q⟩
section
variable {P : Program} {w : World} {K : PySem.W.Frag} {mg : Str → Option Value} {base : Heap} {a : Ads}
theorem sc__law_names : FnScope ["_law_pool_here", "_law_letter", "_law_shift", "_law_k"] ["_law_pool_here"] (defScope s__law_names) := ⟨rfl, rfl, rfl, by decide +kernel, rfl, by decide +kernel, by decide +kernel⟩
theorem ok__law_names (T : Txt K mg a) : FnOk P w K mg base CX0 3 a.f__law_names a.f__law_names_d ["_law_pool_here"] spNames := by
  refine T.F__law_names.ok sc__law_names (fun vs H Q E h => ?_) (fun cdv A outer s H vs Q E hr h => ?_)
  · obtain ⟨p, l, n, bd, rfl, _⟩ := h
    rfl
  obtain ⟨p, l, n, bd, rfl, hP, hn, q⟩ := h
  refine ⟨_, (pss_cons (ps_set (i := 1) sc__law_names.nd rfl (Or.inr rfl) (pe_ix ix_str pe_str (pe_call (ok__law_draw T) (hr.mono (by decide)) (by rfl) T.g__law_draw T.F__law_draw.kp T.b__law_draw .nil pass0 (pa_cons (pv 0) (pa_cons pe_int pa_nil))) (fun _ _ => rfl)))
    (pss_cons (ps_set (i := 2) sc__law_names.nd rfl (Or.inr rfl) (pe_call (ok__law_draw T) (hr.mono (by decide)) (by rfl) T.g__law_draw T.F__law_draw.kp T.b__law_draw .nil pass0 (pa_cons (pv 0) (pa_cons pe_int pa_nil))))
    (pss_one (ps_ret (pe_lc (own := [("_law_k", 3)]) (g := gName 3) (tt := tYes) (by rfl) sc__law_names.nd (pi_range1 (by rfl) T.range (pa_cons pe_int pa_nil)) (blkOk_by (own := [("_law_k", 3)]) (N := ["_law_pool_here", "_law_letter", "_law_shift", "_law_k"]) (sc := defScope s__law_names) (by decide +kernel)) (fun _ _ _ _ _ => pg_name (i := 3) sc__law_names.nd rfl (Or.inl rfl)) (fun _ _ _ _ _ => pts_nil) (fun _ _ _ _ _ => (pe_op op_add_str (pv 1) (pe_callTy call_str_int (by rfl) T.str (by decide +kernel) (pa_cons (pe_op op_mod (pe_op op_add (pe_op op_mul pe_int (pv 3)) (pv 2)) pe_int) pa_nil))))))))), ?_⟩
  refine ⟨_, rfl, p, l, n, bd, 26, rfl, hP, by omega, by decide, log_small (by decide) (by decide), fun r1 H1 r10 r11 P1 f1 => ?_⟩
  obtain ⟨c, hc, hm⟩ := atI_ex (xs := tl LET) (r := r1) r10 (by rw [show (tl LET).length = 26 from by decide +kernel]; exact r11)
  refine ⟨_, r1, c, rfl, rfl, (by decide +kernel), hc, ?_⟩
  refine ⟨_, rfl, p, l, n + 1, bd, 16, rfl, P1, by omega, by decide, log_small (by decide) (by decide), fun r2 H2 r20 r21 P2 f2 => ?_⟩
  refine ⟨16, rfl, by decide, by decide, fun D hD => ?_⟩
  have hDo := P2.off hD
  have k2 : Keep p l H H2 := (Keep.draw f1).trans (Keep.draw f2)
  have nD : H D = none := k2.free hD hDo.1 hDo.2
  refine lc_range (lo := 0) (n := 16) (fun i H' => PoolAt H' p l (n + 2) bd ∧ Keep p l H H' ∧ H' D = some (.lst ((((List.range i).map (nameL c r2))).map V.str)))
    ⟨(P2.mono (by omega)).same (same_upd hD), k2.trans (Keep.of (same_upd hD)), upd_same⟩ ?_ ?_
  · rintro i H' hi ⟨P3, k3, hD3⟩
    have h16 : 0 ≤ (7 * ((0 : Int) + (i : Int)) + r2) % 16 ∧ (7 * ((0 : Int) + (i : Int)) + r2) % 16 < 16 := ⟨Int.emod_nonneg _ (by decide), Int.emod_lt_of_pos _ (by decide)⟩
    refine ⟨rfl, _, rfl, _, rfl, _, _, rfl, rfl, .inl ⟨by decide, by decide⟩, _, rfl, _, _, rfl, rfl, _, _, rfl, rfl, (by show (0 : Int) < 16; decide), _, rfl, log_ok h16.1 (by omega), _, _, rfl, rfl, ?_, _, hD3, ?_, ?_, ?_, ?_⟩
    · have := numT_len h16.1 (show _ < 1000000000000000000 by omega)
      unfold numT at this
      exact bigLe (by show 1 + _ ≤ 1000000; omega)
    · rw [List.length_map, List.length_map, List.length_range]
      exact bigLine (by omega)
    · exact P3.keep (upd_ne hDo.1.symm) (upd_ne hDo.2.symm)
    · exact k3.mut nD
    · rw [upd_same, List.range_succ, List.map_append, List.map_append]
      rfl
  · rintro H' ⟨P3, k3, hD3⟩
    exact q H' D c r2 P3 k3 hDo.1 hDo.2 nD hm r20 r21 hD3
end
end K3
namespace K3
open PySem PySem.Spec PyProof.Rows L2 TL
/-! ### what is drawn -/
theorem TK.keep {H H' : Hp} {p l : Addr} {n b : Int} (P : PoolAt H p l n b) (k : Keep p l H H') : TK H H' := fun q xs h => by
  obtain ⟨_, cs, ix, cnt, seed, ph, h1, h2, _⟩ := P
  exact k q _ h (fun e => by rw [e, h1] at h; cases h) (fun e => by rw [e, h2] at h; cases h)
theorem RepP.tk {H H' : Hp} (s : TK H H') : ∀ {as : List Addr} {ts : List (Str × Int)}, RepP H as ts → RepP H' as ts
  | [], [], _ => trivial
  | _ :: _, _ :: _, h => ⟨s _ _ h.1, RepP.tk s h.2⟩
  | [], _ :: _, h => h.elim
  | _ :: _, [], h => h.elim
theorem PoolAt.fresh {H : Hp} {p l q : Addr} {n b : Int} {o : HO} (P : PoolAt H p l n b) (h : H q = none) : PoolAt (upd H q o) p l n b := P.keep (upd_ne (P.off h).1.symm) (upd_ne (P.off h).2.symm)
theorem PoolAt.put {H : Hp} {p l q : Addr} {n b : Int} {o : HO} (P : PoolAt H p l n b) (h : q ≠ p) (h' : q ≠ l) : PoolAt (upd H q o) p l n b := P.keep (upd_ne h.symm) (upd_ne h'.symm)
structure NmsOk (ns : List Str) : Prop where
  nm : ∀ v ∈ ns, NameOk v
  nd : ns.Nodup
  len : ns.length ≤ 6
def spExp : Sp := fun vs H Q _ => ∃ (p l a : Addr) (n b : Int) (ns : List Str), vs = [.ref p, .ref a, .int 4] ∧ PoolAt H p l n b ∧ n ≤ 1000000009000 ∧ H a = some (.lst (ns.map V.str)) ∧ a ≠ p ∧ a ≠ l ∧ NmsOk ns ∧
  ∀ (e : Ex) (v : V) (H' : Hp), ExOk e → Dv H' v (dE e) → PoolAt H' p l (n + 7) b → Keep p l H H' → Q v H'
theorem lt_sub {ys : List Str} {ts : List (Str × Int)} {i : Nat} (h : (ts.map (·.1)).Sublist (ys.take i)) (hp : ys.Pairwise Lt) : ts.Pairwise fun s t => Lt s.1 t.1 := by
  have h1 := (hp.sublist (List.take_sublist i ys)).sublist h
  rwa [List.pairwise_map] at h1
section
variable {P : Program} {w : World} {K : PySem.W.Frag} {mg : Str → Option Value} {base : Heap} {a : Ads}
theorem sc__law_expression : FnScope ["_law_pool_here", "_law_names_here", "_law_great", "_law_terms", "_law_name", "_law_factor"] ["_law_pool_here", "_law_names_here", "_law_great"] (defScope s__law_expression) := ⟨rfl, rfl, rfl, by decide +kernel, rfl, by decide +kernel, by decide +kernel⟩
theorem ok__law_expression (T : Txt K mg a) : FnOk P w K mg base CX0 3 a.f__law_expression a.f__law_expression_d ["_law_pool_here", "_law_names_here", "_law_great"] spExp := by
  refine T.F__law_expression.ok sc__law_expression (fun vs H Q E h => ?_) (fun cdv A outer s H vs Q E hr h => ?_)
  · obtain ⟨p, l, a, n, b, ns, rfl, _⟩ := h
    rfl
  obtain ⟨p, l, ad, n, b, ns, rfl, hP, hn, ha, hap, hal, hns, q⟩ := h
  refine ⟨_, (pss_cons (ps_set (i := 3) sc__law_expression.nd rfl (Or.inl rfl) (pe_lst pa_nil))
    (pss_cons (ps_for PassesOwn.never rfl (pi_list (pe_callB cr_sortedS (by rfl) T.sorted (by decide +kernel) (pa_cons (pv 1) pa_nil))) (pg_name (i := 4) sc__law_expression.nd rfl (Or.inl rfl))
      (pss_cons (ps_set (i := 5) sc__law_expression.nd rfl (Or.inl rfl) (pe_ix ix_list (pe_lst (pa_cons pe_int (pa_cons pe_int (pa_cons pe_int (pa_cons (pe_un un_neg pe_int) (pa_cons pe_int (pa_cons (pe_un un_neg pe_int) (pa_cons (pv 2) pa_nil)))))))) (pe_call (ok__law_draw T) (hr.mono (by decide)) (by rfl) T.g__law_draw T.F__law_draw.kp T.b__law_draw .nil pass0 (pa_cons (pv 0) (pa_cons pe_int pa_nil))) (fun _ _ => rfl)))
      (pss_one (ps_if (pt_cmpR op_ne (pv 5) pe_int (nomark _))
        (pss_one (ps_expr (pe_bm PySem.F.plainAttrs_list PySem.F.slot_list_append PySem.F.type_list_append mt_append (pv 3) (pa_cons (pe_tup (pa_cons (pv 4) (pa_cons (pv 5) pa_nil))) pa_nil))))
        pss_nil))))
    (pss_one (ps_ret (pe_tup (pa_cons (pe_op op_sub (pe_call (ok__law_draw T) (hr.mono (by decide)) (by rfl) T.g__law_draw T.F__law_draw.kp T.b__law_draw .nil pass0 (pa_cons (pv 0) (pa_cons pe_int pa_nil))) pe_int) (pa_cons (pe_callTy call_tuple_of (by rfl) T.tuple (by decide +kernel) (pa_cons (pv 3) pa_nil)) pa_nil))))))), ?_⟩
  have hn' := hn
  have hlen := hns.len
  refine ⟨Nat.zero_le _, fun L nL => ?_⟩
  have hLo := hP.off nL
  have P1 := hP.fresh (o := .lst []) nL
  have k1 : Keep p l H (upd H L (.lst [])) := Keep.of (same_upd nL)
  have ha1 := k1 _ _ ha hap hal
  have hL1 : (upd H L (.lst [])) L = some (.lst []) := upd_same
  dsimp only [gName]
  generalize upd H L (.lst []) = H1 at P1 k1 ha1 hL1
  refine st_seq ⟨_, rfl, ad, ns, rfl, SqL.of ha1, by omega, fun ys y hperm hsort ny => ?_⟩
  have hyo := P1.off ny
  have P2 := P1.fresh (o := .lst (ys.map V.str)) ny
  have k2 := k1.trans (Keep.of (same_upd (o := .lst (ys.map V.str)) ny))
  have hy : (upd H1 y (.lst (ys.map V.str))) y = some (.lst (ys.map V.str)) := upd_same
  have hL2 := (same_upd (o := .lst (ys.map V.str)) ny) _ _ hL1
  have hLy : L ≠ y := ne_of_none hL1 ny
  generalize upd H1 y (.lst (ys.map V.str)) = H2 at P2 k2 hy hL2
  have hyl : ys.length = ns.length := hperm.length_eq
  have hstrict := sorted_strict hsort (hperm.symm.nodup hns.nd)
  refine ⟨y, rfl, ⟨_, SqL.of hy⟩, for_list (K := K) (a := y) (xs := ys.map V.str) (fun i σ H' => ∃ (v4 v5 : Option V) (ts : List (Str × Int)) (as : List Addr), σ = [some (.ref p), some (.ref ad), some (.int 4), some (.ref L), v4, v5] ∧ PoolAt H' p l (n + i) b ∧ Keep p l H H' ∧ H' y = some (.lst (ys.map V.str)) ∧
      H' L = some (.lst (as.map V.ref)) ∧ RepP H' as ts ∧ (ts.map (·.1)).Sublist (ys.take i) ∧ ∀ t ∈ ts, t.2 ≠ 0 ∧ -10 < t.2 ∧ t.2 < 10)
    ⟨none, none, [], [], rfl, P2.mono (by omega), k2, hy, hL2, trivial, List.Sublist.refl _, fun t h => by cases h⟩ (fun i σ H' _ ⟨_, _, _, _, _, _, _, h, _⟩ => SqL.of h) ?_ ?_⟩
  · rintro i x σ H3 hi ⟨v4, v5, ts, as, rfl, P3, k3, hy3, hL3, hR3, hsub, hsm⟩
    obtain ⟨z, hz, rfl⟩ := get_map hi
    have hil := (List.getElem?_eq_some_iff.mp hz).1
    dsimp only [gName]
    refine st_seq ⟨1, rfl, 3, rfl, _, rfl, (by show 7 ≤ sizeLine; decide), fun q2 n2 => ?_⟩
    have h2o := P3.off n2
    have P4 := P3.fresh (o := .lst [.int 0, .int 0, .int 1, .int (-1), .int 2, .int (-3), .int 4]) n2
    have s4 := same_upd (o := .lst [.int 0, .int 0, .int 1, .int (-1), .int 2, .int (-3), .int 4]) n2
    have hq4 : (upd H3 q2 (.lst [.int 0, .int 0, .int 1, .int (-1), .int 2, .int (-3), .int 4])) q2 = some (.lst [.int 0, .int 0, .int 1, .int (-1), .int 2, .int (-3), .int 4]) := upd_same
    generalize upd H3 q2 (.lst [.int 0, .int 0, .int 1, .int (-1), .int 2, .int (-3), .int 4]) = H4 at P4 s4 hq4
    refine ⟨_, rfl, p, l, _, b, 7, rfl, P4, by omega, by decide, log_small (by decide) (by decide), fun r H5 r0 r1 P5 f5 => ?_⟩
    have k5 := (Keep.of (p := p) (l := l) s4).trans (Keep.draw f5)
    have tk5 : TK H3 H5 := TK.keep P3 k5
    have hq5 := (Keep.draw f5) _ _ hq4 h2o.1 h2o.2
    have hy5 := k5 _ _ hy3 hyo.1 hyo.2
    have hL5 := k5 _ _ hL3 hLo.1 hLo.2
    obtain ⟨x, hx, hxm⟩ := atI_ex (xs := [V.int 0, .int 0, .int 1, .int (-1), .int 2, .int (-3), .int 4]) (r := r) r0 r1
    obtain ⟨f, rfl, hf⟩ : ∃ f : Int, x = .int f ∧ -10 < f ∧ f < 10 := by
      simp only [List.mem_cons, List.not_mem_nil, or_false] at hxm
      rcases hxm with rfl | rfl | rfl | rfl | rfl | rfl | rfl <;> exact ⟨_, rfl, by decide, by decide⟩
    refine ⟨q2, _, _, _, rfl, rfl, SqL.of hq5, hx, ?_⟩
    dsimp only [gName]
    refine st_ite (b := !decide (V.int f = V.int 0)) (fun Q q => ⟨_, rfl, rfl, _, rfl, q⟩) (fun e => ?_) (fun e => ?_)
    · have hf0 : f ≠ 0 := fun z => by rw [z, decide_eq_true rfl] at e; cases e
      refine ⟨_, rfl, .inl ⟨rfl, _, SqL.of hL5⟩, _, rfl, _, rfl, (by show 2 ≤ sizeLine; decide), fun q3 n3 => ?_⟩
      have s6 := same_upd (o := .tup [.str z, .int f]) n3
      have hL6 := s6 _ _ hL5
      have hq3 : (upd H5 q3 (.tup [.str z, .int f])) q3 = some (.tup [.str z, .int f]) := upd_same
      have P6 := P5.fresh (o := .tup [.str z, .int f]) n3
      have tk6 : TK H3 (upd H5 q3 (.tup [.str z, .int f])) := tk5.trans (TK.of s6)
      have hy6 := s6 _ _ hy5
      have asl : as.length = ts.length := hR3.len
      have tsl : ts.length ≤ 6 := by
        have := hsub.length_le
        rw [List.length_map, List.length_take] at this
        omega
      refine ⟨L, _, _, rfl, rfl, hL6, bigLine (by rw [List.length_map]; omega), ?_⟩
      refine ⟨_, _, ts ++ [(z, f)], as ++ [q3], rfl, ?_, ?_, ?_, ?_, ?_, ?_, ?_⟩
      · exact (P6.put hLo.1 hLo.2).mono (by push_cast; omega)
      · exact (k3.trans (k5.trans (Keep.of s6))).mut nL
      · rw [upd_ne hLy.symm]
        exact hy6
      · rw [upd_same, List.map_append]
        rfl
      · exact RepP.tk (TK.upd hL6 (fun _ z => by cases z)) (RepP.app hq3 (hR3.tk tk6))
      · rw [List.map_append, List.take_add_one, hz]
        exact List.Sublist.append hsub (List.Sublist.refl _)
      · intro t ht
        rcases List.mem_append.mp ht with ht | ht
        · exact hsm t ht
        · rw [List.mem_singleton.mp ht]
          exact ⟨hf0, hf⟩
    · refine ⟨_, _, ts, as, rfl, P5.mono (by push_cast; omega), k3.trans k5, hy5, hL5, hR3.tk tk5, ?_, hsm⟩
      rw [List.take_add_one]
      exact List.Sublist.trans hsub (List.sublist_append_left _ _)
  · rintro σ H3 ⟨v4, v5, ts, as, rfl, P3, k3, hy3, hL3, hR3, hsub, hsm⟩
    rw [List.length_map] at P3 hsub
    have asl : as.length = ts.length := hR3.len
    have tsl : ts.length ≤ 6 := by
      have := hsub.length_le
      rw [List.length_map, List.length_take] at this
      omega
    refine ⟨_, rfl, p, l, _, b, 7, rfl, P3, by omega, by decide, log_small (by decide) (by decide), fun r H4 r0 r1 P4 f4 => ?_⟩
    have k4 : Keep p l H3 H4 := Keep.draw f4
    have hL4 := k4 _ _ hL3 hLo.1 hLo.2
    refine ⟨_, _, rfl, rfl, _, rfl, L, _, rfl, .inl ⟨SqL.of hL4, fun p5 n5 => ⟨(by show 2 ≤ sizeLine; decide), fun p6 n6 => ?_⟩⟩⟩
    have s5 := same_upd (o := .tup (as.map V.ref)) n5
    have s6 := same_upd (o := .tup [.int (r - 3), .ref p5]) n6
    have tk : TK H3 _ := ((TK.keep P3 k4).trans (TK.of s5)).trans (TK.of s6)
    refine q (r - 3, ts) _ _ ⟨lt_sub hsub hstrict, fun t ht => ⟨?_, hsm t ht⟩, tsl, by show -10 < r - 3 ∧ r - 3 < 10; omega⟩ (Dv.of_ex upd_same (s6 _ _ upd_same) (hR3.tk tk)) ?_ (k3.trans (k4.trans ((Keep.of s5).trans (Keep.of s6))))
    · refine hns.nm _ (hperm.mem_iff.mp ?_)
      exact List.mem_of_mem_take (hsub.subset (List.mem_map.mpr ⟨t, ht, rfl⟩))
    · exact ((P4.fresh n5).fresh n6).mono (by omega)
end
end K3
namespace K3
open PySem PySem.Spec PyProof.Rows L2 TL
def dHead (h : Str × List (Str × Bool)) : D := tp [.str h.1, .tup (DL.of (h.2.map dPa))]
/-- names, kinds and heads of functions, as the law hands them on -/
structure EnvAt (H : Hp) (p l env a1 a2 a3 : Addr) (ns ks : List Str) (hs : List (Str × List (Str × Bool))) : Prop where
  env : H env = some (.tup [.ref a1, .ref a2, .ref a3])
  h1 : H a1 = some (.lst (ns.map V.str))
  h2 : H a2 = some (.lst (ks.map V.str))
  h3 : ∃ xs, H a3 = some (.lst xs) ∧ Dvs H xs (DL.of (hs.map dHead))
  o1 : a1 ≠ p ∧ a1 ≠ l
  o2 : a2 ≠ p ∧ a2 ≠ l
  o3 : a3 ≠ p ∧ a3 ≠ l
theorem EnvAt.keep {H H' : Hp} {p l env a1 a2 a3 : Addr} {n b : Int} {ns ks : List Str} {hs : List (Str × List (Str × Bool))} (e : EnvAt H p l env a1 a2 a3 ns ks hs) (P : PoolAt H p l n b) (k : Keep p l H H') : EnvAt H' p l env a1 a2 a3 ns ks hs := by
  obtain ⟨e0, h1, h2, ⟨xs, h3, h4⟩, o1, o2, o3⟩ := e
  have t := TK.keep P k
  exact ⟨t _ _ e0, k _ _ h1 o1.1 o1.2, k _ _ h2 o2.1 o2.2, ⟨xs, k _ _ h3 o3.1 o3.2, h4.mono t⟩, o1, o2, o3⟩
structure HsOk (hs : List (Str × List (Str × Bool))) : Prop where
  nm : ∀ h ∈ hs, NameOk h.1 ∧ PsOk h.2
  len : hs.length ≤ 3
  ne : hs ≠ []
structure KsOk (ks : List Str) : Prop where
  ok : NsOk ks
  ne : ks ≠ []
def spArgs : Sp := fun vs H Q _ => ∃ (p l a : Addr) (n b : Int) (v : V) (ps : List (Str × Bool)) (ns : List Str), vs = [.ref p, v, .ref a] ∧ PoolAt H p l n b ∧ n ≤ 1000000008000 ∧ Dv H v (.tup (DL.of (ps.map dPa))) ∧ PsOk ps ∧ H a = some (.lst (ns.map V.str)) ∧ a ≠ p ∧ a ≠ l ∧ NmsOk ns ∧ ns ≠ [] ∧
  ∀ (as : List Ar) (u : V) (H' : Hp), ArsOk as → Dv H' u (.tup (DL.of (as.map dA))) → PoolAt H' p l (n + 14) b → Keep p l H H' → Q u H'
def spLCall : Sp := fun vs H Q _ => ∃ (p l env a1 a2 a3 : Addr) (n b : Int) (ns ks : List Str) (hs : List (Str × List (Str × Bool))), vs = [.ref p, .ref env] ∧ PoolAt H p l n b ∧ n ≤ 1000000007000 ∧ EnvAt H p l env a1 a2 a3 ns ks hs ∧ NmsOk ns ∧ ns ≠ [] ∧ HsOk hs ∧
  ∀ (f : Str) (as : List Ar) (u : V) (H' : Hp), NameOk f → ArsOk as → Dv H' u (dCall f as) → PoolAt H' p l (n + 15) b → Keep p l H H' → Q u H'
def spSome : Sp := fun vs H Q _ => ∃ (p l a : Addr) (n b : Int) (ks : List Str), vs = [.ref p, .ref a] ∧ PoolAt H p l n b ∧ n ≤ 1000000007000 ∧ H a = some (.lst (ks.map V.str)) ∧ a ≠ p ∧ a ≠ l ∧ KsOk ks ∧
  ∀ (zs : List Str) (u : V) (H' : Hp), zs ≠ [] → NsOk zs → Dv H' u (dNs zs) → PoolAt H' p l (n + 1) b → Keep p l H H' → Q u H'
theorem pos_len {α : Type} {ns : List α} (h : ns ≠ []) : 0 < ns.length := List.length_pos_iff.mpr h
theorem log_nat {k : Nat} (h0 : 0 < k) (h : k ≤ 1000) : ((k : Nat) : Int).natAbs.log2 < 9000 := log_small (by omega) (by omega)
theorem at_str {ns : List Str} {r : Int} (h0 : 0 ≤ r) (h1 : r < ((ns.map V.str).length : Int)) : ∃ v, atI (ns.map V.str) r = some (.str v) ∧ v ∈ ns := by
  obtain ⟨c, hc, hm⟩ := atI_ex (xs := ns.map V.str) h0 h1
  obtain ⟨v, hv, rfl⟩ := List.mem_map.mp hm
  exact ⟨v, hc, hv⟩
theorem Dv.of_strs {H : Hp} {q : Addr} {ns : List Str} (h : H q = some (.tup (ns.map V.str))) : Dv H (.ref q) (dNs ns) := ⟨q, _, rfl, h, Dvs.of_strs H ns⟩
section
variable {P : Program} {w : World} {K : PySem.W.Frag} {mg : Str → Option Value} {base : Heap} {a : Ads}
theorem sc__law_args : FnScope ["_law_pool_here", "_law_params", "_law_names_here", "_law_args_here", "_law_param"] ["_law_pool_here", "_law_params", "_law_names_here"] (defScope s__law_args) := ⟨rfl, rfl, rfl, by decide +kernel, rfl, by decide +kernel, by decide +kernel⟩
theorem ok__law_args (T : Txt K mg a) : FnOk P w K mg base CX0 4 a.f__law_args a.f__law_args_d ["_law_pool_here", "_law_params", "_law_names_here"] spArgs := by
  refine T.F__law_args.ok sc__law_args (fun vs H Q E h => ?_) (fun cdv A outer s H vs Q E hr h => ?_)
  · obtain ⟨p, l, a, n, b, v, ps, ns, rfl, _⟩ := h
    rfl
  obtain ⟨p, l, ad, n, b, v, ps, ns, rfl, hP, hn, hv, hps, ha, hap, hal, hns, hne, q⟩ := h
  refine ⟨_, (pss_cons (ps_set (i := 3) sc__law_args.nd rfl (Or.inl rfl) (pe_lst pa_nil))
    (pss_cons (ps_for PassesOwn.never rfl (pi_tup (pv 1)) (pg_name (i := 4) sc__law_args.nd rfl (Or.inl rfl))
      (pss_one (ps_if (pt_val (pe_ix ix_tup (pv 4) pe_int (fun _ _ => rfl)))
        (pss_one (ps_expr (pe_bm PySem.F.plainAttrs_list PySem.F.slot_list_append PySem.F.type_list_append mt_append (pv 3) (pa_cons (pe_tup (pa_cons pe_str (pa_cons (pe_ix ix_list (pv 2) (pe_call (ok__law_draw T) (hr.mono (by decide)) (by rfl) T.g__law_draw T.F__law_draw.kp T.b__law_draw .nil pass0 (pa_cons (pv 0) (pa_cons (pe_callB call_len_seq (by rfl) T.len PySem.boot_len (pa_cons (pv 2) pa_nil)) pa_nil))) (fun _ _ => rfl)) pa_nil))) pa_nil))))
        (pss_one (ps_expr (pe_bm PySem.F.plainAttrs_list PySem.F.slot_list_append PySem.F.type_list_append mt_append (pv 3) (pa_cons (pe_tup (pa_cons pe_str (pa_cons (pe_call (ok__law_expression T) (hr.mono (by decide)) (by rfl) T.g__law_expression T.F__law_expression.kp T.b__law_expression .nil pass0 (pa_cons (pv 0) (pa_cons (pv 2) (pa_cons pe_int pa_nil)))) pa_nil))) pa_nil)))))))
    (pss_one (ps_ret (pe_callTy call_tuple_of (by rfl) T.tuple (by decide +kernel) (pa_cons (pv 3) pa_nil)))))), ?_⟩
  have hpos := pos_len hne
  have hnl := hns.len
  obtain ⟨pp, xs, rfl, hpp, hxs⟩ := hv
  have hl := hxs.len
  rw [List.length_map] at hl
  have hpl := hps.len
  refine ⟨Nat.zero_le _, fun L nL => ?_⟩
  have hLo := hP.off nL
  have P1 := hP.fresh (o := .lst []) nL
  have k1 : Keep p l H (upd H L (.lst [])) := Keep.of (same_upd nL)
  have hL1 : (upd H L (.lst [])) L = some (.lst []) := upd_same
  dsimp only [gName]
  generalize upd H L (.lst []) = H1 at P1 k1 hL1
  have tk0 : ∀ {H'}, Keep p l H H' → TK H H' := fun k => TK.keep hP k
  refine st_seq ⟨_, rfl, pp, rfl, ⟨_, .inl (.inl (tk0 k1 _ _ hpp))⟩, for_tup (K := K) (a := pp) (xs := xs) (fun i σ H' => ∃ (v4 : Option V) (as : List Ar) (ys : List V), σ = [some (.ref p), some (.ref pp), some (.ref ad), some (.ref L), v4] ∧ PoolAt H' p l (n + 7 * i) b ∧ Keep p l H H' ∧ H' L = some (.lst ys) ∧ Dvs H' ys (DL.of (as.map dA)) ∧ as.length = i ∧ ∀ x ∈ as, ArOk x)
    ⟨none, [], [], rfl, P1.mono (by omega), k1, hL1, rfl, rfl, fun x h => by cases h⟩ (fun i σ H' _ ⟨_, _, _, _, _, k', _⟩ => .inl (.inl (tk0 k' _ _ hpp))) ?_ ?_⟩
  · rintro i x σ H2 hi ⟨v4, as, ys, rfl, P2, k2, hL2, hD2, hal2, hok2⟩
    have hil := (List.getElem?_eq_some_iff.mp hi).1
    obtain ⟨d, hd, hx⟩ := (hxs.mono (tk0 k2)).get hi
    obtain ⟨pa, hpa, rfl⟩ := get_map hd
    obtain ⟨r, _, rfl, hr, _, _, rfl, rfl, _, _, rfl, rfl, rfl⟩ := hx
    have hyl := hD2.len
    rw [List.length_map] at hyl
    have ha2 := k2 _ _ ha hap hal
    dsimp only [gName]
    have fin : ∀ (z : Ar) (H3 : Hp) (u : V) (q3 : Addr), ArOk z → PoolAt H3 p l (n + 7 * i + 7) b → Keep p l H2 H3 → H3 q3 = some (.tup [u, V.non]) ∨ True → True := fun _ _ _ _ _ _ _ _ => trivial
    refine ⟨_, rfl, r, _, _, _, rfl, rfl, .inl (.inl hr), atI_nat (j := 1) rfl, pa.2, rfl, ite2 (fun e => ?_) (fun e => ?_)⟩
    · refine ⟨_, rfl, .inl ⟨rfl, _, SqL.of hL2⟩, _, rfl, _, rfl, _, rfl, ad, _, rfl, .inl (SqL.of ha2), p, l, _, b, _, rfl, P2, by omega, by rw [List.length_map]; omega, by rw [List.length_map]; exact log_nat hpos (by omega), fun r1 H3 r10 r11 P3 f3 => ?_⟩
      have k3 : Keep p l H2 H3 := Keep.draw f3
      obtain ⟨z, hz, hzm⟩ := at_str r10 r11
      refine ⟨ad, _, _, _, rfl, rfl, SqL.of (k3 _ _ ha2 hap hal), hz, (by show 2 ≤ sizeLine; decide), fun q3 n3 => ?_⟩
      have s4 := same_upd (o := .tup [.str "place", .str z]) n3
      have k4 : Keep p l H2 _ := k3.trans (Keep.of s4)
      have hL4 := k4 _ _ hL2 hLo.1 hLo.2
      refine ⟨L, _, _, rfl, rfl, hL4, bigLine (by omega), ?_⟩
      have tk5 := (TK.keep P2 k4).trans (TK.upd (x := .lst (ys ++ [.ref q3])) hL4 (fun _ z => by cases z))
      refine ⟨_, as ++ [.pla z], ys ++ [.ref q3], rfl, ((P3.fresh n3).put hLo.1 hLo.2).mono (by push_cast; omega), (k2.trans k4).mut nL, upd_same, ?_, by rw [List.length_append, hal2]; rfl, ?_⟩
      · rw [List.map_append]
        refine Dvs.app ?_ (hD2.mono tk5)
        exact ⟨q3, _, rfl, TK.upd hL4 (fun _ z => by cases z) _ _ upd_same, _, _, rfl, rfl, _, _, rfl, rfl, rfl⟩
      · intro x hx
        rcases List.mem_append.mp hx with hx | hx
        · exact hok2 x hx
        · rw [List.mem_singleton.mp hx]
          exact hns.nm z hzm
    · refine ⟨_, rfl, .inl ⟨rfl, _, SqL.of hL2⟩, _, rfl, _, rfl, p, l, ad, _, b, ns, rfl, P2, by omega, ha2, hap, hal, hns, fun e1 v1 H3 he hv1 P3 k3 => ⟨(by show 2 ≤ sizeLine; decide), fun q3 n3 => ?_⟩⟩
      have s4 := same_upd (o := .tup [.str "value", v1]) n3
      have k4 : Keep p l H2 _ := k3.trans (Keep.of s4)
      have hL4 := k4 _ _ hL2 hLo.1 hLo.2
      refine ⟨L, _, _, rfl, rfl, hL4, bigLine (by omega), ?_⟩
      have tk6 : TK (upd H3 q3 (.tup [.str "value", v1])) (upd (upd H3 q3 (.tup [.str "value", v1])) L (.lst (ys ++ [.ref q3]))) := TK.upd hL4 (fun _ z => by cases z)
      have tk5 := (TK.keep P2 k4).trans tk6
      refine ⟨_, as ++ [.val e1], ys ++ [.ref q3], rfl, ((P3.fresh n3).put hLo.1 hLo.2).mono (by push_cast; omega), (k2.trans k4).mut nL, upd_same, ?_, by rw [List.length_append, hal2]; rfl, ?_⟩
      · rw [List.map_append]
        refine Dvs.app ?_ (hD2.mono tk5)
        exact ⟨q3, _, rfl, tk6 _ _ upd_same, _, _, rfl, rfl, _, _, rfl, hv1.mono ((TK.of s4).trans tk6), rfl⟩
      · intro x hx
        rcases List.mem_append.mp hx with hx | hx
        · exact hok2 x hx
        · rw [List.mem_singleton.mp hx]
          exact he
  · rintro σ H2 ⟨v4, as, ys, rfl, P2, k2, hL2, hD2, hal2, hok2⟩
    refine ⟨_, rfl, L, _, rfl, .inl ⟨SqL.of hL2, fun p5 n5 => ?_⟩⟩
    have s5 := same_upd (o := .tup ys) n5
    exact q as _ _ ⟨hok2, by omega⟩ ⟨p5, _, rfl, upd_same, hD2.mono (TK.of s5)⟩ ((P2.fresh n5).mono (by omega)) (k2.trans (Keep.of s5))
theorem sc__law_call : FnScope ["_law_pool_here", "_law_env", "_law_head"] ["_law_pool_here", "_law_env"] (defScope s__law_call) := ⟨rfl, rfl, rfl, by decide +kernel, rfl, by decide +kernel, by decide +kernel⟩
theorem ok__law_call (T : Txt K mg a) : FnOk P w K mg base CX0 5 a.f__law_call a.f__law_call_d ["_law_pool_here", "_law_env"] spLCall := by
  refine T.F__law_call.ok sc__law_call (fun vs H Q E h => ?_) (fun cdv A outer s H vs Q E hr h => ?_)
  · obtain ⟨p, l, env, a1, a2, a3, n, b, ns, ks, hs, rfl, _⟩ := h
    rfl
  obtain ⟨p, l, env, a1, a2, a3, n, b, ns, ks, hs, rfl, hP, hn, hE, hns, hne, hhs, q⟩ := h
  refine ⟨_, (pss_cons (ps_set (i := 2) sc__law_call.nd rfl (Or.inl rfl) (pe_ix ix_list (pe_ix ix_tup (pv 1) pe_int (fun _ _ => rfl)) (pe_call (ok__law_draw T) (hr.mono (by decide)) (by rfl) T.g__law_draw T.F__law_draw.kp T.b__law_draw .nil pass0 (pa_cons (pv 0) (pa_cons (pe_callB call_len_seq (by rfl) T.len PySem.boot_len (pa_cons (pe_ix ix_tup (pv 1) pe_int (fun _ _ => rfl)) pa_nil)) pa_nil))) (fun _ _ => rfl)))
    (pss_one (ps_ret (pe_tup (pa_cons (pe_ix ix_tup (pv 2) pe_int (fun _ _ => rfl)) (pa_cons (pe_call (ok__law_args T) (hr.mono (by decide)) (by rfl) T.g__law_args T.F__law_args.kp T.b__law_args .nil pass0 (pa_cons (pv 0) (pa_cons (pe_ix ix_tup (pv 2) pe_int (fun _ _ => rfl)) (pa_cons (pe_ix ix_tup (pv 1) pe_int (fun _ _ => rfl)) pa_nil)))) pa_nil)))))), ?_⟩
  obtain ⟨xs, h3, hD⟩ := hE.h3
  have hxl := hD.len
  rw [List.length_map] at hxl
  have hpos := pos_len hhs.ne
  have hhl := hhs.len
  refine ⟨_, rfl, env, _, _, _, rfl, rfl, .inl (.inl hE.env), atI_nat (j := 2) rfl, _, rfl, _, rfl, env, _, _, _, rfl, rfl, .inl (.inl hE.env), atI_nat (j := 2) rfl, a3, _, rfl, .inl (SqL.of h3), p, l, n, b, _, rfl, hP, by omega, by omega, by rw [hxl]; exact log_nat hpos (by omega), fun r1 H1 r10 r11 P1 f1 => ?_⟩
  have k1 : Keep p l H H1 := Keep.draw f1
  have E1 := hE.keep hP k1
  have tk1 : TK H H1 := TK.keep hP k1
  obtain ⟨x, hx, hxm⟩ := atI_ex (xs := xs) r10 r11
  obtain ⟨j, hj⟩ := List.mem_iff_getElem?.mp hxm
  obtain ⟨d, hd, hxd⟩ := (hD.mono tk1).get hj
  obtain ⟨hh, hhj, rfl⟩ := get_map hd
  obtain ⟨hnm, hps⟩ := hhs.nm hh (List.mem_of_getElem? hhj)
  obtain ⟨r, _, rfl, hr, _, _, rfl, rfl, u, _, rfl, hu, rfl⟩ := hxd
  refine ⟨a3, _, _, _, rfl, rfl, SqL.of (k1 _ _ h3 hE.o3.1 hE.o3.2), hx, ?_⟩
  dsimp only [gName]
  refine ⟨_, rfl, r, _, _, _, rfl, rfl, .inl (.inl hr), atI_nat (j := 0) rfl, _, rfl, _, rfl, r, _, _, _, rfl, rfl, .inl (.inl hr), atI_nat (j := 1) rfl, _, rfl, env, _, _, _, rfl, rfl, .inl (.inl E1.env), atI_nat (j := 0) rfl, p, l, a1, _, b, u, hh.2, ns, rfl, P1, by omega, hu, hps, E1.h1, hE.o1.1, hE.o1.2, hns, hne, fun as v2 H2 hao hv2 P2 k2 => ⟨(by show 2 ≤ sizeLine; decide), fun q3 n3 => ?_⟩⟩
  have s3 := same_upd (o := .tup [.str hh.1, v2]) n3
  exact q hh.1 as _ _ hnm hao ⟨q3, _, rfl, upd_same, _, _, rfl, rfl, v2, _, rfl, hv2.mono (TK.of s3), rfl⟩ ((P2.fresh n3).mono (by omega)) ((k1.trans k2).trans (Keep.of s3))
theorem sc__law_some : FnScope ["_law_pool_here", "_law_kinds"] ["_law_pool_here", "_law_kinds"] (defScope s__law_some) := ⟨rfl, rfl, rfl, by decide +kernel, rfl, by decide +kernel, by decide +kernel⟩
theorem ok__law_some (T : Txt K mg a) : FnOk P w K mg base CX0 3 a.f__law_some a.f__law_some_d ["_law_pool_here", "_law_kinds"] spSome := by
  refine T.F__law_some.ok sc__law_some (fun vs H Q E h => ?_) (fun cdv A outer s H vs Q E hr h => ?_)
  · obtain ⟨p, l, a, n, b, ks, rfl, _⟩ := h
    rfl
  obtain ⟨p, l, ad, n, b, ks, rfl, hP, hn, ha, hap, hal, hk, q⟩ := h
  refine ⟨_, (pss_one (ps_ret (pe_ix ix_list (pe_lst (pa_cons (pe_tup (pa_cons (pe_ix ix_list (pv 1) pe_int (fun _ _ => rfl)) pa_nil)) (pa_cons (pe_tup (pa_cons (pe_ix ix_list (pv 1) (pe_un un_neg pe_int) (fun _ _ => rfl)) pa_nil)) (pa_cons (pe_callTy call_tuple_of (by rfl) T.tuple (by decide +kernel) (pa_cons (pv 1) pa_nil)) (pa_cons (pe_callTy call_tuple_of (by rfl) T.tuple (by decide +kernel) (pa_cons (pe_revL (pv 1)) pa_nil)) pa_nil))))) (pe_call (ok__law_draw T) (hr.mono (by decide)) (by rfl) T.g__law_draw T.F__law_draw.kp T.b__law_draw .nil pass0 (pa_cons (pv 0) (pa_cons pe_int pa_nil))) (fun _ _ => rfl)))), ?_⟩
  have hkl := hk.ok.len
  obtain ⟨x, y, hx, hy, hxm, hym⟩ : ∃ x y, atI (ks.map V.str) 0 = some (.str x) ∧ atI (ks.map V.str) (-1) = some (.str y) ∧ x ∈ ks ∧ y ∈ ks := by
    match ks, hk.ne, hkl with
    | [x], _, _ => exact ⟨x, x, rfl, rfl, List.mem_cons_self, List.mem_cons_self⟩
    | [x, y], _, _ => exact ⟨x, y, rfl, rfl, List.mem_cons_self, List.mem_cons_of_mem _ List.mem_cons_self⟩
    | _ :: _ :: _ :: _, _, h => simp at h
  refine ⟨_, rfl, ad, _, _, _, rfl, rfl, SqL.of ha, hx, (by show 1 ≤ sizeLine; decide), fun t1 n1 => ?_⟩
  have s1 := same_upd (o := .tup [.str x]) n1
  have hx1 : (upd H t1 (.tup [.str x])) t1 = some (.tup [.str x]) := upd_same
  have P1 := hP.fresh (o := .tup [.str x]) n1
  generalize upd H t1 (.tup [.str x]) = H1 at s1 hx1 P1
  refine ⟨_, rfl, 1, rfl, ad, _, _, _, rfl, rfl, SqL.of (s1 _ _ ha), hy, (by show 1 ≤ sizeLine; decide), fun t2 n2 => ?_⟩
  have s2 := same_upd (o := .tup [.str y]) n2
  have hx2 : (upd H1 t2 (.tup [.str y])) t2 = some (.tup [.str y]) := upd_same
  have P2 := P1.fresh (o := .tup [.str y]) n2
  generalize upd H1 t2 (.tup [.str y]) = H2 at s2 hx2 P2
  refine ⟨_, rfl, ad, _, rfl, .inl ⟨SqL.of ((s1.trans s2) _ _ ha), fun t3 n3 => ?_⟩⟩
  have s3 := same_upd (o := .tup (ks.map V.str)) n3
  have hx3 : (upd H2 t3 (.tup (ks.map V.str))) t3 = some (.tup (ks.map V.str)) := upd_same
  have P3 := P2.fresh (o := .tup (ks.map V.str)) n3
  generalize upd H2 t3 (.tup (ks.map V.str)) = H3 at s3 hx3 P3
  refine ⟨_, rfl, ad, _, rfl, SqL.of (((s1.trans s2).trans s3) _ _ ha), fun t4 n4 => ?_⟩
  have s4 := same_upd (o := .lst (ks.map V.str).reverse) n4
  have hx4 : (upd H3 t4 (.lst (ks.map V.str).reverse)) t4 = some (.lst (ks.map V.str).reverse) := upd_same
  have P4 := P3.fresh (o := .lst (ks.map V.str).reverse) n4
  generalize upd H3 t4 (.lst (ks.map V.str).reverse) = H4 at s4 hx4 P4
  refine ⟨t4, _, rfl, .inl ⟨SqL.of hx4, fun t5 n5 => ?_⟩⟩
  have s5 := same_upd (o := .tup (ks.map V.str).reverse) n5
  have hx5 : (upd H4 t5 (.tup (ks.map V.str).reverse)) t5 = some (.tup (ks.map V.str).reverse) := upd_same
  have P5 := P4.fresh (o := .tup (ks.map V.str).reverse) n5
  generalize upd H4 t5 (.tup (ks.map V.str).reverse) = H5 at s5 hx5 P5
  refine ⟨(by show 4 ≤ sizeLine; decide), fun q6 n6 => ?_⟩
  have s6 := same_upd (o := .lst [.ref t1, .ref t2, .ref t3, .ref t5]) n6
  have hx6 : (upd H5 q6 (.lst [.ref t1, .ref t2, .ref t3, .ref t5])) q6 = some (.lst [.ref t1, .ref t2, .ref t3, .ref t5]) := upd_same
  have P6 := P5.fresh (o := .lst [.ref t1, .ref t2, .ref t3, .ref t5]) n6
  have h6o := P5.off n6
  generalize upd H5 q6 (.lst [.ref t1, .ref t2, .ref t3, .ref t5]) = H6 at s6 hx6 P6
  refine ⟨_, rfl, p, l, n, b, 4, rfl, P6, by omega, by decide, log_small (by decide) (by decide), fun r H7 r0 r1 P7 f7 => ?_⟩
  have k7 : Keep p l H6 H7 := Keep.draw f7
  have k : Keep p l H H7 := (Keep.of (((((s1.trans s2).trans s3).trans s4).trans s5).trans s6)).trans k7
  have tk7 := TK.keep P6 k7
  obtain ⟨u, hu, hum⟩ := atI_ex (xs := [V.ref t1, .ref t2, .ref t3, .ref t5]) (r := r) r0 r1
  refine ⟨q6, _, _, _, rfl, rfl, SqL.of (k7 _ _ hx6 h6o.1 h6o.2), hu, ?_⟩
  simp only [List.mem_cons, List.not_mem_nil, or_false] at hum
  rcases hum with rfl | rfl | rfl | rfl
  · exact q [x] _ _ (List.cons_ne_nil _ _) ⟨fun v hv => by rw [List.mem_singleton.mp hv]; exact hk.ok.nm x hxm, (by show 1 ≤ 2; decide)⟩ (Dv.of_strs (tk7 _ _ (((((s2.trans s3).trans s4).trans s5).trans s6) _ _ hx1))) P7 k
  · exact q [y] _ _ (List.cons_ne_nil _ _) ⟨fun v hv => by rw [List.mem_singleton.mp hv]; exact hk.ok.nm y hym, (by show 1 ≤ 2; decide)⟩ (Dv.of_strs (tk7 _ _ ((((s3.trans s4).trans s5).trans s6) _ _ hx2))) P7 k
  · exact q ks _ _ hk.ne hk.ok (Dv.of_strs (tk7 _ _ (((s4.trans s5).trans s6) _ _ hx3))) P7 k
  · refine q ks.reverse _ _ (by rw [ne_eq, List.reverse_eq_nil_iff]; exact hk.ne) ⟨fun v hv => hk.ok.nm v (List.mem_reverse.mp hv), by rw [List.length_reverse]; exact hkl⟩ (Dv.of_strs ?_) P7 k
    rw [List.map_reverse]
    exact tk7 _ _ (s6 _ _ hx5)
end
end K3
namespace K3
open PySem PySem.Spec PyProof.Rows L2 TL
/-! ### rules, and data as the library knows it -/
theorem ite_int {c : TT} {σ : L2.St} {H : Hp} {Q : VK} {x y : Int} {b : Bool} (h : Ans c σ H b) (q : Q (.int (if b = true then x else y)) H) : tIf c (tC (.int x)) (tC (.int y)) σ H Q := h _ (by
  cases b with
  | true => exact q
  | false => exact q)
theorem ansH_and {t u : TT} {σ : L2.St} {H : Hp} {b : Bool} {PV : Hp → Prop} (h1 : Ans t σ H true) (h2 : AnsH u σ H b PV) : AnsH (tAnd t u) σ H b PV := fun Q q => h1 _ (by
  show (if true = true then u σ H Q else Q false H)
  rw [if_pos rfl]
  exact h2 Q q)
theorem ansH_or {t u : TT} {σ : L2.St} {H : Hp} {b : Bool} {PV : Hp → Prop} (h1 : Ans t σ H false) (h2 : AnsH u σ H b PV) : AnsH (tOr t u) σ H b PV := fun Q q => h1 _ (by
  show (if false = true then Q true H else u σ H Q)
  rw [if_neg Bool.false_ne_true]
  exact h2 Q q)
mutual
def pd : D → PyData
  | .non => .none
  | .bl b => .bool b
  | .int i => .int i
  | .str s => .str s
  | .tup l => .tuple (pdl l)
def pdl : DL → List PyData
  | .nil => []
  | .cons d l => pd d :: pdl l
end
mutual
theorem Dv.dp {K : PySem.W.Frag} {H : Hp} {v : V} : ∀ {d : D}, Dv H v d → L2.Dp K H v (pd d)
  | .non, h => by rw [show v = _ from h]; exact .non
  | .bl b, h => by rw [show v = _ from h]; exact .bl b
  | .int i, h => by rw [show v = _ from h]; exact .int i
  | .str s, h => by rw [show v = _ from h]; exact .str s
  | .tup l, ⟨p, xs, e, h1, h2⟩ => by rw [e]; exact .tup (.inl (.inl h1)) (Dvs.dp h2)
theorem Dvs.dp {K : PySem.W.Frag} {H : Hp} {xs : List V} : ∀ {l : DL}, Dvs H xs l → L2.DpAll K H xs (pdl l)
  | .nil, h => by rw [show xs = _ from h]; exact .nil
  | .cons d l, ⟨x, r, e, h1, h2⟩ => by rw [e]; exact .cons (Dv.dp h1) (Dvs.dp h2)
end
theorem pdl_of : ∀ l : List D, pdl (DL.of l) = l.map pd
  | [] => rfl
  | d :: l => by show pd d :: pdl (DL.of l) = _; rw [pdl_of l]; rfl
theorem NameOk.strOk {v : Str} (h : NameOk v) : PyData.strOk v = true := by
  obtain ⟨⟨c, ds, e, hc, _, hd⟩, _⟩ := h
  have hlet : ∀ c ∈ tl LET, c < 0x110000 := by decide +kernel
  unfold PyData.strOk
  rw [← Array.all_toList, List.all_eq_true]
  intro x hx
  have hx' : x ∈ tl v := hx
  rw [e] at hx'
  rcases List.mem_cons.mp hx' with rfl | hx'
  · exact decide_eq_true (hlet _ (of_decide_eq_true hc))
  · have := hd x hx'
    exact decide_eq_true (by omega)
theorem canAll : ∀ {ds : List PyData}, (∀ d ∈ ds, d.canLay0 = true) → PyData.canLayAll0 ds = true
  | [], _ => rfl
  | d :: r, h => by
    show (d.canLay0 && PyData.canLayAll0 r) = true
    rw [h d List.mem_cons_self, canAll fun x hx => h x (List.mem_cons_of_mem _ hx)]
    rfl
theorem depAll {m : Nat} : ∀ {ds : List PyData}, (∀ d ∈ ds, d.depth ≤ m) → PyData.depthAll ds ≤ m
  | [], _ => Nat.zero_le _
  | d :: r, h => by
    show max d.depth (PyData.depthAll r) ≤ m
    have h1 := h d List.mem_cons_self
    have h2 := depAll (ds := r) fun x hx => h x (List.mem_cons_of_mem _ hx)
    omega
theorem params_lay {ps : List (Str × Bool)} (h : PsOk ps) : (PyData.tuple (pdl (DL.of (ps.map dPa)))).canLay0 = true ∧ (PyData.tuple (pdl (DL.of (ps.map dPa)))).depth ≤ 2 := by
  rw [pdl_of]
  constructor
  · refine canAll fun d hd => ?_
    obtain ⟨x, hx, rfl⟩ := List.mem_map.mp hd
    obtain ⟨p, hp, rfl⟩ := List.mem_map.mp hx
    show (PyData.strOk p.1 && (true && true)) = true
    rw [(h.nm p hp).strOk]
    rfl
  · show PyData.depthAll _ + 1 ≤ 2
    refine Nat.succ_le_succ (depAll fun d hd => ?_)
    obtain ⟨x, hx, rfl⟩ := List.mem_map.mp hd
    obtain ⟨p, hp, rfl⟩ := List.mem_map.mp hx
    exact Nat.le_refl _
theorem heads_lay {hs : List (Str × List (Str × Bool))} (h : HsOk hs) : SeqAt.shaped (.list (pdl (DL.of (hs.map dHead)))) = true := by
  rw [pdl_of]
  unfold SeqAt.shaped
  have h1 : (PyData.list ((hs.map dHead).map pd)).canLay0 = true := by
    refine canAll fun d hd => ?_
    obtain ⟨x, hx, rfl⟩ := List.mem_map.mp hd
    obtain ⟨f, hf, rfl⟩ := List.mem_map.mp hx
    obtain ⟨a1, a2⟩ := h.nm f hf
    show (PyData.strOk f.1 && ((PyData.tuple (pdl (DL.of (f.2.map dPa)))).canLay0 && true)) = true
    rw [a1.strOk, (params_lay a2).1]
    rfl
  have h2 : (PyData.list ((hs.map dHead).map pd)).depth ≤ 4 := by
    show PyData.depthAll _ + 1 ≤ 4
    refine Nat.succ_le_succ (depAll fun d hd => ?_)
    obtain ⟨x, hx, rfl⟩ := List.mem_map.mp hd
    obtain ⟨f, hf, rfl⟩ := List.mem_map.mp hx
    obtain ⟨a1, a2⟩ := h.nm f hf
    have := (params_lay a2).2
    show max 0 (max (PyData.tuple (pdl (DL.of (f.2.map dPa)))).depth 0) + 1 ≤ 3
    omega
  rw [h1, decide_eq_true (Nat.le_trans h2 (by decide))]
  rfl
theorem heads_ne {hs : List (Str × List (Str × Bool))} (h : HsOk hs) : PyData.eqv (.list (pdl (DL.of (hs.map dHead)))) (.list []) = false := by
  cases hs with
  | nil => exact absurd rfl h.ne
  | cons x r =>
    show PyData.eqvAll _ [] = false
    rfl
theorem cut_take {xs : List V} {m : Nat} (h : m ≤ xs.length) : cutV xs none (some ((m : Nat) : Int)) = xs.take m := by
  unfold cutV
  rw [HT.sIx_nat, HT.sIx_none, Nat.min_eq_left h]
  rfl
theorem cut_take2 {xs : List V} {m : Nat} : cutV xs none (some ((m : Nat) : Int)) = xs.take m := by
  unfold cutV
  rw [HT.sIx_nat, HT.sIx_none]
  show xs.take (min m xs.length - 0) = xs.take m
  rw [Nat.sub_zero, List.take_eq_take_iff]
  omega
theorem cut_mid {xs : List V} {m k : Nat} (h : m ≤ k) (h2 : m ≤ xs.length) : cutV xs (some ((m : Nat) : Int)) (some ((k : Nat) : Int)) = (xs.drop m).take (k - m) := by
  unfold cutV
  rw [HT.sIx_nat, HT.sIx_nat, Nat.min_eq_left h2, List.take_eq_take_iff, List.length_drop]
  omega
/-! ### statements and blocks -/
def lvD : Nat → Bool → Nat
  | 0, _ => 0
  | 1, true => 1
  | 1, false => 2
  | _ + 2, _ => 3
def isLv (d : Nat) : Bool → Prop
  | true => d ≤ 1
  | false => d ≤ 2
structure AllOk (ns ks : List Str) (hs : List (Str × List (Str × Bool))) : Prop where
  nOk : NmsOk ns
  nNe : ns ≠ []
  kOk : KsOk ks
  hOk : HsOk hs
def spPiece (m : Nat) : Sp := fun vs H Q _ => ∃ (p l env a1 a2 a3 : Addr) (n : Int) (b d : Nat) (last : Bool) (ns ks : List Str) (hs : List (Str × List (Str × Bool))), vs = [.ref p, .ref env, .int d, .bl last] ∧ d ≤ 2 ∧ lvD d last ≤ m ∧ PoolAt H p l n (b : Nat) ∧ n + 60 * (b : Int) + 200 * (m : Int) ≤ 1000000000000 ∧ EnvAt H p l env a1 a2 a3 ns ks hs ∧ AllOk ns ks hs ∧
  ∀ (s : TS) (v : V) (H' : Hp) (b' : Nat), s.Ok → s.ht ≤ lvD d last → Dv H' v (dS s) → b' ≤ b → s.sz + b' = b + 1 → PoolAt H' p l (n + 60 + 60 * ((b : Int) - b')) (b' : Nat) → Keep p l H H' → Q v H'
def spBlkD : Nat → Sp
  | 0 => fun _ _ _ _ => False
  | m + 1 => fun vs H Q _ => ∃ (p l env a1 a2 a3 : Addr) (n : Int) (b d : Nat) (last : Bool) (ns ks : List Str) (hs : List (Str × List (Str × Bool))), vs = [.ref p, .ref env, .int d, .bl last] ∧ d ≤ 2 ∧ lvD d last ≤ m ∧ PoolAt H p l n (b : Nat) ∧ n + 60 * (b : Int) + 200 * (m : Int) + 100 ≤ 1000000000000 ∧ EnvAt H p l env a1 a2 a3 ns ks hs ∧ AllOk ns ks hs ∧
  ∀ (x : TB) (v : V) (H' : Hp) (b' : Nat), x.Ok → x.ht ≤ lvD d last → x.L.length ≤ 3 → Dv H' v (.tup (dB x)) → b' ≤ b → x.sz + b' = b → PoolAt H' p l (n + 1 + 60 * ((b : Int) - b')) (b' : Nat) → Keep p l H H' → Q v H'
end K3
namespace K3
open PySem PySem.Spec PyProof.Rows L2 TL
theorem TB.ht_of : ∀ {l : List TS} {m : Nat}, (∀ s ∈ l, s.ht ≤ m) → (TB.of l).ht ≤ m
  | [], _, _ => Nat.zero_le _
  | s :: r, m, h => by
    show max s.ht (TB.of r).ht ≤ m
    have h1 := h s List.mem_cons_self
    have h2 := TB.ht_of (l := r) fun x hx => h x (List.mem_cons_of_mem _ hx)
    omega
theorem TB.ok_of : ∀ {l : List TS}, (∀ s ∈ l, s.Ok) → (TB.of l).Ok
  | [], _ => trivial
  | s :: r, h => ⟨h s List.mem_cons_self, TB.ok_of fun x hx => h x (List.mem_cons_of_mem _ hx)⟩
theorem TB.sz_of : ∀ (l : List TS), (TB.of l).sz = (l.map TS.sz).sum := fun l => by rw [TB.sz_L, TB.L_of]
section
variable {P : Program} {w : World} {K : PySem.W.Frag} {mg : Str → Option Value} {base : Heap} {a : Ads}
theorem sc__law_block : FnScope ["_law_pool_here", "_law_env", "_law_depth", "_law_is_last", "_law_found", "_law_k"] ["_law_pool_here", "_law_env", "_law_depth", "_law_is_last"] (defScope s__law_block) := ⟨rfl, rfl, rfl, by decide +kernel, rfl, by decide +kernel, by decide +kernel⟩
theorem ok__law_block1 (T : Txt K mg a) (m k : Nat) (hk : 2 ≤ k) (ihp : FnOk P w K mg base CX0 k a.f__law_piece a.f__law_piece_d ["_law_pool_here", "_law_env", "_law_depth", "_law_is_last"] (spPiece m)) : FnOk P w K mg base CX0 (k + 1) a.f__law_block a.f__law_block_d ["_law_pool_here", "_law_env", "_law_depth", "_law_is_last"] (spBlkD (m + 1)) := by
  refine T.F__law_block.ok sc__law_block (fun vs H Q E h => ?_) (fun cdv A outer s H vs Q E hr h => ?_)
  · obtain ⟨p, l, env, a1, a2, a3, n, b, d, last, ns, ks, hs, rfl, _⟩ := h
    rfl
  obtain ⟨p, l, env, a1, a2, a3, n, b, d, last, ns, ks, hs, rfl, hd, hlv, hP, hn, hE, hA, q⟩ := h
  refine ⟨_, (pss_cons (ps_set (i := 4) sc__law_block.nd rfl (Or.inl rfl) (pe_lst pa_nil))
    (pss_cons (ps_for PassesOwn.never rfl (pi_range1 (by rfl) T.range (pa_cons (pe_call (ok__law_draw T) (hr.mono (by omega)) (by rfl) T.g__law_draw T.F__law_draw.kp T.b__law_draw .nil pass0 (pa_cons (pv 0) (pa_cons pe_int pa_nil))) pa_nil)) (pg_name (i := 5) sc__law_block.nd rfl (Or.inl rfl))
      (pss_one (ps_if (pt_cmpR op_gt (pe_ix ix_list (pv 0) pe_int (fun _ _ => rfl)) pe_int (nomark _))
        (pss_cons (ps_asg (pe_op op_sub (pe_ix ix_list (pv 0) pe_int (fun _ _ => rfl)) pe_int) (pg_sub (pv 0) pe_int set_list))
        (pss_one (ps_expr (pe_bm PySem.F.plainAttrs_list PySem.F.slot_list_append PySem.F.type_list_append mt_append (pv 4) (pa_cons (pe_call ihp hr (by rfl) T.g__law_piece T.F__law_piece.kp T.b__law_piece .nil pass0 (pa_cons (pv 0) (pa_cons (pv 1) (pa_cons (pv 2) (pa_cons (pv 3) pa_nil))))) pa_nil)))))
        pss_nil)))
    (pss_one (ps_ret (pe_callTy call_tuple_of (by rfl) T.tuple (by decide +kernel) (pa_cons (pv 4) pa_nil)))))), ?_⟩
  refine ⟨Nat.zero_le _, fun L nL => ?_⟩
  have hLo := hP.off nL
  have P1 := hP.fresh (o := .lst []) nL
  have k1 : Keep p l H (upd H L (.lst [])) := Keep.of (same_upd nL)
  have hL1 : (upd H L (.lst [])) L = some (.lst []) := upd_same
  dsimp only [gName]
  generalize upd H L (.lst []) = H1 at P1 k1 hL1
  refine st_seq ⟨_, rfl, p, l, n, _, 4, rfl, P1, by omega, by decide, log_small (by decide) (by decide), fun r H2 r0 r1 P2 f2 => ⟨r, rfl, by omega, by omega, ?_⟩⟩
  have k2 : Keep p l H H2 := k1.trans (Keep.draw f2)
  have hL2 := (Keep.draw f2) _ _ hL1 hLo.1 hLo.2
  refine for_range (lo := 0) (n := r.toNat) (fun i σ H' => ∃ (v5 : Option V) (ts : List TS) (ys : List V) (b' : Nat), σ = [some (.ref p), some (.ref env), some (.int d), some (.bl last), some (.ref L), v5] ∧ b' ≤ b ∧ PoolAt H' p l (n + 1 + 60 * ((b : Int) - b')) (b' : Nat) ∧ Keep p l H H' ∧ H' L = some (.lst ys) ∧ Dvs H' ys (DL.of (ts.map dS)) ∧ ts.length ≤ i ∧ (∀ s ∈ ts, s.Ok ∧ s.ht ≤ lvD d last) ∧ (ts.map TS.sz).sum + b' = b)
    ⟨none, [], [], b, rfl, Nat.le_refl _, P2.mono (by omega), k2, hL2, rfl, Nat.le_refl _, (fun s h => by cases h), (by show 0 + b = b; omega)⟩ ?_ ?_
  · rintro i σ H3 hi ⟨v5, ts, ys, b', rfl, hb, P3, k3, hL3, hD3, htl, hok, hsz⟩
    have P3' := P3
    obtain ⟨ne, cs, ix, cnt, seed, ph, h1, h2, hr⟩ := P3
    have hyl := hD3.len
    rw [List.length_map] at hyl
    dsimp only [gName]
    refine st_ite (b := decide ((b' : Int) > 0)) (fun Q q => ⟨_, rfl, p, _, _, _, rfl, rfl, SqL.of h1, atI_nat (j := 5) rfl, _, _, rfl, rfl, _, rfl, q⟩) (fun e => ?_) (fun e => ?_)
    · have hb0 : 0 < b' := by
        have := of_decide_eq_true e
        omega
      obtain ⟨c, rfl⟩ : ∃ c, b' = c + 1 := ⟨b' - 1, by omega⟩
      have ec : ((c + 1 : Nat) : Int) - 1 = (c : Int) := by omega
      refine ⟨_, rfl, p, _, _, _, rfl, rfl, SqL.of h1, atI_nat (j := 5) rfl, _, _, rfl, rfl, _, rfl, p, _, _, 5, rfl, rfl, h1, rfl, ?_⟩
      have P4 : PoolAt (upd H3 p (.lst [.ref l, .int ix, .int cnt, .int seed, .int ph, .int (((c + 1 : Nat) : Int) - 1)])) p l (n + 1 + 60 * ((b : Int) - ((c + 1 : Nat) : Int))) (c : Nat) := ⟨ne, cs, ix, cnt, seed, ph, by rw [upd_same, ec], by rw [upd_ne ne.symm]; exact h2, hr⟩
      have k4 : Keep p l H3 (upd H3 p (.lst [.ref l, .int ix, .int cnt, .int seed, .int ph, .int (((c + 1 : Nat) : Int) - 1)])) := fun b x e n m => by
        rw [upd_ne n]
        exact e
      dsimp only [List.set]
      generalize upd H3 p (.lst [.ref l, .int ix, .int cnt, .int seed, .int ph, .int (((c + 1 : Nat) : Int) - 1)]) = H4 at P4 k4
      have hL4 := k4 _ _ hL3 hLo.1 hLo.2
      refine ⟨_, rfl, .inl ⟨rfl, _, SqL.of hL4⟩, _, rfl, _, rfl, _, rfl, _, rfl, p, l, env, a1, a2, a3, _, c, d, last, ns, ks, hs, rfl, hd, hlv, P4, by omega, hE.keep hP (k3.trans k4), hA, fun s v H5 b2 sok sht sD hb2 ssz P5 k5 => ?_⟩
      have hL5 := k5 _ _ hL4 hLo.1 hLo.2
      have tk := (TK.keep P3' (k4.trans k5)).trans (TK.upd (x := .lst (ys ++ [v])) hL5 (fun _ z => by cases z))
      refine ⟨L, _, _, rfl, rfl, hL5, bigLine (by omega), ?_⟩
      refine ⟨_, ts ++ [s], ys ++ [v], b2, rfl, by omega, (P5.put hLo.1 hLo.2).mono (by omega), ((k3.trans k4).trans k5).mut nL, upd_same, ?_, by rw [List.length_append]; show ts.length + 1 ≤ i + 1; omega, ?_, ?_⟩
      · rw [List.map_append]
        exact Dvs.app (sD.mono (TK.upd hL5 (fun _ z => by cases z))) (hD3.mono tk)
      · intro y hy
        rcases List.mem_append.mp hy with hy | hy
        · exact hok y hy
        · rw [List.mem_singleton.mp hy]
          exact ⟨sok, sht⟩
      · rw [List.map_append, List.sum_append]
        show _ + (s.sz + 0) + b2 = b
        omega
    · exact ⟨_, ts, ys, b', rfl, hb, P3', k3, hL3, hD3, by omega, hok, hsz⟩
  · rintro σ H3 ⟨v5, ts, ys, b', rfl, hb, P3, k3, hL3, hD3, htl, hok, hsz⟩
    refine ⟨_, rfl, L, _, rfl, .inl ⟨SqL.of hL3, fun p5 n5 => ?_⟩⟩
    have s5 := same_upd (o := .tup ys) n5
    refine q (TB.of ts) _ _ b' (TB.ok_of fun s hs => (hok s hs).1) (TB.ht_of fun s hs => (hok s hs).2) (by rw [TB.L_of]; omega) ⟨p5, _, rfl, upd_same, ?_⟩ hb (by rw [TB.sz_of]; exact hsz) (P3.fresh n5) (k3.trans (Keep.of s5))
    rw [dB_of, TB.L_of]
    exact hD3.mono (TK.of s5)
end
end K3
namespace K3
open PySem PySem.Spec PyProof.Rows L2 TL
theorem ns_nonempty_take {ns : List Str} {r : Nat} (h : ns ≠ []) : ns.take (r + 1) ≠ [] := by
  cases ns with
  | nil => exact absurd rfl h
  | cons _ _ => exact List.cons_ne_nil _ _
theorem NsOk.take {ns : List Str} (h : NsOk ns) (k : Nat) : NsOk (ns.take k) := ⟨fun v hv => h.nm v (List.mem_of_mem_take hv), by
  have := h.len
  rw [List.length_take]
  omega⟩
theorem TH.ht_of : ∀ {l : List (List Str × TB)} {m : Nat}, (∀ s ∈ l, s.2.ht ≤ m) → (TH.of l).ht ≤ m
  | [], _, _ => Nat.zero_le _
  | s :: r, m, h => by
    show max s.2.ht (TH.of r).ht ≤ m
    have h1 := h s List.mem_cons_self
    have h2 := TH.ht_of (l := r) fun x hx => h x (List.mem_cons_of_mem _ hx)
    omega
theorem TH.ok_of : ∀ {l : List (List Str × TB)}, (∀ s ∈ l, s.1 ≠ [] ∧ NsOk s.1 ∧ s.2.Ok) → (TH.of l).Ok
  | [], _ => trivial
  | s :: r, h => ⟨(h s List.mem_cons_self).1, (h s List.mem_cons_self).2.1, (h s List.mem_cons_self).2.2, TH.ok_of fun x hx => h x (List.mem_cons_of_mem _ hx)⟩
theorem lvA (d : Nat) (last : Bool) (h : d + 1 ≤ 2) : lvD d last + 1 ≤ lvD (d + 1) last := by
  match d, last, h with
  | 0, true, _ => exact Nat.le_refl _
  | 0, false, _ => show 0 + 1 ≤ 2; omega
  | 1, true, _ => show 1 + 1 ≤ 3; omega
  | 1, false, _ => exact Nat.le_refl _
theorem lvB (d : Nat) (h : d + 1 ≤ 2) : lvD 1 true + 1 ≤ lvD (d + 1) false := by
  match d, h with
  | 0, _ => exact Nat.le_refl _
  | 1, _ => show 1 + 1 ≤ 3; omega
theorem hd_dv {H : Hp} {q : Addr} {u v : V} {zs : List Str} {x : TB} (hq : H q = some (.tup [u, v])) (hu : Dv H u (dNs zs)) (hv : Dv H v (.tup (dB x))) : Dv H (.ref q) (dHd (zs, x)) := ⟨q, _, rfl, hq, u, _, rfl, hu, v, _, rfl, hv, rfl⟩
section
variable {P : Program} {w : World} {K : PySem.W.Frag} {mg : Str → Option Value} {base : Heap} {a : Ads}
theorem sc__law_piece : FnScope ["_law_pool_here", "_law_env", "_law_depth", "_law_is_last", "_law_choice", "_law_target", "_law_block_here", "_law_first", "_law_names_here", "_law_kinds", "_law_heads_here", "_law_many", "_law_handlers", "_law_k"] ["_law_pool_here", "_law_env", "_law_depth", "_law_is_last"] (defScope s__law_piece) := ⟨rfl, rfl, rfl, by decide +kernel, rfl, by decide +kernel, by decide +kernel⟩
theorem ok__law_piece1 (T : Txt K mg a) (m k : Nat) (hk : 6 ≤ k) (ihb : FnOk P w K mg base CX0 k a.f__law_block a.f__law_block_d ["_law_pool_here", "_law_env", "_law_depth", "_law_is_last"] (spBlkD m)) : FnOk P w K mg base CX0 (k + 1) a.f__law_piece a.f__law_piece_d ["_law_pool_here", "_law_env", "_law_depth", "_law_is_last"] (spPiece m) := by
  refine T.F__law_piece.ok sc__law_piece (fun vs H Q E h => ?_) (fun cdv A outer s H vs Q E hr h => ?_)
  · obtain ⟨p, l, env, a1, a2, a3, n, b, d, last, ns, ks, hs, rfl, _⟩ := h
    rfl
  obtain ⟨p, l, env, a1, a2, a3, n, b, d, last, ns, ks, hs, rfl, hd, hlv, hP, hn, hE, hA, q⟩ := h
  refine ⟨_, (pss_cons (ps_asg (pv 1) (pg_tup (by rfl) (pgs_cons (pg_name (i := 8) sc__law_piece.nd rfl (Or.inl rfl)) (pgs_cons (pg_name (i := 9) sc__law_piece.nd rfl (Or.inr rfl)) (pgs_cons (pg_name (i := 10) sc__law_piece.nd rfl (Or.inl rfl)) pgs_nil)))))
    (pss_cons (ps_set (i := 4) sc__law_piece.nd rfl (Or.inl rfl) (pe_call (ok__law_draw T) (hr.mono (by omega)) (by rfl) T.g__law_draw T.F__law_draw.kp T.b__law_draw .nil pass0 (pa_cons (pv 0) (pa_cons (pe_ifExp (pt_cmpR op_gt (pv 2) pe_int (nomark _)) pe_int pe_int) pa_nil))))
    (pss_cons (ps_set (i := 5) sc__law_piece.nd rfl (Or.inl rfl) (pe_ix ix_list (pv 8) (pe_call (ok__law_draw T) (hr.mono (by omega)) (by rfl) T.g__law_draw T.F__law_draw.kp T.b__law_draw .nil pass0 (pa_cons (pv 0) (pa_cons (pe_callB call_len_seq (by rfl) T.len PySem.boot_len (pa_cons (pv 8) pa_nil)) pa_nil))) (fun _ _ => rfl)))
    (pss_cons (ps_if (pt_cmpR op_lt (pv 4) pe_int (nomark _))
      (pss_one (ps_ret (pe_tup (pa_cons pe_str (pa_cons (pv 5) (pa_cons (pe_call (ok__law_expression T) (hr.mono (by omega)) (by rfl) T.g__law_expression T.F__law_expression.kp T.b__law_expression .nil pass0 (pa_cons (pv 0) (pa_cons (pv 8) (pa_cons pe_int pa_nil)))) pa_nil))))))
      pss_nil)
    (pss_cons (ps_if (pt_cmpR op_lt (pv 4) pe_int (nomark _))
      (pss_one (ps_ret (pe_ifExp (pt_cmpR op_eq (pv 4) pe_int (nomark _)) (pe_tup (pa_cons pe_str (pa_cons (pe_ix ix_list (pv 9) (pe_call (ok__law_draw T) (hr.mono (by omega)) (by rfl) T.g__law_draw T.F__law_draw.kp T.b__law_draw .nil pass0 (pa_cons (pv 0) (pa_cons (pe_callB call_len_seq (by rfl) T.len PySem.boot_len (pa_cons (pv 9) pa_nil)) pa_nil))) (fun _ _ => rfl)) pa_nil))) (pe_tup (pa_cons pe_str (pa_cons (pv 5) pa_nil))))))
      pss_nil)
    (pss_cons (ps_if (pt_cmpR op_lt (pv 4) pe_int (nomark _))
      (pss_one (ps_ret (pe_tup (pa_cons pe_str (pa_cons (pe_callTy call_tuple_of (by rfl) T.tuple (by decide +kernel) (pa_cons (pe_slice sl_list (pv 9) po_none (po_some (pe_op op_add pe_int (pe_call (ok__law_draw T) (hr.mono (by omega)) (by rfl) T.g__law_draw T.F__law_draw.kp T.b__law_draw .nil pass0 (pa_cons (pv 0) (pa_cons (pe_callB call_len_seq (by rfl) T.len PySem.boot_len (pa_cons (pv 9) pa_nil)) pa_nil)))))) pa_nil)) pa_nil)))))
      pss_nil)
    (pss_cons (ps_if (PW.pt (pw_and (pt_cmpR op_lt (pv 4) pe_int (nomark _)) (pw_and1 (pt_cmpR (op_neD hr.units) (pv 10) (pe_lst pa_nil) (nomark _)))))
      (pss_one (ps_ret (pe_op op_catT (pe_tup (pa_cons pe_str (pa_cons (pe_ix ix_list (pe_lst (pa_cons pe_non (pa_cons (pv 5) pa_nil))) (pe_call (ok__law_draw T) (hr.mono (by omega)) (by rfl) T.g__law_draw T.F__law_draw.kp T.b__law_draw .nil pass0 (pa_cons (pv 0) (pa_cons pe_int pa_nil))) (fun _ _ => rfl)) pa_nil))) (pe_call (ok__law_call T) (hr.mono (by omega)) (by rfl) T.g__law_call T.F__law_call.kp T.b__law_call .nil pass0 (pa_cons (pv 0) (pa_cons (pv 1) pa_nil))))))
      pss_nil)
    (pss_cons (ps_if (pt_cmpR op_lt (pv 4) pe_int (nomark _))
      (pss_one (ps_ret (pe_ifExp (pt_val (pv 3)) (pe_tup (pa_cons pe_str (pa_cons (pv 5) pa_nil))) (pe_tup (pa_cons pe_str (pa_cons (pe_call (ok__law_expression T) (hr.mono (by omega)) (by rfl) T.g__law_expression T.F__law_expression.kp T.b__law_expression .nil pass0 (pa_cons (pv 0) (pa_cons (pv 8) (pa_cons pe_int pa_nil)))) pa_nil))))))
      pss_nil)
    (pss_cons (ps_set (i := 6) sc__law_piece.nd rfl (Or.inl rfl) (pe_call ihb hr (by rfl) T.g__law_block T.F__law_block.kp T.b__law_block .nil pass0 (pa_cons (pv 0) (pa_cons (pv 1) (pa_cons (pe_op op_sub (pv 2) pe_int) (pa_cons (pv 3) pa_nil))))))
    (pss_cons (ps_if (PW.pt (pw_or (pt_cmpR op_lt (pv 4) pe_int (nomark _)) (pw_or1 (pt_val (pv 3)))))
      (pss_one (ps_ret (pe_tup (pa_cons pe_str (pa_cons (pv 6) (pa_cons (pe_call ihb hr (by rfl) T.g__law_block T.F__law_block.kp T.b__law_block .nil pass0 (pa_cons (pv 0) (pa_cons (pv 1) (pa_cons (pe_op op_sub (pv 2) pe_int) (pa_cons (pv 3) pa_nil))))) pa_nil))))))
      pss_nil)
    (pss_cons (ps_if (pt_cmpR op_lt (pv 4) pe_int (nomark _))
      (pss_one (ps_ret (pe_tup (pa_cons pe_str (pa_cons (pv 6) pa_nil)))))
      pss_nil)
    (pss_cons (ps_if (pt_cmpR op_lt (pv 4) pe_int (nomark _))
      (pss_cons (ps_set (i := 11) sc__law_piece.nd rfl (Or.inl rfl) (pe_call (ok__law_draw T) (hr.mono (by omega)) (by rfl) T.g__law_draw T.F__law_draw.kp T.b__law_draw .nil pass0 (pa_cons (pv 0) (pa_cons pe_int pa_nil))))
      (pss_cons (ps_setLc (i := 12) (own := [("_law_k", 13)]) (g := gName 13) (tt := tYes) (by rfl) sc__law_piece.nd rfl rfl (sw_true rfl rfl rfl (by decide +kernel)) (pi_range1 (by rfl) T.range (pa_cons (pv 11) pa_nil)) (blkOk_by (own := [("_law_k", 13)]) (N := ["_law_pool_here", "_law_env", "_law_depth", "_law_is_last", "_law_choice", "_law_target", "_law_block_here", "_law_first", "_law_names_here", "_law_kinds", "_law_heads_here", "_law_many", "_law_handlers", "_law_k"]) (sc := defScope s__law_piece) (by decide +kernel)) (fun _ _ _ _ _ => pg_name (i := 13) sc__law_piece.nd rfl (Or.inl rfl)) (fun _ _ _ _ _ => pts_nil) (fun _ _ _ _ _ => (pe_tup (pa_cons (pe_call (ok__law_some T) (hr.mono (by omega)) (by rfl) T.g__law_some T.F__law_some.kp T.b__law_some .nil pass0 (pa_cons (pv 0) (pa_cons (pv 9) pa_nil))) (pa_cons (pe_call ihb hr (by rfl) T.g__law_block T.F__law_block.kp T.b__law_block .nil pass0 (pa_cons (pv 0) (pa_cons (pv 1) (pa_cons (pe_op op_sub (pv 2) pe_int) (pa_cons pe_bl pa_nil))))) pa_nil)))))
      (pss_one (ps_ret (pe_tup (pa_cons pe_str (pa_cons (pv 6) (pa_cons (pe_callTy call_tuple_of (by rfl) T.tuple (by decide +kernel) (pa_cons (pv 12) pa_nil)) (pa_cons (pe_call ihb hr (by rfl) T.g__law_block T.F__law_block.kp T.b__law_block .nil pass0 (pa_cons (pv 0) (pa_cons (pv 1) (pa_cons pe_int (pa_cons pe_bl pa_nil))))) pa_nil)))))))))
      pss_nil)
    (pss_cons (ps_set (i := 7) sc__law_piece.nd rfl (Or.inl rfl) (pe_call (ok__law_draw T) (hr.mono (by omega)) (by rfl) T.g__law_draw T.F__law_draw.kp T.b__law_draw .nil pass0 (pa_cons (pv 0) (pa_cons (pe_callB call_len_seq (by rfl) T.len PySem.boot_len (pa_cons (pv 8) pa_nil)) pa_nil))))
    (pss_cons (ps_if (PW.pt (pw_or (pt_cmpR op_lt (pv 4) pe_int (nomark _)) (pw_or1 (pt_cmpR (op_eqD hr.units) (pv 10) (pe_lst pa_nil) (nomark _)))))
      (pss_one (ps_ret (pe_tup (pa_cons pe_str (pa_cons (pe_callTy call_tuple_of (by rfl) T.tuple (by decide +kernel) (pa_cons (pe_slice sl_list (pv 8) (po_some (pv 7)) (po_some (pe_op op_add (pv 7) pe_int))) pa_nil)) (pa_cons (pv 6) pa_nil))))))
      pss_nil)
    (pss_one (ps_ret (pe_tup (pa_cons pe_str (pa_cons (pe_call (ok__law_call T) (hr.mono (by omega)) (by rfl) T.g__law_call T.F__law_call.kp T.b__law_call .nil pass0 (pa_cons (pv 0) (pa_cons (pv 1) pa_nil))) (pa_cons (pe_call (ok__law_call T) (hr.mono (by omega)) (by rfl) T.g__law_call T.F__law_call.kp T.b__law_call .nil pass0 (pa_cons (pv 0) (pa_cons (pv 1) pa_nil))) (pa_cons (pe_callTy call_tuple_of (by rfl) T.tuple (by decide +kernel) (pa_cons (pe_slice sl_list (pv 9) po_none (po_some (pe_call (ok__law_draw T) (hr.mono (by omega)) (by rfl) T.g__law_draw T.F__law_draw.kp T.b__law_draw .nil pass0 (pa_cons (pv 0) (pa_cons pe_int pa_nil))))) pa_nil)) (pa_cons (pv 6) pa_nil)))))))))))))))))))))), ?_⟩
  have hns := hA.nOk
  have hnpos := pos_len hA.nNe
  have hnlen := hns.len
  have hkpos := pos_len hA.kOk.ne
  have hklen := hA.kOk.ok.len
  refine ⟨_, rfl, env, _, rfl, .inl (.inl hE.env), rfl, .ref a1, _, rfl, .ref a2, _, rfl, .ref a3, [], rfl, rfl, ?_⟩
  dsimp only [gName]
  refine st_seq ⟨_, rfl, ite_int (b := decide ((d : Int) > 0)) (fun Q q => ⟨_, rfl, _, _, rfl, rfl, _, rfl, q⟩) ⟨p, l, n, _, _, rfl, hP, by omega, by split <;> decide, by split <;> exact log_small (by decide) (by decide), fun c H1 c0 c1 P1 f1 => ?_⟩⟩
  have k1 : Keep p l H H1 := Keep.draw f1
  have E1 := hE.keep hP k1
  have c10 : 10 ≤ c → 0 < d := fun h => by
    by_cases z : 0 < d
    · exact z
    · rw [if_neg (by rw [decide_eq_false (by omega)]; exact Bool.false_ne_true)] at c1
      omega
  clear c1
  dsimp only [gName]
  refine st_seq ⟨_, rfl, _, rfl, _, rfl, a1, _, rfl, .inl (SqL.of E1.h1), p, l, _, _, _, rfl, P1, by omega, by rw [List.length_map]; omega, by rw [List.length_map]; exact log_nat hnpos (by omega), fun r1 H2 r10 r11 P2 f2 => ?_⟩
  have k2 : Keep p l H H2 := k1.trans (Keep.draw f2)
  have E2 := hE.keep hP k2
  obtain ⟨tg, htg, htm⟩ := at_str r10 r11
  have htok := hns.nm tg htm
  clear r10 r11
  refine ⟨a1, _, _, _, rfl, rfl, SqL.of E2.h1, htg, ?_⟩
  dsimp only [gName]
  -- set
  refine st_seq (st_ite (b := decide (c < 3)) (fun Q q => ⟨_, rfl, _, _, rfl, rfl, _, rfl, q⟩) (fun e => ?_) (fun e3 => ?_))
  · refine ⟨_, rfl, _, rfl, _, rfl, p, l, a1, _, _, ns, rfl, P2, by omega, E2.h1, E2.o1.1, E2.o1.2, hns, fun e1 v1 H3 eok hv P3 k3 => ⟨(by show 3 ≤ sizeLine; decide), fun q3 n3 => ?_⟩⟩
    have s3 := same_upd (o := .tup [.str "set", .str tg, v1]) n3
    exact q (.pl (.set tg e1)) _ _ b ⟨htok, eok⟩ (Nat.zero_le _) ⟨q3, _, rfl, upd_same, _, _, rfl, rfl, _, _, rfl, rfl, v1, _, rfl, hv.mono (TK.of s3), rfl⟩ (Nat.le_refl _) (Nat.add_comm 1 b) ((P3.fresh n3).mono (by omega)) ((k2.trans k3).trans (Keep.of s3))
  dsimp only [tNext]
  -- raise, input
  refine st_seq (st_ite (b := decide (c < 5)) (fun Q q => ⟨_, rfl, _, _, rfl, rfl, _, rfl, q⟩) (fun e => ?_) (fun e5 => ?_))
  · refine ⟨_, rfl, rfl, _, rfl, ite2 (fun e => ?_) (fun e => ?_)⟩
    · refine ⟨_, rfl, _, rfl, _, rfl, a2, _, rfl, .inl (SqL.of E2.h2), p, l, _, _, _, rfl, P2, by omega, by rw [List.length_map]; omega, by rw [List.length_map]; exact log_nat hkpos (by omega), fun r3 H3 r30 r31 P3 f3 => ?_⟩
      have k3 : Keep p l H2 H3 := Keep.draw f3
      obtain ⟨z, hz, hzm⟩ := at_str r30 r31
      refine ⟨a2, _, _, _, rfl, rfl, SqL.of (k3 _ _ E2.h2 E2.o2.1 E2.o2.2), hz, (by show 2 ≤ sizeLine; decide), fun q3 n3 => ?_⟩
      have s3 := same_upd (o := .tup [.str "raise", .str z]) n3
      exact q (.pl (.rse z)) _ _ b (hA.kOk.ok.nm z hzm) (Nat.zero_le _) ⟨q3, _, rfl, upd_same, _, _, rfl, rfl, _, _, rfl, rfl, rfl⟩ (Nat.le_refl _) (Nat.add_comm 1 b) ((P3.fresh n3).mono (by omega)) ((k2.trans k3).trans (Keep.of s3))
    · refine ⟨_, rfl, (by show 2 ≤ sizeLine; decide), fun q3 n3 => ?_⟩
      have s3 := same_upd (o := .tup [.str "input", .str tg]) n3
      exact q (.pl (.inp tg)) _ _ b htok (Nat.zero_le _) ⟨q3, _, rfl, upd_same, _, _, rfl, rfl, _, _, rfl, rfl, rfl⟩ (Nat.le_refl _) (Nat.add_comm 1 b) ((P2.fresh n3).mono (by omega)) (k2.trans (Keep.of s3))
  dsimp only [tNext]
  -- risk
  refine st_seq (st_ite (b := decide (c < 7)) (fun Q q => ⟨_, rfl, _, _, rfl, rfl, _, rfl, q⟩) (fun e => ?_) (fun e7 => ?_))
  · refine ⟨_, rfl, _, rfl, _, rfl, a2, _, rfl, .inl (SqL.of E2.h2), p, l, _, _, _, rfl, P2, by omega, by rw [List.length_map]; omega, by rw [List.length_map]; exact log_nat hkpos (by omega), fun r3 H3 r30 r31 P3 f3 => ?_⟩
    have k3 : Keep p l H2 H3 := Keep.draw f3
    obtain ⟨j, rfl⟩ : ∃ j : Nat, r3 = (j : Int) := ⟨r3.toNat, by omega⟩
    have ej : (1 : Int) + (j : Int) = ((j + 1 : Nat) : Int) := by omega
    refine ⟨_, _, rfl, rfl, _, rfl, a2, _, rfl, SqL.of (k3 _ _ E2.h2 E2.o2.1 E2.o2.2), fun q3 n3 => ?_⟩
    have hq3 : (upd H3 q3 (.lst (cutV (ks.map V.str) none (some (1 + (j : Int)))))) q3 = some (.lst ((ks.take (j + 1)).map V.str)) := by
      rw [upd_same, ej, cut_take2, List.map_take]
    have s3 := same_upd (o := .lst (cutV (ks.map V.str) none (some (1 + (j : Int))))) n3
    have P4 := P3.fresh (o := .lst (cutV (ks.map V.str) none (some (1 + (j : Int))))) n3
    generalize upd H3 q3 (.lst (cutV (ks.map V.str) none (some (1 + (j : Int))))) = H4 at hq3 s3 P4
    refine ⟨q3, _, rfl, .inl ⟨SqL.of hq3, fun q4 n4 => ⟨(by show 2 ≤ sizeLine; decide), fun q5 n5 => ?_⟩⟩⟩
    have s4 := same_upd (o := .tup ((ks.take (j + 1)).map V.str)) n4
    have s5 := same_upd (o := .tup [.str "risk", .ref q4]) n5
    exact q (.pl (.risk (ks.take (j + 1)))) _ _ b ⟨ns_nonempty_take hA.kOk.ne, hA.kOk.ok.take _⟩ (Nat.zero_le _) ⟨q5, _, rfl, upd_same, _, _, rfl, rfl, _, _, rfl, Dv.of_strs (s5 _ _ upd_same), rfl⟩ (Nat.le_refl _) (Nat.add_comm 1 b) (((P4.fresh n4).fresh n5).mono (by omega)) (((k2.trans k3).trans (Keep.of s3)).trans ((Keep.of s4).trans (Keep.of s5)))
  dsimp only [tNext]
  -- call
  have nonE : ∀ {H' : Hp}, PoolAt H' p l (n + 1 + 1) (b : Nat) → True := fun _ => trivial
  by_cases hc9 : c < 9
  · refine st_seq (st_yesH (P := fun H' => Keep p l H2 H' ∧ PoolAt H' p l (n + 1 + 1) (b : Nat)) (ansH_and (fun Q q => ⟨_, rfl, _, _, rfl, rfl, _, rfl, by
        rw [decide_eq_true hc9]
        exact q⟩) (fun Q q => ⟨_, rfl, Nat.zero_le _, fun z nz => ?_⟩)) (fun H3 ⟨k3, P3⟩ => ?_))
    · obtain ⟨xs, h3, hD⟩ := E2.h3
      have s := same_upd (o := .lst []) nz
      refine ⟨_, _, .lst (SqL.of (s _ _ h3)) (Dvs.dp (hD.mono (TK.of s))), .lst (SqL.of upd_same) .nil, heads_lay hA.hOk, by decide +kernel, _, rfl, ?_⟩
      rw [heads_ne hA.hOk]
      exact q _ ⟨Keep.of s, P2.fresh nz⟩
    have E3 := E2.keep P2 k3
    refine ⟨_, rfl, (by show 2 ≤ sizeLine; decide), fun q3 n3 => ?_⟩
    have h3o := P3.off n3
    have s4 := same_upd (o := .lst [.non, .str tg]) n3
    have P4 := P3.fresh (o := .lst [.non, .str tg]) n3
    have hq4 : (upd H3 q3 (.lst [.non, .str tg])) q3 = some (.lst [.non, .str tg]) := upd_same
    generalize upd H3 q3 (.lst [.non, .str tg]) = H4 at s4 P4 hq4
    refine ⟨_, rfl, p, l, _, _, 2, rfl, P4, by omega, by decide, log_small (by decide) (by decide), fun r5 H5 r50 r51 P5 f5 => ?_⟩
    have k5 : Keep p l H4 H5 := Keep.draw f5
    have k35 := (Keep.of s4).trans k5
    obtain ⟨x, hx, hxm⟩ := atI_ex (xs := [V.non, .str tg]) (r := r5) r50 r51
    refine ⟨q3, _, _, _, rfl, rfl, SqL.of (k5 _ _ hq4 h3o.1 h3o.2), hx, (by show 2 ≤ sizeLine; decide), fun q6 n6 => ?_⟩
    have s6 := same_upd (o := .tup [.str "call", x]) n6
    have P6 := P5.fresh (o := .tup [.str "call", x]) n6
    have hq6 : (upd H5 q6 (.tup [.str "call", x])) q6 = some (.tup [.str "call", x]) := upd_same
    generalize upd H5 q6 (.tup [.str "call", x]) = H6 at s6 P6 hq6
    have k36 := k35.trans (Keep.of s6)
    refine ⟨_, rfl, _, rfl, p, l, env, a1, a2, a3, _, _, ns, ks, hs, rfl, P6, by omega, E3.keep P3 k36, hns, hA.nNe, hA.hOk, fun f as u H7 fok aok hu P7 k7 => ?_⟩
    obtain ⟨r', _, rfl, hr', _, _, rfl, rfl, w', _, rfl, hw, rfl⟩ := hu
    have tk7 : TK H6 H7 := TK.keep P6 k7
    refine ⟨q6, r', _, _, rfl, rfl, .inl (.inl (tk7 _ _ hq6)), .inl (.inl hr'), List.cons_ne_nil _ _, (by show 4 ≤ sizeLine; decide), fun z => absurd z (List.cons_ne_nil _ _), fun _ q8 n8 => ?_⟩
    have s8 := same_upd (o := .tup ([.str "call", x] ++ [.str f, w'])) n8
    have kk := (k2.trans (k3.trans (k36.trans k7))).trans (Keep.of s8)
    simp only [List.mem_cons, List.not_mem_nil, or_false] at hxm
    rcases hxm with rfl | rfl
    · exact q (.pl (.call none f as)) _ _ b ⟨(fun v e => by cases e), fok, aok⟩ (Nat.zero_le _) ⟨q8, _, rfl, upd_same, _, _, rfl, rfl, _, _, rfl, rfl, _, _, rfl, rfl, w', _, rfl, hw.mono (TK.of s8), rfl⟩ (Nat.le_refl _) (Nat.add_comm 1 b) ((P7.fresh n8).mono (by omega)) kk
    · exact q (.pl (.call (some tg) f as)) _ _ b ⟨(fun v e => by cases e; exact htok), fok, aok⟩ (Nat.zero_le _) ⟨q8, _, rfl, upd_same, _, _, rfl, rfl, _, _, rfl, rfl, _, _, rfl, rfl, w', _, rfl, hw.mono (TK.of s8), rfl⟩ (Nat.le_refl _) (Nat.add_comm 1 b) ((P7.fresh n8).mono (by omega)) kk
  refine st_seq (st_no (ans_and0 (fun Q q => ⟨_, rfl, _, _, rfl, rfl, _, rfl, by
        rw [decide_eq_false hc9]
        exact q⟩)) ?_)
  dsimp only [tNext]
  -- return
  refine st_seq (st_ite (b := decide (c < 10)) (fun Q q => ⟨_, rfl, _, _, rfl, rfl, _, rfl, q⟩) (fun e => ?_) (fun e10 => ?_))
  · refine ⟨_, rfl, last, rfl, ite2 (fun e => ?_) (fun e => ?_)⟩
    · refine ⟨_, rfl, (by show 2 ≤ sizeLine; decide), fun q3 n3 => ?_⟩
      have s3 := same_upd (o := .tup [.str "input", .str tg]) n3
      exact q (.pl (.inp tg)) _ _ b htok (Nat.zero_le _) ⟨q3, _, rfl, upd_same, _, _, rfl, rfl, _, _, rfl, rfl, rfl⟩ (Nat.le_refl _) (Nat.add_comm 1 b) ((P2.fresh n3).mono (by omega)) (k2.trans (Keep.of s3))
    · refine ⟨_, rfl, _, rfl, p, l, a1, _, _, ns, rfl, P2, by omega, E2.h1, E2.o1.1, E2.o1.2, hns, fun e1 v1 H3 eok hv P3 k3 => ⟨(by show 2 ≤ sizeLine; decide), fun q3 n3 => ?_⟩⟩
      have s3 := same_upd (o := .tup [.str "return", v1]) n3
      exact q (.pl (.ret e1)) _ _ b eok (Nat.zero_le _) ⟨q3, _, rfl, upd_same, _, _, rfl, rfl, v1, _, rfl, hv.mono (TK.of s3), rfl⟩ (Nat.le_refl _) (Nat.add_comm 1 b) ((P3.fresh n3).mono (by omega)) ((k2.trans k3).trans (Keep.of s3))
  dsimp only [tNext]
  have hc10 : 10 ≤ c := by
    have := of_decide_eq_false e10
    omega
  obtain ⟨d', rfl⟩ : ∃ d', d = d' + 1 := ⟨d - 1, by have := c10 hc10; omega⟩
  have lA := lvA d' last hd
  obtain ⟨m', rfl⟩ : ∃ m', m = m' + 1 := ⟨m - 1, by omega⟩
  have ed : ((d' + 1 : Nat) : Int) - 1 = (d' : Int) := by omega
  -- the block
  refine st_seq ⟨_, rfl, _, rfl, _, rfl, _, _, rfl, rfl, _, rfl, p, l, env, a1, a2, a3, _, b, d', last, ns, ks, hs, by
    show [V.ref p, V.ref env, V.int (((d' + 1 : Nat) : Int) - 1), V.bl _] = _
    rw [ed], by omega, by omega, P2, by omega, E2, hA, fun x v3 H3 b3 xok xht xl xD xb xsz P3 k3 => ?_⟩
  have E3 := E2.keep P2 k3
  have k03 := k2.trans k3
  dsimp only [gName]
  -- if
  refine st_seq (st_ite (b := decide (c < 12) || last) (ans_or2 (fun Q q => ⟨_, rfl, _, _, rfl, rfl, _, rfl, q⟩) (fun Q q => ⟨_, rfl, last, rfl, q⟩)) (fun e => ?_) (fun e12 => ?_))
  · refine ⟨_, rfl, _, rfl, _, rfl, _, rfl, _, _, rfl, rfl, _, rfl, p, l, env, a1, a2, a3, _, b3, d', last, ns, ks, hs, by
    show [V.ref p, V.ref env, V.int (((d' + 1 : Nat) : Int) - 1), V.bl _] = _
    rw [ed], by omega, by omega, P3, by omega, E3, hA, fun y v4 H4 b4 yok yht yl yD yb ysz P4 k4 => ⟨(by show 3 ≤ sizeLine; decide), fun q5 n5 => ?_⟩⟩
    have s5 := same_upd (o := .tup [.str "if", v3, v4]) n5
    refine q (.iff x y) _ _ b4 ⟨xok, yok⟩ ?_ ⟨q5, _, rfl, upd_same, _, _, rfl, rfl, v3, _, rfl, xD.mono ((TK.keep P3 k4).trans (TK.of s5)), v4, _, rfl, yD.mono (TK.of s5), rfl⟩ (by omega) (by show x.sz + y.sz + 1 + b4 = b + 1; omega) ((P4.fresh n5).mono (by omega)) ((k03.trans k4).trans (Keep.of s5))
    show max x.ht y.ht + 1 ≤ _
    omega
  dsimp only [tNext]
  obtain ⟨hc12, hlast⟩ : ¬ c < 12 ∧ last = false := by
    rw [Bool.or_eq_false_iff] at e12
    exact ⟨of_decide_eq_false e12.1, e12.2⟩
  subst hlast
  have lB := lvB d' hd
  -- while
  refine st_seq (st_ite (b := decide (c < 13)) (fun Q q => ⟨_, rfl, _, _, rfl, rfl, _, rfl, q⟩) (fun e => ?_) (fun e13 => ?_))
  · refine ⟨_, rfl, (by show 2 ≤ sizeLine; decide), fun q5 n5 => ?_⟩
    have s5 := same_upd (o := .tup [.str "while", v3]) n5
    refine q (.whl x) _ _ b3 xok ?_ ⟨q5, _, rfl, upd_same, _, _, rfl, rfl, v3, _, rfl, xD.mono (TK.of s5), rfl⟩ xb (by show x.sz + 1 + b3 = b + 1; omega) ((P3.fresh n5).mono (by omega)) (k03.trans (Keep.of s5))
    show x.ht + 1 ≤ _
    omega
  dsimp only [tNext]
  -- try
  have hklo : ∀ {H' : Hp}, Keep p l H2 H' → H' a2 = some (.lst (ks.map V.str)) := fun k => k _ _ E2.h2 E2.o2.1 E2.o2.2
  refine st_seq (st_ite (b := decide (c < 15)) (fun Q q => ⟨_, rfl, _, _, rfl, rfl, _, rfl, q⟩) (fun e => ?_) (fun e15 => ?_))
  · refine ⟨_, rfl, p, l, _, _, 3, rfl, P3, by omega, by decide, log_small (by decide) (by decide), fun mn H4 m0 m1 P4 f4 => ?_⟩
    have k34 : Keep p l H3 H4 := Keep.draw f4
    dsimp only [gName]
    refine st_seq ⟨_, rfl, mn, rfl, by omega, by omega, fun L nL => ?_⟩
    have hLo := P4.off nL
    have sL := same_upd (o := .lst []) nL
    have nL3 : H3 L = none := k34.free nL hLo.1 hLo.2
    have hrep : ∀ (hl : List (List Str × TB)), (hl.map dHd).length = hl.length := fun hl => List.length_map _
    refine lc_range (lo := 0) (n := mn.toNat) (fun i H' => ∃ (hl : List (List Str × TB)) (ys : List V) (b' : Nat), b' ≤ b3 ∧ PoolAt H' p l (n + 1 + 1 + 1 + 1 + 60 * ((b : Int) - b') + 2 * i) (b' : Nat) ∧ Keep p l H3 H' ∧ H' L = some (.lst ys) ∧ Dvs H' ys (DL.of (hl.map dHd)) ∧ hl.length = i ∧ (∀ h ∈ hl, (h.1 ≠ [] ∧ NsOk h.1 ∧ h.2.Ok) ∧ h.2.ht ≤ lvD d' false) ∧ (hl.map fun h => h.2.sz).sum + b' = b3)
      ⟨[], [], b3, Nat.le_refl _, (P4.fresh nL).mono (by omega), k34.trans (Keep.of sL), upd_same, rfl, rfl, (fun h hh => by cases hh), (by show 0 + b3 = b3; omega)⟩ ?_ ?_
    · rintro i H5 hi ⟨hl, ys, b', hb', P5, k5, hL5, hD5, hll, hok, hsz⟩
      have hyl := hD5.len
      rw [hrep] at hyl
      refine ⟨rfl, _, rfl, _, rfl, p, l, a2, _, _, ks, rfl, P5, by omega, hklo (k3.trans k5), E2.o2.1, E2.o2.2, hA.kOk, fun zs u H6 zne zok hu P6 k6 => ?_⟩
      refine ⟨_, rfl, _, rfl, _, rfl, _, _, rfl, rfl, p, l, env, a1, a2, a3, _, b', d', false, ns, ks, hs, by
        show [V.ref p, V.ref env, V.int (((d' + 1 : Nat) : Int) - 1), V.bl _] = _
        rw [ed], by omega, by omega, P6, by omega, (E3.keep P3 k5).keep P5 k6, hA, fun y v7 H7 b7 yok yht yl yD yb ysz P7 k7 => ⟨(by show 2 ≤ sizeLine; decide), fun q8 n8 => ?_⟩⟩
      have k57 := k6.trans k7
      have tk67 : TK H6 H7 := TK.keep P6 k7
      have tk57 : TK H5 H7 := TK.keep P5 k57
      have s8 := same_upd (o := .tup [u, v7]) n8
      have k8 := k57.trans (Keep.of s8)
      have hL8 := k8 _ _ hL5 hLo.1 hLo.2
      have tk9 : TK (upd H7 q8 (.tup [u, v7])) (upd (upd H7 q8 (.tup [u, v7])) L (.lst (ys ++ [.ref q8]))) := TK.upd hL8 (fun _ z => by cases z)
      have tk79 := (TK.of s8).trans tk9
      refine ⟨_, hL8, bigLine (by omega), hl ++ [(zs, y)], ys ++ [.ref q8], b7, by omega, ((P7.fresh n8).put hLo.1 hLo.2).mono (by push_cast; omega), (k5.trans k8).mut nL3, upd_same, ?_, by rw [List.length_append, hll]; rfl, ?_, ?_⟩
      · rw [List.map_append]
        exact Dvs.app (hd_dv (tk9 _ _ upd_same) (hu.mono (tk67.trans tk79)) (yD.mono tk79)) (hD5.mono (tk57.trans tk79))
      · intro h hh
        rcases List.mem_append.mp hh with hh | hh
        · exact hok h hh
        · rw [List.mem_singleton.mp hh]
          exact ⟨⟨zne, zok, yok⟩, yht⟩
      · rw [List.map_append, List.sum_append]
        show _ + (y.sz + 0) + b7 = b3
        omega
    · rintro H5 ⟨hl, ys, b', hb', P5, k5, hL5, hD5, hll, hok, hsz⟩
      have hll2 : hl.length ≤ 2 := by omega
      refine ⟨_, rfl, _, rfl, L, _, rfl, .inl ⟨SqL.of hL5, fun q6 n6 => ?_⟩⟩
      have s6 := same_upd (o := .tup ys) n6
      have P6 := P5.fresh (o := .tup ys) n6
      have hq6 : (upd H5 q6 (.tup ys)) q6 = some (.tup ys) := upd_same
      generalize upd H5 q6 (.tup ys) = H6 at s6 P6 hq6
      refine ⟨_, rfl, _, rfl, p, l, env, a1, a2, a3, _, b', 1, true, ns, ks, hs, rfl, by decide, by omega, P6, by omega, (E3.keep P3 k5).keep P5 (Keep.of s6), hA, fun y v7 H7 b7 yok yht yl yD yb ysz P7 k7 => ⟨(by show 4 ≤ sizeLine; decide), fun q8 n8 => ?_⟩⟩
      have s8 := same_upd (o := .tup [.str "try", v3, .ref q6, v7]) n8
      have tk78 := TK.of s8
      have tk68 := (TK.keep P6 k7).trans tk78
      have tk58 := (TK.of s6).trans tk68
      have tk38 := (TK.keep P3 k5).trans tk58
      refine q (.tr x (TH.of hl) y) _ _ b7 ⟨xok, by rw [TH.L_of]; exact hll2, TH.ok_of fun h hh => (hok h hh).1, yok⟩ ?_ ⟨q8, _, rfl, upd_same, _, _, rfl, rfl, v3, _, rfl, xD.mono tk38, .ref q6, _, rfl, ⟨q6, _, rfl, tk68 _ _ hq6, ?_⟩, v7, _, rfl, yD.mono tk78, rfl⟩ (by omega) ?_ ((P7.fresh n8).mono (by omega)) ((((k03.trans k5).trans (Keep.of s6)).trans k7).trans (Keep.of s8))
      · have h1 : (TH.of hl).ht ≤ lvD d' false := TH.ht_of fun h hh => (hok h hh).2
        show max x.ht (max (TH.of hl).ht y.ht) + 1 ≤ _
        omega
      · rw [dH_of, TH.L_of]
        exact hD5.mono tk58
      · have h1 : (TH.of hl).sz = (hl.map fun h => h.2.sz).sum := by rw [TH.sz_L, TH.L_of]
        show x.sz + (TH.of hl).sz + y.sz + 1 + b7 = b + 1
        omega
  dsimp only [tNext]
  -- undo
  refine st_seq ⟨_, rfl, _, rfl, a1, _, rfl, .inl (SqL.of E3.h1), p, l, _, _, _, rfl, P3, by omega, by rw [List.length_map]; omega, by rw [List.length_map]; exact log_nat hnpos (by omega), fun fi H4 f0 f1' P4 f4 => ?_⟩
  rw [List.length_map] at f1'
  have k34 : Keep p l H3 H4 := Keep.draw f4
  have E4 := E3.keep P3 k34
  have k04 := k03.trans k34
  have tk34 : TK H3 H4 := TK.keep P3 k34
  obtain ⟨j, rfl⟩ : ∃ j : Nat, fi = (j : Int) := ⟨fi.toNat, by omega⟩
  dsimp only [gName]
  by_cases hc17 : c < 17
  · refine st_seq (st_yes (ans_or1 (fun Q q => ⟨_, rfl, _, _, rfl, rfl, _, rfl, by
        rw [decide_eq_true hc17]
        exact q⟩)) ?_)
    have ej : (j : Int) + 2 = ((j + 2 : Nat) : Int) := by omega
    refine ⟨_, rfl, _, rfl, _, rfl, _, rfl, _, _, rfl, rfl, _, rfl, a1, _, rfl, SqL.of E4.h1, fun q5 n5 => ?_⟩
    have hq5 : (upd H4 q5 (.lst (cutV (ns.map V.str) (some (j : Int)) (some ((j : Int) + 2))))) q5 = some (.lst (((ns.drop j).take 2).map V.str)) := by
      rw [upd_same, ej, cut_mid (by omega) (by rw [List.length_map]; omega), List.map_take, List.map_drop, show j + 2 - j = 2 by omega]
    have s5 := same_upd (o := .lst (cutV (ns.map V.str) (some (j : Int)) (some ((j : Int) + 2)))) n5
    have P5 := P4.fresh (o := .lst (cutV (ns.map V.str) (some (j : Int)) (some ((j : Int) + 2)))) n5
    generalize upd H4 q5 (.lst (cutV (ns.map V.str) (some (j : Int)) (some ((j : Int) + 2)))) = H5 at hq5 s5 P5
    refine ⟨q5, _, rfl, .inl ⟨SqL.of hq5, fun q6 n6 => ⟨_, rfl, (by show 3 ≤ sizeLine; decide), fun q7 n7 => ?_⟩⟩⟩
    have s6 := same_upd (o := .tup (((ns.drop j).take 2).map V.str)) n6
    have s7 := same_upd (o := .tup [.str "undo", .ref q6, v3]) n7
    have vne : (ns.drop j).take 2 ≠ [] := by
      intro z
      have := congrArg List.length z
      rw [List.length_take, List.length_drop, List.length_nil] at this
      omega
    have vok : NsOk ((ns.drop j).take 2) := ⟨fun v hv => hns.nm v (List.mem_of_mem_drop (List.mem_of_mem_take hv)), by rw [List.length_take]; omega⟩
    refine q (.undo ((ns.drop j).take 2) x) _ _ b3 ⟨vne, vok, xok⟩ ?_ ⟨q7, _, rfl, upd_same, _, _, rfl, rfl, .ref q6, _, rfl, Dv.of_strs (s7 _ _ upd_same), v3, _, rfl, xD.mono (((tk34.trans (TK.of s5)).trans (TK.of s6)).trans (TK.of s7)), rfl⟩ xb (by show x.sz + 1 + b3 = b + 1; omega) (((P5.fresh n6).fresh n7).mono (by omega)) (((k04.trans (Keep.of s5)).trans (Keep.of s6)).trans (Keep.of s7))
    show x.ht + 1 ≤ _
    omega
  refine st_seq (st_noH (P := fun H' => Keep p l H4 H' ∧ PoolAt H' p l (n + 1 + 1 + 1 + 60 * ((b : Int) - b3) + 1) (b3 : Nat)) (ansH_or (fun Q q => ⟨_, rfl, _, _, rfl, rfl, _, rfl, by
        rw [decide_eq_false hc17]
        exact q⟩) (fun Q q => ⟨_, rfl, Nat.zero_le _, fun z nz => ?_⟩)) (fun H5 ⟨k5, P5⟩ => ?_))
  · obtain ⟨xs, h3, hD⟩ := E4.h3
    have s := same_upd (o := .lst []) nz
    refine ⟨_, _, .lst (SqL.of (s _ _ h3)) (Dvs.dp (hD.mono (TK.of s))), .lst (SqL.of upd_same) .nil, heads_lay hA.hOk, by decide +kernel, _, rfl, ?_⟩
    rw [heads_ne hA.hOk]
    exact q _ ⟨Keep.of s, P4.fresh nz⟩
  dsimp only [tNext]
  -- with
  have E5 := E4.keep P4 k5
  refine ⟨_, rfl, _, rfl, p, l, env, a1, a2, a3, _, _, ns, ks, hs, rfl, P5, by omega, E5, hns, hA.nNe, hA.hOk, fun f as u6 H6 fok aok hu6 P6 k6 => ?_⟩
  have E6 := E5.keep P5 k6
  refine ⟨_, rfl, _, rfl, p, l, env, a1, a2, a3, _, _, ns, ks, hs, rfl, P6, by omega, E6, hns, hA.nNe, hA.hOk, fun g bs u7 H7 gok bok hu7 P7 k7 => ?_⟩
  have E7 := E6.keep P6 k7
  refine ⟨_, rfl, _, rfl, p, l, _, _, 3, rfl, P7, by omega, by decide, log_small (by decide) (by decide), fun r8 H8 r80 r81 P8 f8 => ?_⟩
  have k8 : Keep p l H7 H8 := Keep.draw f8
  have E8 := E7.keep P7 k8
  obtain ⟨j2, rfl⟩ : ∃ j : Nat, r8 = (j : Int) := ⟨r8.toNat, by omega⟩
  refine ⟨_, rfl, a2, _, rfl, SqL.of E8.h2, fun q9 n9 => ?_⟩
  have hq9 : (upd H8 q9 (.lst (cutV (ks.map V.str) none (some (j2 : Int))))) q9 = some (.lst ((ks.take j2).map V.str)) := by
    rw [upd_same, cut_take2, List.map_take]
  have s9 := same_upd (o := .lst (cutV (ks.map V.str) none (some (j2 : Int)))) n9
  have P9 := P8.fresh (o := .lst (cutV (ks.map V.str) none (some (j2 : Int)))) n9
  generalize upd H8 q9 (.lst (cutV (ks.map V.str) none (some (j2 : Int)))) = H9 at hq9 s9 P9
  refine ⟨q9, _, rfl, .inl ⟨SqL.of hq9, fun q10 n10 => ⟨_, rfl, (by show 5 ≤ sizeLine; decide), fun q11 n11 => ?_⟩⟩⟩
  have s10 := same_upd (o := .tup ((ks.take j2).map V.str)) n10
  have s11 := same_upd (o := .tup [.str "with", u6, u7, .ref q10, v3]) n11
  have t8 := ((TK.of s9).trans (TK.of s10)).trans (TK.of s11)
  have t7 := (TK.keep P7 k8).trans t8
  have t6 := (TK.keep P6 k7).trans t7
  have t5 := (TK.keep P5 k6).trans t6
  have t3 := tk34.trans ((TK.keep P4 k5).trans t5)
  refine q (.wth f as g bs (ks.take j2) x) _ _ b3 ⟨fok, aok, gok, bok, hA.kOk.ok.take _, xok⟩ ?_ ⟨q11, _, rfl, upd_same, _, _, rfl, rfl, u6, _, rfl, hu6.mono t6, u7, _, rfl, hu7.mono t7, .ref q10, _, rfl, Dv.of_strs (s11 _ _ upd_same), v3, _, rfl, xD.mono t3, rfl⟩ xb (by show x.sz + 1 + b3 = b + 1; omega) (((P9.fresh n10).fresh n11).mono (by omega)) (((((((k04.trans k5).trans k6).trans k7).trans k8).trans (Keep.of s9)).trans (Keep.of s10)).trans (Keep.of s11))
  show x.ht + 1 ≤ _
  omega
/-- both, at all levels -/
theorem ok_drawn (T : Txt K mg a) : ∀ m : Nat, FnOk P w K mg base CX0 (7 + 2 * m) a.f__law_piece a.f__law_piece_d ["_law_pool_here", "_law_env", "_law_depth", "_law_is_last"] (spPiece m) ∧ FnOk P w K mg base CX0 (8 + 2 * m) a.f__law_block a.f__law_block_d ["_law_pool_here", "_law_env", "_law_depth", "_law_is_last"] (spBlkD (m + 1))
  | 0 => by
    have h0 : FnOk P w K mg base CX0 6 a.f__law_block a.f__law_block_d ["_law_pool_here", "_law_env", "_law_depth", "_law_is_last"] (spBlkD 0) := ⟨fun _ _ _ _ h => h.elim, fun _ _ _ _ _ _ _ _ _ _ _ _ _ h => h.elim⟩
    have h1 := ok__law_piece1 T 0 6 (Nat.le_refl _) h0
    exact ⟨h1, ok__law_block1 T 0 7 (by decide) h1⟩
  | n + 1 => by
    have h0 := (ok_drawn T n).2
    have h1 := ok__law_piece1 T (n + 1) (8 + 2 * n) (by omega) h0
    have h2 := ok__law_block1 T (n + 1) (8 + 2 * n + 1) (by omega) h1
    exact ⟨by rw [show 7 + 2 * (n + 1) = 8 + 2 * n + 1 by omega]; exact h1, by rw [show 8 + 2 * (n + 1) = 8 + 2 * n + 1 + 1 by omega]; exact h2⟩
theorem ok__law_block (T : Txt K mg a) : FnOk P w K mg base CX0 14 a.f__law_block a.f__law_block_d ["_law_pool_here", "_law_env", "_law_depth", "_law_is_last"] (spBlkD 4) := (ok_drawn T 3).2
end
end K3
namespace K3
open PySem PySem.Spec PyProof.Rows L2 TL
/-! ### whole trees, drawn -/
def wsL (f : Nat → Str) : List Str := (List.range 16).map f
theorem wsL_at (f : Nat → Str) {k : Nat} (h : k < 16) : ((wsL f).map V.str)[k]? = some (.str (f k)) := by
  unfold wsL
  rw [List.getElem?_map, List.getElem?_map, List.getElem?_range h]
  rfl
theorem cut_last {xs : List V} {y : V} : cutV (xs ++ [y]) none (some (-1)) = xs := by
  unfold cutV
  rw [HT.sIx_none, show HT.sIx (xs ++ [y]).length (xs ++ [y]).length (some (-1)) = xs.length by
    show (if (-1 : Int) < 0 then ((-1 : Int) + ((xs ++ [y]).length : Int)).toNat else min ((-1 : Int).toNat) (xs ++ [y]).length) = _
    rw [if_pos (by decide), List.length_append, List.length_singleton]
    omega]
  show (xs ++ [y]).take (xs.length - 0) = xs
  rw [Nat.sub_zero, List.take_left]
theorem sub_nodup {f : Nat → Str} (h : (wsL f).Nodup) {is : List Nat} (hs : is.Sublist (List.range 16)) : (is.map f).Nodup := List.Nodup.sublist (List.Sublist.map f hs) h
theorem own_sub {j i : Nat} (hj : j ≤ 2) (hi : i ≤ 2) : ((List.range 16).take j ++ [8, 9].take i ++ [10]).Sublist (List.range 16) := by
  have h : ∀ j, j ≤ 2 → ∀ i, i ≤ 2 → ((List.range 16).take j ++ [8, 9].take i ++ [10]).Sublist (List.range 16) := by decide
  exact h j hj i hi
theorem own_len {j i : Nat} (hj : j ≤ 2) (hi : i ≤ 2) : ((List.range 16).take j ++ [8, 9].take i ++ [10]).length ≤ 5 := by
  rw [List.length_append, List.length_append, List.length_take, List.length_take]
  show _ + _ + 1 ≤ 5
  omega
/-- heads as they are drawn -/
structure HdOk (f : Nat → Str) (h : Str × List (Str × Bool)) : Prop where
  nm : NameOk h.1
  ps : ∃ (b1 b2 : Bool) (i : Nat), i ≤ 2 ∧ h.2 = [(f 8, b1), (f 9, b2)].take i
theorem HdOk.psOk {f : Nat → Str} {h : Str × List (Str × Bool)} (hf : ∀ k < 16, NameOk (f k)) (k : HdOk f h) : PsOk h.2 := by
  obtain ⟨_, b1, b2, i, hi, e⟩ := k
  rw [e]
  refine ⟨fun p hp => ?_, by rw [List.length_take]; show min i 2 ≤ 2; omega⟩
  have hm := List.mem_of_mem_take hp
  simp only [List.mem_cons, List.not_mem_nil, or_false] at hm
  rcases hm with rfl | rfl
  · exact hf 8 (by decide)
  · exact hf 9 (by decide)
theorem HdOk.names {f : Nat → Str} {h : Str × List (Str × Bool)} (k : HdOk f h) : ∃ i, i ≤ 2 ∧ h.2.map (·.1) = ([8, 9].take i).map f := by
  obtain ⟨_, b1, b2, i, hi, e⟩ := k
  refine ⟨i, hi, ?_⟩
  rw [e, List.map_take, List.map_take]
  rfl
theorem nameL_inj {c : Nat} {s : Int} {j k : Nat} (hj : j < 16) (hk : k < 16) (h : nameL c s j = nameL c s k) : j = k := by
  have h1 := congrArg tl h
  unfold nameL at h1
  rw [tl_append, tl_append] at h1
  have h2 := List.append_cancel_left h1
  obtain ⟨m, hm⟩ : ∃ m : Nat, (7 * ((0 : Int) + (j : Int)) + s) % 16 = (m : Int) := ⟨((7 * ((0 : Int) + (j : Int)) + s) % 16).toNat, by omega⟩
  obtain ⟨n, hn⟩ : ∃ n : Nat, (7 * ((0 : Int) + (k : Int)) + s) % 16 = (n : Int) := ⟨((7 * ((0 : Int) + (k : Int)) + s) % 16).toNat, by omega⟩
  rw [hm, hn, numT_tl, numT_tl] at h2
  have := numL_inj h2
  subst this
  omega
theorem names_nodup (c : Nat) (s : Int) : (namesL c s).Nodup := by
  unfold namesL
  rw [List.nodup_iff_pairwise_ne, List.pairwise_map]
  refine List.Pairwise.imp_of_mem ?_ (List.nodup_iff_pairwise_ne.mp List.nodup_range)
  intro a b ha hb hab h
  exact hab (nameL_inj (List.mem_range.mp ha) (List.mem_range.mp hb) h)
theorem names_ok {c : Nat} {s : Int} (hc : c ∈ tl LET) : ∀ v ∈ namesL c s, NameOk v := by
  intro v hv
  obtain ⟨k, hk, rfl⟩ := List.mem_map.mp hv
  obtain ⟨m, hm⟩ : ∃ m : Nat, (7 * ((0 : Int) + (k : Int)) + s) % 16 = (m : Int) := ⟨((7 * ((0 : Int) + (k : Int)) + s) % 16).toNat, by omega⟩
  have hm16 : m < 16 := by omega
  have e : tl (nameL c s k) = c :: numL m := by
    unfold nameL
    rw [tl_append, hm, numT_tl]
    rfl
  refine ⟨⟨c, numL m, e, decide_eq_true hc, numL_ne m, fun d hd => num_digit hd⟩, ?_⟩
  have hl : (numL m).length ≤ 2 := numL_len (by decide) (by omega)
  rw [len_tl, e, List.length_cons]
  omega
theorem if_dropB {t u : TT} {te : TE} {D : Ends} {σ : L2.St} {H : Hp} {b1 : Bool} (PU : Bool → Hp → Prop) (PV : Hp → Prop) (h1 : Ans t σ H b1) (h0 : b1 = false → PV H) (h2 : ∀ Q : Bool → Hp → Prop, b1 = true → (∀ b H', PU b H' → Q b H') → u σ H Q) (h3 : ∀ H', PU true H' → ValH te σ H' (fun _ H'' => PV H'')) (h4 : ∀ H', PU false H' → PV H') (q : ∀ H', PV H' → D.nx σ H') : tIfS (tAnd t u) (tDrop te) tNext D σ H := h1 _ (by
  cases b1 with
  | false => exact q _ (h0 rfl)
  | true =>
    show (if true = true then u σ H _ else _)
    rw [if_pos rfl]
    refine h2 _ rfl fun b H' pu => ?_
    cases b with
    | true => exact h3 _ pu _ fun v H'' pv => q _ pv
    | false => exact q _ (h4 _ pu))
def spTree : Sp := fun vs H Q _ => ∃ (p l : Addr) (n : Int), vs = [.ref p] ∧ PoolAt H p l n 30 ∧ n ≤ 1000 ∧
  ∀ (t : Tree) (v : V) (H' : Hp), TreeOk t → Dv H' v (dT t) → TK H H' → Q v H'
section
variable {P : Program} {w : World} {K : PySem.W.Frag} {mg : Str → Option Value} {base : Heap} {a : Ads}
theorem sc__law_tree : FnScope ["_law_pool_here", "_law_words", "_law_names_here", "_law_kinds", "_law_heads_here", "_law_k", "_law_keeps", "_law_functions", "_law_head", "_law_params", "_law_own", "_law_first", "_law_param"] ["_law_pool_here"] (defScope s__law_tree) := ⟨rfl, rfl, rfl, by decide +kernel, rfl, by decide +kernel, by decide +kernel⟩
theorem ok__law_tree (T : Txt K mg a) : FnOk P w K mg base CX0 16 a.f__law_tree a.f__law_tree_d ["_law_pool_here"] spTree := by
  refine T.F__law_tree.ok sc__law_tree (fun vs H Q E h => ?_) (fun cdv A outer s H vs Q E hr h => ?_)
  · obtain ⟨p, l, n, rfl, _⟩ := h
    rfl
  obtain ⟨p, l, n, rfl, hP, hn, q⟩ := h
  refine ⟨_, (pss_cons (ps_set (i := 1) sc__law_tree.nd rfl (Or.inl rfl) (pe_call (ok__law_names T) (hr.mono (by decide)) (by rfl) T.g__law_names T.F__law_names.kp T.b__law_names .nil pass0 (pa_cons (pv 0) pa_nil)))
    (pss_cons (ps_set (i := 2) sc__law_tree.nd rfl (Or.inl rfl) (pe_slice sl_list (pv 1) po_none (po_some (pe_call (ok__law_draw T) (hr.mono (by decide)) (by rfl) T.g__law_draw T.F__law_draw.kp T.b__law_draw .nil pass0 (pa_cons (pv 0) (pa_cons pe_int pa_nil))))))
    (pss_cons (ps_set (i := 3) sc__law_tree.nd rfl (Or.inl rfl) (pe_slice sl_list (pv 1) (po_some pe_int) (po_some (pe_op op_add pe_int (pe_call (ok__law_draw T) (hr.mono (by decide)) (by rfl) T.g__law_draw T.F__law_draw.kp T.b__law_draw .nil pass0 (pa_cons (pv 0) (pa_cons pe_int pa_nil)))))))
    (pss_cons (ps_set (i := 4) sc__law_tree.nd rfl (Or.inl rfl) (pe_lst pa_nil))
    (pss_cons (ps_for PassesOwn.never rfl (pi_range1 (by rfl) T.range (pa_cons (pe_op op_add pe_int (pe_call (ok__law_draw T) (hr.mono (by decide)) (by rfl) T.g__law_draw T.F__law_draw.kp T.b__law_draw .nil pass0 (pa_cons (pv 0) (pa_cons pe_int pa_nil)))) pa_nil)) (pg_name (i := 5) sc__law_tree.nd rfl (Or.inl rfl))
      (pss_cons (ps_set (i := 9) sc__law_tree.nd rfl (Or.inl rfl) (pe_lst (pa_cons (pe_tup (pa_cons (pe_ix ix_list (pv 1) pe_int (fun _ _ => rfl)) (pa_cons (pe_cmpR op_eq (pe_call (ok__law_draw T) (hr.mono (by decide)) (by rfl) T.g__law_draw T.F__law_draw.kp T.b__law_draw .nil pass0 (pa_cons (pv 0) (pa_cons pe_int pa_nil))) pe_int (nomark _)) pa_nil))) (pa_cons (pe_tup (pa_cons (pe_ix ix_list (pv 1) pe_int (fun _ _ => rfl)) (pa_cons (pe_cmpR op_eq (pe_call (ok__law_draw T) (hr.mono (by decide)) (by rfl) T.g__law_draw T.F__law_draw.kp T.b__law_draw .nil pass0 (pa_cons (pv 0) (pa_cons pe_int pa_nil))) pe_int (nomark _)) pa_nil))) pa_nil))))
      (pss_one (ps_expr (pe_bm PySem.F.plainAttrs_list PySem.F.slot_list_append PySem.F.type_list_append mt_append (pv 4) (pa_cons (pe_tup (pa_cons (pe_ix ix_list (pv 1) (pe_op op_add pe_int (pv 5)) (fun _ _ => rfl)) (pa_cons (pe_callTy call_tuple_of (by rfl) T.tuple (by decide +kernel) (pa_cons (pe_slice sl_list (pv 9) po_none (po_some (pe_call (ok__law_draw T) (hr.mono (by decide)) (by rfl) T.g__law_draw T.F__law_draw.kp T.b__law_draw .nil pass0 (pa_cons (pv 0) (pa_cons pe_int pa_nil))))) pa_nil)) pa_nil))) pa_nil))))))
    (pss_cons (ps_set (i := 6) sc__law_tree.nd rfl (Or.inl rfl) (pe_lst pa_nil))
    (pss_cons (ps_if (PW.pt (pw_and (pt_cmpR op_gt (pe_callB call_len_seq (by rfl) T.len PySem.boot_len (pa_cons (pv 2) pa_nil)) pe_int (nomark _)) (pw_and1 (pt_cmpR op_eq (pe_call (ok__law_draw T) (hr.mono (by decide)) (by rfl) T.g__law_draw T.F__law_draw.kp T.b__law_draw .nil pass0 (pa_cons (pv 0) (pa_cons pe_int pa_nil))) pe_int (nomark _)))))
      (pss_one (ps_expr (pe_bm PySem.F.plainAttrs_list PySem.F.slot_list_append PySem.F.type_list_append mt_append (pv 6) (pa_cons (pe_tup (pa_cons pe_int (pa_cons (pe_ix ix_tup (pe_call (ok__law_expression T) (hr.mono (by decide)) (by rfl) T.g__law_expression T.F__law_expression.kp T.b__law_expression .nil pass0 (pa_cons (pv 0) (pa_cons (pv 2) (pa_cons pe_int pa_nil)))) pe_int (fun _ _ => rfl)) pa_nil))) pa_nil))))
      pss_nil)
    (pss_cons (ps_set (i := 7) sc__law_tree.nd rfl (Or.inl rfl) (pe_lst pa_nil))
    (pss_cons (ps_for PassesOwn.never rfl (pi_list (pv 4)) (pg_name (i := 8) sc__law_tree.nd rfl (Or.inl rfl))
      (pss_cons (ps_set (i := 10) sc__law_tree.nd rfl (Or.inl rfl) (pe_op op_cat (pe_op op_cat (pv 2) (pe_lc (own := [("_law_param", 12)]) (g := gName 12) (tt := tYes) (by rfl) sc__law_tree.nd (pi_tup (pe_ix ix_tup (pv 8) pe_int (fun _ _ => rfl))) (blkOk_by (own := [("_law_param", 12)]) (N := ["_law_pool_here", "_law_words", "_law_names_here", "_law_kinds", "_law_heads_here", "_law_k", "_law_keeps", "_law_functions", "_law_head", "_law_params", "_law_own", "_law_first", "_law_param"]) (sc := defScope s__law_tree) (by decide +kernel)) (fun _ _ _ _ _ => pg_name (i := 12) sc__law_tree.nd rfl (Or.inl rfl)) (fun _ _ _ _ _ => pts_nil) (fun _ _ _ _ _ => (pe_ix (show IxR _ (rIxT K) from ix_tup) (pv 12) pe_int (fun _ _ => rfl))))) (pe_lst (pa_cons (pe_ix ix_list (pv 1) pe_int (fun _ _ => rfl)) pa_nil))))
      (pss_cons (ps_set (i := 11) sc__law_tree.nd rfl (Or.inl rfl) (pe_tup (pa_cons pe_str (pa_cons (pe_ix ix_list (pv 1) pe_int (fun _ _ => rfl)) (pa_cons (pe_call (ok__law_expression T) (hr.mono (by decide)) (by rfl) T.g__law_expression T.F__law_expression.kp T.b__law_expression .nil pass0 (pa_cons (pv 0) (pa_cons (pe_slice sl_list (pv 10) po_none (po_some (pe_un un_neg pe_int))) (pa_cons pe_int pa_nil)))) pa_nil)))))
      (pss_one (ps_expr (pe_bm PySem.F.plainAttrs_list PySem.F.slot_list_append PySem.F.type_list_append mt_append (pv 7) (pa_cons (pe_op op_catT (pv 8) (pe_tup (pa_cons (pe_op op_catT (pe_tup (pa_cons (pv 11) pa_nil)) (pe_call (ok__law_block T) (hr.mono (by decide)) (by rfl) T.g__law_block T.F__law_block.kp T.b__law_block .nil pass0 (pa_cons (pv 0) (pa_cons (pe_tup (pa_cons (pv 10) (pa_cons (pv 3) (pa_cons (pv 4) pa_nil)))) (pa_cons pe_int (pa_cons pe_bl pa_nil)))))) pa_nil))) pa_nil)))))))
    (pss_one (ps_ret (pe_tup (pa_cons (pe_callTy call_tuple_of (by rfl) T.tuple (by decide +kernel) (pa_cons (pv 2) pa_nil)) (pa_cons (pe_callTy call_tuple_of (by rfl) T.tuple (by decide +kernel) (pa_cons (pv 3) pa_nil)) (pa_cons (pe_callTy call_tuple_of (by rfl) T.tuple (by decide +kernel) (pa_cons (pv 6) pa_nil)) (pa_cons (pe_callTy call_tuple_of (by rfl) T.tuple (by decide +kernel) (pa_cons (pv 7) pa_nil)) pa_nil)))))))))))))))), ?_⟩
  refine ⟨_, rfl, p, l, n, _, rfl, hP, by omega, fun H1 W ch sh P1 k1 hWp hWl nW hch hs0 hs1 hW => ?_⟩
  have hnd := names_nodup ch sh
  have hok := names_ok (s := sh) hch
  obtain ⟨f, ew⟩ : ∃ f : Nat → Str, namesL ch sh = wsL f := ⟨nameL ch sh, rfl⟩
  rw [ew] at hnd hok hW
  have hf : ∀ k < 16, NameOk (f k) := fun k hk => hok _ (List.mem_map.mpr ⟨k, List.mem_range.mpr hk, rfl⟩)
  have hwl : ((wsL f).map V.str).length = 16 := by
    unfold wsL
    rw [List.length_map, List.length_map, List.length_range]
  dsimp only [gName]
  -- the globals
  refine st_seq ⟨_, rfl, _, rfl, p, l, _, _, 3, rfl, P1, by omega, by decide, log_small (by decide) (by decide), fun r2 H2 r20 r21 P2 f2 => ?_⟩
  have k12 : Keep p l H1 H2 := Keep.draw f2
  have hW2 := k12 _ _ hW hWp hWl
  obtain ⟨j, rfl⟩ : ∃ j : Nat, r2 = (j : Int) := ⟨r2.toNat, by omega⟩
  have hj : j ≤ 2 := by omega
  refine ⟨_, rfl, W, _, rfl, SqL.of hW2, fun N nN => ?_⟩
  have hNo := P2.off nN
  have sN := same_upd (o := .lst (cutV ((wsL f).map V.str) none (some (j : Int)))) nN
  have P3 := P2.fresh (o := .lst (cutV ((wsL f).map V.str) none (some (j : Int)))) nN
  have hN : (upd H2 N (.lst (cutV ((wsL f).map V.str) none (some (j : Int))))) N = some (.lst (((wsL f).take j).map V.str)) := by
    rw [upd_same, cut_take2, List.map_take]
  have hW3 := sN _ _ hW2
  dsimp only [gName]
  generalize upd H2 N (.lst (cutV ((wsL f).map V.str) none (some (j : Int)))) = H3 at sN P3 hN hW3
  have k3 := (k1.trans k12).trans (Keep.of sN)
  -- the kinds
  refine st_seq ⟨_, rfl, 3, rfl, _, rfl, p, l, _, _, 2, rfl, P3, by omega, by decide, log_small (by decide) (by decide), fun r4 H4 r40 r41 P4 f4 => ?_⟩
  have k34 : Keep p l H3 H4 := Keep.draw f4
  have hW4 := k34 _ _ hW3 hWp hWl
  have hN4 := k34 _ _ hN hNo.1 hNo.2
  obtain ⟨jk, rfl⟩ : ∃ j : Nat, r4 = (j : Int) := ⟨r4.toNat, by omega⟩
  have ek : (4 : Int) + (jk : Int) = ((4 + jk : Nat) : Int) := by omega
  refine ⟨_, _, rfl, rfl, _, rfl, W, _, rfl, SqL.of hW4, fun Kd nK => ?_⟩
  have hKo := P4.off nK
  have sK := same_upd (o := .lst (cutV ((wsL f).map V.str) (some 3) (some (4 + (jk : Int))))) nK
  have P5 := P4.fresh (o := .lst (cutV ((wsL f).map V.str) (some 3) (some (4 + (jk : Int))))) nK
  generalize hks : ((wsL f).drop 3).take (jk + 1) = ks
  have hKd : (upd H4 Kd (.lst (cutV ((wsL f).map V.str) (some 3) (some (4 + (jk : Int)))))) Kd = some (.lst (ks.map V.str)) := by
    rw [upd_same, ek, show (some (3 : Int)) = some ((3 : Nat) : Int) from rfl, cut_mid (by omega) (by omega), ← hks, List.map_take, List.map_drop, show 4 + jk - 3 = jk + 1 by omega]
  have kOk : KsOk ks := by
    subst hks
    refine ⟨⟨fun v hv => hok v (List.mem_of_mem_drop (List.mem_of_mem_take hv)), by rw [List.length_take]; omega⟩, fun z => ?_⟩
    have := congrArg List.length z
    have hl : (wsL f).length = 16 := by rw [List.length_map] at hwl; exact hwl
    rw [List.length_take, List.length_drop, hl, List.length_nil] at this
    omega
  have hW5 := sK _ _ hW4
  have hN5 := sK _ _ hN4
  dsimp only [gName]
  generalize upd H4 Kd (.lst (cutV ((wsL f).map V.str) (some 3) (some (4 + (jk : Int))))) = H5 at sK P5 hKd hW5 hN5
  have k5 := (k3.trans k34).trans (Keep.of sK)
  clear hks ek
  -- the heads
  refine st_seq ⟨Nat.zero_le _, fun Hd nH => ?_⟩
  have hHo := P5.off nH
  have sH := same_upd (o := .lst []) nH
  have P6 := P5.fresh (o := .lst []) nH
  have hHd : (upd H5 Hd (.lst [])) Hd = some (.lst []) := upd_same
  have hW6 := sH _ _ hW5
  have hN6 := sH _ _ hN5
  have hK6 := sH _ _ hKd
  dsimp only [gName]
  generalize upd H5 Hd (.lst []) = H6 at sH P6 hHd hW6 hN6 hK6
  have k6 := k5.trans (Keep.of sH)
  have nHd : H Hd = none := k5.free nH hHo.1 hHo.2
  have nK0 : H Kd = none := (k3.trans k34).free nK hKo.1 hKo.2
  have nN0 : H N = none := (k1.trans k12).free nN hNo.1 hNo.2
  have hWH : W ≠ Hd := ne_of_none hW5 nH
  have hNH : N ≠ Hd := ne_of_none hN5 nH
  have hKH : Kd ≠ Hd := ne_of_none hKd nH
  refine st_seq ⟨_, rfl, p, l, _, _, 3, rfl, P6, by omega, by decide, log_small (by decide) (by decide), fun r7 H7 r70 r71 P7 f7 => ?_⟩
  have k67 : Keep p l H6 H7 := Keep.draw f7
  obtain ⟨jh, rfl⟩ : ∃ j : Nat, r7 = (j : Int) := ⟨r7.toNat, by omega⟩
  refine ⟨_, _, rfl, rfl, _, rfl, by omega, by omega, ?_⟩
  refine for_range (lo := 0) (n := ((1 : Int) + (jh : Int)).toNat) (fun i σ H' => ∃ (v5 v9 : Option V) (hl : List (Str × List (Str × Bool))) (ys : List V), σ = [some (.ref p), some (.ref W), some (.ref N), some (.ref Kd), some (.ref Hd), v5, none, none, none, v9, none, none, none] ∧ PoolAt H' p l (n + 2 + 1 + 1 + 1 + 3 * i) 30 ∧ Keep p l H H' ∧ H' W = some (.lst ((wsL f).map V.str)) ∧ H' N = some (.lst (((wsL f).take j).map V.str)) ∧ H' Kd = some (.lst (ks.map V.str)) ∧ H' Hd = some (.lst ys) ∧ Dvs H' ys (DL.of (hl.map dHead)) ∧ hl.length = i ∧ ∀ h ∈ hl, HdOk f h)
    ⟨none, none, [], [], rfl, P7.mono (by omega), k6.trans k67, k67 _ _ hW6 hWp hWl, k67 _ _ hN6 hNo.1 hNo.2, k67 _ _ hK6 hKo.1 hKo.2, k67 _ _ hHd hHo.1 hHo.2, rfl, rfl, (fun h hh => by cases hh)⟩ ?_ ?_
  · rintro i σ H8 hi ⟨v5, v9, hl, ys, rfl, P8, k8, hW8, hN8, hK8, hH8, hD8, hll, hho⟩
    have hi3 : i < 3 := by omega
    have hyl := hD8.len
    rw [List.length_map] at hyl
    dsimp only [gName]
    have a8 : atI ((wsL f).map V.str) 8 = some (.str (f 8)) := atI_nat (j := 8) (wsL_at f (by decide))
    have a9 : atI ((wsL f).map V.str) 9 = some (.str (f 9)) := atI_nat (j := 9) (wsL_at f (by decide))
    refine st_seq ⟨_, rfl, W, _, _, _, rfl, rfl, SqL.of hW8, a8, _, rfl, p, l, _, _, 2, rfl, P8, by omega, by decide, log_small (by decide) (by decide), fun b1 H9 b10 b11 P9 f9 => ⟨rfl, (by show 2 ≤ sizeLine; decide), fun t1 n1 => ?_⟩⟩
    have k89 : Keep p l H8 H9 := Keep.draw f9
    have s10 := same_upd (o := .tup [.str (f 8), .bl (decide (V.int b1 = V.int 1))]) n1
    have P10 := P9.fresh (o := .tup [.str (f 8), .bl (decide (V.int b1 = V.int 1))]) n1
    have ht1 : (upd H9 t1 (.tup [.str (f 8), .bl (decide (V.int b1 = V.int 1))])) t1 = some (.tup [.str (f 8), .bl (decide (V.int b1 = V.int 1))]) := upd_same
    generalize upd H9 t1 (.tup [.str (f 8), .bl (decide (V.int b1 = V.int 1))]) = H10 at s10 P10 ht1
    have k810 := k89.trans (Keep.of s10)
    refine ⟨_, rfl, W, _, _, _, rfl, rfl, SqL.of (k810 _ _ hW8 hWp hWl), a9, _, rfl, p, l, _, _, 2, rfl, P10, by omega, by decide, log_small (by decide) (by decide), fun b2 H11 b20 b21 P11 f11 => ⟨rfl, (by show 2 ≤ sizeLine; decide), fun t2 n2 => ⟨(by show 2 ≤ sizeLine; decide), fun LP nLP => ?_⟩⟩⟩
    have k1011 : Keep p l H10 H11 := Keep.draw f11
    have s12 := same_upd (o := .tup [.str (f 9), .bl (decide (V.int b2 = V.int 1))]) n2
    have P12 := P11.fresh (o := .tup [.str (f 9), .bl (decide (V.int b2 = V.int 1))]) n2
    have ht2 : (upd H11 t2 (.tup [.str (f 9), .bl (decide (V.int b2 = V.int 1))])) t2 = some (.tup [.str (f 9), .bl (decide (V.int b2 = V.int 1))]) := upd_same
    generalize upd H11 t2 (.tup [.str (f 9), .bl (decide (V.int b2 = V.int 1))]) = H12 at s12 P12 ht2 nLP
    have s13 := same_upd (o := .lst [.ref t1, .ref t2]) nLP
    have P13 := P12.fresh (o := .lst [.ref t1, .ref t2]) nLP
    have hLPo := P12.off nLP
    have hLP : (upd H12 LP (.lst [.ref t1, .ref t2])) LP = some (.lst [.ref t1, .ref t2]) := upd_same
    have ht1' := s13 _ _ (s12 _ _ ((TK.keep P10 k1011) _ _ ht1))
    have ht2' := s13 _ _ ht2
    dsimp only [gName]
    generalize upd H12 LP (.lst [.ref t1, .ref t2]) = H13 at s13 P13 hLP ht1' ht2'
    have k813 := ((k810.trans k1011).trans (Keep.of s12)).trans (Keep.of s13)
    have hW13 := k813 _ _ hW8 hWp hWl
    have hH13 := k813 _ _ hH8 hHo.1 hHo.2
    refine ⟨_, rfl, .inl ⟨rfl, _, SqL.of hH13⟩, _, rfl, _, rfl, _, _, rfl, rfl, W, _, _, _, rfl, rfl, SqL.of hW13, (show atI ((wsL f).map V.str) (5 + (0 + (i : Int))) = some (.str (f (5 + i))) by
      rw [show (5 : Int) + (0 + (i : Int)) = ((5 + i : Nat) : Int) by omega]
      exact atI_nat (wsL_at f (by omega))), _, rfl, _, rfl, p, l, _, _, 3, rfl, P13, by omega, by decide, log_small (by decide) (by decide), fun r14 H14 r140 r141 P14 f14 => ?_⟩
    have k1314 : Keep p l H13 H14 := Keep.draw f14
    have tk1314 : TK H13 H14 := TK.keep P13 k1314
    obtain ⟨jp, rfl⟩ : ∃ j : Nat, r14 = (j : Int) := ⟨r14.toNat, by omega⟩
    refine ⟨_, rfl, LP, _, rfl, SqL.of (k1314 _ _ hLP hLPo.1 hLPo.2), fun q15 n15 => ?_⟩
    have s15 := same_upd (o := .lst (cutV [.ref t1, .ref t2] none (some (jp : Int)))) n15
    have P15 := P14.fresh (o := .lst (cutV [.ref t1, .ref t2] none (some (jp : Int)))) n15
    have hq15 : (upd H14 q15 (.lst (cutV [.ref t1, .ref t2] none (some (jp : Int))))) q15 = some (.lst ([V.ref t1, .ref t2].take jp)) := by
      rw [upd_same, cut_take2]
    generalize upd H14 q15 (.lst (cutV [.ref t1, .ref t2] none (some (jp : Int)))) = H15 at s15 P15 hq15
    refine ⟨q15, _, rfl, .inl ⟨SqL.of hq15, fun q16 n16 => ⟨(by show 2 ≤ sizeLine; decide), fun q17 n17 => ?_⟩⟩⟩
    have s16 := same_upd (o := .tup ([V.ref t1, .ref t2].take jp)) n16
    have P16 := P15.fresh (o := .tup ([V.ref t1, .ref t2].take jp)) n16
    have hq16 : (upd H15 q16 (.tup ([V.ref t1, .ref t2].take jp))) q16 = some (.tup ([V.ref t1, .ref t2].take jp)) := upd_same
    generalize upd H15 q16 (.tup ([V.ref t1, .ref t2].take jp)) = H16 at s16 P16 hq16 n17
    have s17 := same_upd (o := .tup [.str (f (5 + i)), .ref q16]) n17
    have k17 := ((k1314.trans (Keep.of s15)).trans (Keep.of s16)).trans (Keep.of s17)
    have hH17 := k17 _ _ hH13 hHo.1 hHo.2
    have kk := k813.trans k17
    have tk := (TK.keep P8 kk).trans (TK.upd (x := .lst (ys ++ [.ref q17])) hH17 (fun _ z => by cases z))
    have tk18 : TK (upd H16 q17 (.tup [.str (f (5 + i)), .ref q16])) (upd (upd H16 q17 (.tup [.str (f (5 + i)), .ref q16])) Hd (.lst (ys ++ [.ref q17]))) := TK.upd hH17 (fun _ z => by cases z)
    have tk13 := (TK.keep P13 k17).trans tk18
    refine ⟨Hd, _, _, rfl, rfl, hH17, bigLine (by omega), ?_⟩
    refine ⟨_, _, hl ++ [(f (5 + i), [(f 8, decide (V.int b1 = V.int 1)), (f 9, decide (V.int b2 = V.int 1))].take jp)], ys ++ [.ref q17], rfl, ((P16.fresh n17).put hHo.1 hHo.2).mono (by push_cast; omega), (k8.trans kk).mut nHd, ?_, ?_, ?_, upd_same, ?_, by rw [List.length_append, hll]; rfl, ?_⟩
    · rw [upd_ne hWH]
      exact kk _ _ hW8 hWp hWl
    · rw [upd_ne hNH]
      exact kk _ _ hN8 hNo.1 hNo.2
    · rw [upd_ne hKH]
      exact kk _ _ hK8 hKo.1 hKo.2
    · rw [List.map_append]
      have d1 : Dv (upd (upd H16 q17 (.tup [.str (f (5 + i)), .ref q16])) Hd (.lst (ys ++ [.ref q17]))) (.ref t1) (dPa (f 8, decide (V.int b1 = V.int 1))) := ⟨t1, _, rfl, tk13 _ _ ht1', _, _, rfl, rfl, _, _, rfl, rfl, rfl⟩
      have d2 : Dv (upd (upd H16 q17 (.tup [.str (f (5 + i)), .ref q16])) Hd (.lst (ys ++ [.ref q17]))) (.ref t2) (dPa (f 9, decide (V.int b2 = V.int 1))) := ⟨t2, _, rfl, tk13 _ _ ht2', _, _, rfl, rfl, _, _, rfl, rfl, rfl⟩
      have dd : Dvs (upd (upd H16 q17 (.tup [.str (f (5 + i)), .ref q16])) Hd (.lst (ys ++ [.ref q17]))) ([V.ref t1, .ref t2].take jp) (DL.of (([(f 8, decide (V.int b1 = V.int 1)), (f 9, decide (V.int b2 = V.int 1))].take jp).map dPa)) := by
        match jp, r141 with
        | 0, _ => exact rfl
        | 1, _ => exact ⟨_, _, rfl, d1, rfl⟩
        | 2, _ => exact ⟨_, _, rfl, d1, _, _, rfl, d2, rfl⟩
        | m + 3, h => exact absurd h (by omega)
      have dh : Dv (upd (upd H16 q17 (.tup [.str (f (5 + i)), .ref q16])) Hd (.lst (ys ++ [.ref q17]))) (.ref q17) (dHead (f (5 + i), [(f 8, decide (V.int b1 = V.int 1)), (f 9, decide (V.int b2 = V.int 1))].take jp)) := ⟨q17, _, rfl, tk18 _ _ upd_same, _, _, rfl, rfl, .ref q16, _, rfl, ⟨q16, _, rfl, tk18 _ _ (s17 _ _ hq16), dd⟩, rfl⟩
      exact Dvs.app dh (hD8.mono tk)
    · intro h hh
      rcases List.mem_append.mp hh with hh | hh
      · exact hho h hh
      · rw [List.mem_singleton.mp hh]
        exact ⟨hf _ (by omega), _, _, jp, by omega, rfl⟩
  rintro σ H8 ⟨v5, v9, hl, ys, rfl, P8, k8, hW8, hN8, hK8, hH8, hD8, hll, hho⟩
  have hlo : HsOk hl := ⟨fun h hh => ⟨(hho h hh).nm, (hho h hh).psOk hf⟩, by omega, fun z => by rw [z] at hll; simp at hll; omega⟩
  have hll3 : hl.length ≤ 3 := hlo.len
  have nmo : NmsOk ((wsL f).take j) := ⟨fun v hv => hok v (List.mem_of_mem_take hv), List.Nodup.sublist (List.take_sublist _ _) hnd, by rw [List.length_take]; omega⟩
  -- the keeps
  dsimp only
  refine st_seq ⟨Nat.zero_le _, fun Kp nP => ?_⟩
  have hPo := P8.off nP
  have sP := same_upd (o := .lst []) nP
  have P9 := P8.fresh (o := .lst []) nP
  have hP9 : (upd H8 Kp (.lst [])) Kp = some (.lst []) := upd_same
  have nP0 : H Kp = none := k8.free nP hPo.1 hPo.2
  dsimp only [gName]
  generalize upd H8 Kp (.lst []) = H9 at sP P9 hP9
  have k89 : Keep p l H8 H9 := Keep.of sP
  have n8 : (n + 2 + 1 + 1 + 1 + 3 * ((((1 : Int) + (jh : Int)).toNat : Nat) : Int)) ≤ n + 14 := by omega
  have P9 := P9.mono n8
  clear n8
  refine st_seq (if_dropB (b1 := decide (((((wsL f).take j).map V.str).length : Int) > 0)) (fun b H' => PoolAt H' p l (n + 14 + 1) 30 ∧ Keep p l H9 H') (fun H' => ∃ (kp : List Ex) (ys : List V), PoolAt H' p l (n + 22) 30 ∧ Keep p l H8 H' ∧ H' Kp = some (.lst ys) ∧ Dvs H' ys (DL.of (kp.map dE)) ∧ kp.length ≤ 1 ∧ ∀ e ∈ kp, ExOk e)
    (fun Q q => ⟨_, rfl, N, _, rfl, .inl (SqL.of (k89 _ _ hN8 hNo.1 hNo.2)), _, _, rfl, rfl, _, rfl, q⟩) (fun _ => ⟨[], [], P9.mono (by omega), k89, hP9, rfl, Nat.zero_le _, fun e he => by cases he⟩)
    (fun Q _ q => ⟨_, rfl, p, l, _, _, 2, rfl, P9, by omega, by decide, log_small (by decide) (by decide), fun r H' r0 r1 P' f' => ⟨rfl, _, rfl, q _ _ ⟨P', Keep.draw f'⟩⟩⟩) (fun H10 ⟨P10, k10⟩ Q' q' => ?_) (fun H10 ⟨P10, k10⟩ => ⟨[], [], P10.mono (by omega), k89.trans k10, k10 _ _ hP9 hPo.1 hPo.2, rfl, Nat.zero_le _, fun e he => by cases he⟩) ?_)
  · have k810 := k89.trans k10
    refine ⟨_, rfl, .inl ⟨rfl, _, SqL.of (k10 _ _ hP9 hPo.1 hPo.2)⟩, _, rfl, _, rfl, p, l, N, _, _, (wsL f).take j, rfl, P10, by omega, k810 _ _ hN8 hNo.1 hNo.2, hNo.1, hNo.2, nmo, fun e v H11 eok hv P11 k11 => ?_⟩
    obtain ⟨pe, pt, as, rfl, hpe, hpt, hR⟩ := hv.ex
    refine ⟨pe, _, _, _, rfl, rfl, .inl (.inl hpe), atI_nat (j := 1) rfl, (by show 2 ≤ sizeLine; decide), fun q12 n12 => ?_⟩
    have s12 := same_upd (o := .tup [.int 0, .ref pt]) n12
    have k12' := (k10.trans k11).trans (Keep.of s12)
    have hP12 := k12' _ _ hP9 hPo.1 hPo.2
    refine ⟨Kp, _, _, rfl, rfl, hP12, (by show 0 < sizeLine; decide), ?_⟩
    have tk : TK (upd H11 q12 (.tup [.int 0, .ref pt])) (upd (upd H11 q12 (.tup [.int 0, .ref pt])) Kp (.lst ([] ++ [.ref q12]))) := TK.upd hP12 (fun _ z => by cases z)
    have tk11 := (TK.of s12).trans tk
    refine q' _ _ ⟨[(0, e.2)], [.ref q12], ((P11.fresh n12).put hPo.1 hPo.2).mono (by omega), (k89.trans k12').mut nP, upd_same, ⟨_, _, rfl, ?_, rfl⟩, Nat.le_refl 1, fun x hx => ?_⟩
    · exact Dv.of_ex (e := (0, e.2)) (tk _ _ upd_same) (tk11 _ _ hpt) (hR.tk tk11)
    · rw [List.mem_singleton.mp hx]
      exact ⟨eok.srt, eok.nm, eok.len, by show (-10 : Int) < 0 ∧ (0 : Int) < 10; decide⟩
  rintro H10 ⟨kp, kys, P10, k810, hP10, hD10, hkl, hke⟩
  have k10 := k8.trans k810
  have hkyl := hD10.len
  rw [List.length_map] at hkyl
  clear P9 hP9 sP
  dsimp only
  -- the functions
  refine st_seq ⟨Nat.zero_le _, fun F nF => ?_⟩
  have hFo := P10.off nF
  have sF := same_upd (o := .lst []) nF
  have P11 := P10.fresh (o := .lst []) nF
  have hF11 : (upd H10 F (.lst [])) F = some (.lst []) := upd_same
  have nF0 : H F = none := k10.free nF hFo.1 hFo.2
  dsimp only [gName]
  generalize upd H10 F (.lst []) = H11 at sF P11 hF11
  have hH10 := k810 _ _ hH8 hHo.1 hHo.2
  refine st_seq ⟨_, rfl, Hd, rfl, ⟨_, SqL.of (sF _ _ hH10)⟩, for_list (K := K) (a := Hd) (xs := ys) (fun i σ H' => ∃ (v8 v10 v11 : Option V) (fs : List FnT) (zs : List V) (b' : Nat), σ = [some (.ref p), some (.ref W), some (.ref N), some (.ref Kd), some (.ref Hd), v5, some (.ref Kp), some (.ref F), v8, v9, v10, v11, none] ∧ b' ≤ 30 ∧ PoolAt H' p l (n + 22 + 8 * i + 60 * (30 - (b' : Int))) (b' : Nat) ∧ Keep p l H10 H' ∧ H' F = some (.lst zs) ∧ Dvs H' zs (DL.of (fs.map dFn)) ∧ fs.length = i ∧ (∀ f ∈ fs, FnOk3 f) ∧ (fs.map fun f => f.bk.sz).sum + b' = 30 + i)
    ⟨none, none, none, [], [], 30, rfl, Nat.le_refl _, P11.mono (by omega), Keep.of sF, hF11, rfl, rfl, (fun f h => by cases h), rfl⟩ (fun i σ H' _ ⟨_, _, _, _, _, _, _, _, _, k', _⟩ => SqL.of (k' _ _ hH10 hHo.1 hHo.2)) ?_ ?_⟩
  · rintro i x σ H12 hi ⟨v8, v10, v11, fs, zs, b', rfl, hb', P12, k12, hF12, hD12, hfl, hfo, hsz⟩
    have hi3 : i < 3 := by
      have := (List.getElem?_eq_some_iff.mp hi).1
      have := hD8.len
      rw [List.length_map] at this
      omega
    have hzl := hD12.len
    rw [List.length_map] at hzl
    have k812 := k810.trans k12
    have tk812 : TK H8 H12 := TK.keep P8 k812
    obtain ⟨d, hd, hx⟩ := (hD8.mono tk812).get hi
    obtain ⟨hh, hhi, rfl⟩ := get_map hd
    have hhm := List.mem_of_getElem? hhi
    have hdk := hho hh hhm
    obtain ⟨ip, hip, epn⟩ := hdk.names
    have pok := hdk.psOk hf
    have ppl := pok.len
    obtain ⟨r, _, rfl, hr, _, _, rfl, rfl, u2, _, rfl, hu2, rfl⟩ := hx
    have hu2' := hu2
    obtain ⟨pp, xs, rfl, hpp, hxs⟩ := hu2'
    have hxl := hxs.len
    rw [List.length_map] at hxl
    dsimp only [gName]
    refine st_seq ⟨_, rfl, _, rfl, r, _, _, _, rfl, rfl, .inl (.inl hr), atI_nat (j := 1) rfl, pp, rfl, ⟨_, .inl (.inl hpp)⟩, fun A1 nA => ?_⟩
    have hAo := P12.off nA
    refine lc_tup (K := K) (a := pp) (xs := xs) (fun i H' => Same H12 H' ∧ H' A1 = some (.lst (((hh.2.take i).map (·.1)).map V.str))) ⟨same_upd nA, upd_same⟩ (fun i H' _ hh => .inl (.inl (hh.1 _ _ hpp))) ?_ ?_
    · rintro i2 x2 H' hi2 ⟨s2, hA2⟩
      obtain ⟨d, hd, hx⟩ := hxs.get hi2
      obtain ⟨pa, hpa, rfl⟩ := get_map hd
      obtain ⟨r2, _, rfl, hr2, _, _, rfl, rfl, _, _, rfl, rfl, rfl⟩ := hx
      refine ⟨rfl, _, rfl, r2, _, _, _, rfl, rfl, .inl (.inl (s2 _ _ hr2)), atI_nat (j := 0) rfl, _, hA2, ?_, same_mut s2 nA, ?_⟩
      · rw [List.length_map]
        exact len_take ppl (by decide)
      · rw [upd_same, List.take_add_one, hpa, List.map_append, List.map_append]
        rfl
    rintro H13 ⟨s13, hA13⟩
    rw [hxl, List.take_length] at hA13
    have P13 := P12.same s13
    have k13 := k12.trans (Keep.of s13)
    have hN13 := k13 _ _ (k810 _ _ hN8 hNo.1 hNo.2) hNo.1 hNo.2
    have hW13 := k13 _ _ (k810 _ _ hW8 hWp hWl) hWp hWl
    have eow : ((wsL f).take j ++ hh.2.map (·.1)) ++ [f 10] = ((List.range 16).take j ++ [8, 9].take ip ++ [10]).map f := by
      have e1 : (wsL f).take j = ((List.range 16).take j).map f := by
        unfold wsL
        rw [List.map_take]
      rw [e1, epn, List.map_append, List.map_append]
      rfl
    have eon : NmsOk (((wsL f).take j ++ hh.2.map (·.1)) ++ [f 10]) := by
      rw [eow]
      refine ⟨fun v hv => ?_, sub_nodup hnd (own_sub hj hip), by rw [List.length_map]; exact Nat.le_trans (own_len hj hip) (by decide)⟩
      obtain ⟨y, hy, rfl⟩ := List.mem_map.mp hv
      exact hf y (List.mem_range.mp ((own_sub hj hip).subset hy))
    generalize eo : (wsL f).take j ++ hh.2.map (·.1) = on at eon
    have onl : on.length ≤ 4 := by
      rw [← eo, List.length_append, List.length_take, List.length_map]
      omega
    have eon1 : NmsOk on := ⟨fun v hv => eon.nm v (List.mem_append_left _ hv), List.Nodup.sublist (List.sublist_append_left _ _) eon.nd, by omega⟩
    refine ⟨N, A1, _, _, rfl, rfl, hN13, hA13, bigLe (by rw [List.length_map, List.length_map, List.length_map, List.length_take]; omega), fun O1 nO1 => ?_⟩
    have sO1 := same_upd (o := .lst (((wsL f).take j).map V.str ++ (hh.2.map (·.1)).map V.str)) nO1
    have P14 := P13.fresh (o := .lst (((wsL f).take j).map V.str ++ (hh.2.map (·.1)).map V.str)) nO1
    have hO1 : (upd H13 O1 (.lst (((wsL f).take j).map V.str ++ (hh.2.map (·.1)).map V.str))) O1 = some (.lst (on.map V.str)) := by
      rw [upd_same, ← eo, List.map_append]
    generalize upd H13 O1 (.lst (((wsL f).take j).map V.str ++ (hh.2.map (·.1)).map V.str)) = H14 at sO1 P14 hO1
    refine ⟨_, rfl, W, _, _, _, rfl, rfl, SqL.of (sO1 _ _ hW13), atI_nat (j := 10) (wsL_at f (by decide)), (by show 1 ≤ sizeLine; decide), fun O2 nO2 => ?_⟩
    have sO2 := same_upd (o := .lst [.str (f 10)]) nO2
    have P15 := P14.fresh (o := .lst [.str (f 10)]) nO2
    have hO2 : (upd H14 O2 (.lst [.str (f 10)])) O2 = some (.lst [.str (f 10)]) := upd_same
    have hO1' := sO2 _ _ hO1
    generalize upd H14 O2 (.lst [.str (f 10)]) = H15 at sO2 P15 hO2 hO1'
    refine ⟨O1, O2, _, _, rfl, rfl, hO1', hO2, bigLe (by rw [List.length_map, List.length_singleton]; omega), fun O nO => ?_⟩
    have hOo := P15.off nO
    have sO := same_upd (o := .lst (on.map V.str ++ [.str (f 10)])) nO
    have P16 := P15.fresh (o := .lst (on.map V.str ++ [.str (f 10)])) nO
    have hO : (upd H15 O (.lst (on.map V.str ++ [.str (f 10)]))) O = some (.lst ((on ++ [f 10]).map V.str)) := by
      rw [upd_same, List.map_append]
      rfl
    dsimp only [gName]
    generalize upd H15 O (.lst (on.map V.str ++ [.str (f 10)])) = H16 at sO P16 hO
    have k16 := ((k13.trans (Keep.of sO1)).trans (Keep.of sO2)).trans (Keep.of sO)
    have hW16 := k16 _ _ (k810 _ _ hW8 hWp hWl) hWp hWl
    -- the first statement
    refine st_seq ⟨_, rfl, W, _, _, _, rfl, rfl, SqL.of hW16, atI_nat (j := 10) (wsL_at f (by decide)), _, rfl, _, rfl, 1, rfl, _, rfl, O, _, rfl, SqL.of hO, fun q1 n1 => ?_⟩
    have h1o := P16.off n1
    have s1 := same_upd (o := .lst (cutV ((on ++ [f 10]).map V.str) none (some (-1)))) n1
    have P17 := P16.fresh (o := .lst (cutV ((on ++ [f 10]).map V.str) none (some (-1)))) n1
    have hq1 : (upd H16 q1 (.lst (cutV ((on ++ [f 10]).map V.str) none (some (-1))))) q1 = some (.lst (on.map V.str)) := by
      rw [upd_same, List.map_append]
      show some (HO.lst (cutV (on.map V.str ++ [.str (f 10)]) none (some (-1)))) = _
      rw [cut_last]
    have hO17 := s1 _ _ hO
    generalize upd H16 q1 (.lst (cutV ((on ++ [f 10]).map V.str) none (some (-1)))) = H17 at s1 P17 hq1 hO17
    refine ⟨p, l, q1, _, _, on, rfl, P17, by omega, hq1, h1o.1, h1o.2, eon1, fun e1 ve H18 eok hve P18 k1718 => ⟨(by show 3 ≤ sizeLine; decide), fun S nS => ?_⟩⟩
    have sS := same_upd (o := .tup [.str "set", .str (f 10), ve]) nS
    have P19 := P18.fresh (o := .tup [.str "set", .str (f 10), ve]) nS
    have hS : (upd H18 S (.tup [.str "set", .str (f 10), ve])) S = some (.tup [.str "set", .str (f 10), ve]) := upd_same
    have hve19 := hve.mono (TK.of sS)
    have k1619 := ((Keep.of s1).trans k1718).trans (Keep.of sS)
    dsimp only [gName]
    generalize upd H18 S (.tup [.str "set", .str (f 10), ve]) = H19 at sS P19 hS hve19 k1619
    have k19 := k16.trans k1619
    have hO19 := k1619 _ _ hO hOo.1 hOo.2
    have hF19 : ∀ {H'}, Keep p l H12 H' → H' F = some (.lst zs) := fun k => k _ _ hF12 hFo.1 hFo.2
    have k1219 : Keep p l H12 H19 := ((((Keep.of s13).trans (Keep.of sO1)).trans (Keep.of sO2)).trans (Keep.of sO)).trans k1619
    -- the rest
    refine ⟨_, rfl, .inl ⟨rfl, _, SqL.of (hF19 k1219)⟩, _, rfl, _, rfl, (by show 1 ≤ sizeLine; decide), fun q2 n2 => ?_⟩
    have s2 := same_upd (o := .tup [.ref S]) n2
    have P20 := P19.fresh (o := .tup [.ref S]) n2
    have hq2 : (upd H19 q2 (.tup [.ref S])) q2 = some (.tup [.ref S]) := upd_same
    generalize upd H19 q2 (.tup [.ref S]) = H20 at s2 P20 hq2
    refine ⟨_, rfl, _, rfl, _, rfl, _, rfl, (by show 3 ≤ sizeLine; decide), fun env nE => ?_⟩
    have sE := same_upd (o := .tup [.ref O, .ref Kd, .ref Hd]) nE
    have P21 := P20.fresh (o := .tup [.ref O, .ref Kd, .ref Hd]) nE
    have hEn : (upd H20 env (.tup [.ref O, .ref Kd, .ref Hd])) env = some (.tup [.ref O, .ref Kd, .ref Hd]) := upd_same
    generalize upd H20 env (.tup [.ref O, .ref Kd, .ref Hd]) = H21 at sE P21 hEn
    have k1921 : Keep p l H19 H21 := (Keep.of s2).trans (Keep.of sE)
    have k21 := k19.trans k1921
    have k821 := k810.trans k21
    have tk821 : TK H8 H21 := TK.keep P8 k821
    refine ⟨p, l, env, O, Kd, Hd, _, b', 2, false, on ++ [f 10], ks, hl, rfl, by decide, by decide, P21, (show (n + 22 + 8 * (i : Int) + 60 * (30 - (b' : Int)) + 7) + 60 * (b' : Int) + 200 * 3 + 100 ≤ 1000000000000 by omega), ⟨hEn, k1921 _ _ hO19 hOo.1 hOo.2, k821 _ _ hK8 hKo.1 hKo.2, ⟨ys, k821 _ _ hH8 hHo.1 hHo.2, hD8.mono tk821⟩, hOo, hKo, hHo⟩, ⟨eon, by simp, kOk, hlo⟩, fun x v H22 b2 xok xht xl xD xb xsz P22 k2122 => ?_⟩
    have tk2122 : TK H21 H22 := TK.keep P21 k2122
    obtain ⟨pb, bs, rfl, hpb, hbs⟩ := xD
    have k1222 := (k1219.trans k1921).trans k2122
    have tk1222 : TK H12 H22 := TK.keep P12 k1222
    have hq2' := tk2122 _ _ (sE _ _ hq2)
    have hS' := tk2122 _ _ (sE _ _ (s2 _ _ hS))
    have hve' := hve19.mono (((TK.of s2).trans (TK.of sE)).trans tk2122)
    have dset : Dv H22 (.ref S) (dS (.pl (.set (f 10) e1))) := ⟨S, _, rfl, hS', _, _, rfl, rfl, _, _, rfl, rfl, ve, _, rfl, hve', rfl⟩
    have fok : FnOk3 ⟨hh.1, hh.2, .cons (.pl (.set (f 10) e1)) x⟩ := ⟨hdk.nm, pok, ⟨⟨hf 10 (by decide), eok⟩, xok⟩, by
      show max 0 x.ht ≤ 3
      have : x.ht ≤ 3 := xht
      omega⟩
    have hbl := hbs
    rw [dB_of] at hbl
    have hbl := hbl.len
    rw [List.length_map] at hbl
    have last : ∀ (H23 : Hp) (qb q3 q4 : Addr) (cs : List V), Keep p l H22 H23 → PoolAt H23 p l (n + 22 + 8 * i + 60 * (30 - (b' : Int)) + 7 + 1 + 60 * ((b' : Int) - b2)) (b2 : Nat) → H23 qb = some (.tup cs) → Dvs H23 cs (dB (.cons (.pl (.set (f 10) e1)) x)) → H23 q3 = none → (upd H23 q3 (.tup [.ref qb])) q4 = none →
        ∃ (v8 v10 v11 : Option V) (fs : List FnT) (zs' : List V) (b'' : Nat), [some (V.ref p), some (.ref W), some (.ref N), some (.ref Kd), some (.ref Hd), v5, some (.ref Kp), some (.ref F), some (.ref r), v9, some (.ref O), some (.ref S), none] = [some (.ref p), some (.ref W), some (.ref N), some (.ref Kd), some (.ref Hd), v5, some (.ref Kp), some (.ref F), v8, v9, v10, v11, none] ∧ b'' ≤ 30 ∧
          PoolAt (upd (upd (upd H23 q3 (.tup [.ref qb])) q4 (.tup ([.str hh.1, .ref pp] ++ [.ref qb]))) F (.lst (zs ++ [.ref q4]))) p l (n + 22 + 8 * ((i + 1 : Nat) : Int) + 60 * (30 - (b'' : Int))) (b'' : Nat) ∧ Keep p l H10 (upd (upd (upd H23 q3 (.tup [.ref qb])) q4 (.tup ([.str hh.1, .ref pp] ++ [.ref qb]))) F (.lst (zs ++ [.ref q4]))) ∧
          (upd (upd (upd H23 q3 (.tup [.ref qb])) q4 (.tup ([.str hh.1, .ref pp] ++ [.ref qb]))) F (.lst (zs ++ [.ref q4]))) F = some (.lst zs') ∧ Dvs (upd (upd (upd H23 q3 (.tup [.ref qb])) q4 (.tup ([.str hh.1, .ref pp] ++ [.ref qb]))) F (.lst (zs ++ [.ref q4]))) zs' (DL.of (fs.map dFn)) ∧ fs.length = i + 1 ∧ (∀ f ∈ fs, FnOk3 f) ∧ (fs.map fun f => f.bk.sz).sum + b'' = 30 + (i + 1) := by
      intro H23 qb q3 q4 cs k23 P23 hqb hcs n3 n4
      have s3 := same_upd (o := .tup [.ref qb]) n3
      have s4 := same_upd (o := .tup ([.str hh.1, .ref pp] ++ [.ref qb])) n4
      have k25 := (k23.trans (Keep.of s3)).trans (Keep.of s4)
      have hF25 := hF19 (k1222.trans k25)
      have tkF : TK (upd (upd H23 q3 (.tup [.ref qb])) q4 (.tup ([.str hh.1, .ref pp] ++ [.ref qb]))) (upd (upd (upd H23 q3 (.tup [.ref qb])) q4 (.tup ([.str hh.1, .ref pp] ++ [.ref qb]))) F (.lst (zs ++ [.ref q4]))) := TK.upd hF25 (fun _ z => by cases z)
      have tk12 := (TK.keep P12 (k1222.trans k25)).trans tkF
      have tk23 := ((TK.of s3).trans (TK.of s4)).trans tkF
      refine ⟨_, _, _, fs ++ [⟨hh.1, hh.2, .cons (.pl (.set (f 10) e1)) x⟩], zs ++ [.ref q4], b2, rfl, by omega, (((P23.fresh n3).fresh n4).put hFo.1 hFo.2).mono (by push_cast; omega), ((k12.trans k1222).trans k25).mut nF, upd_same, ?_, by rw [List.length_append, hfl]; rfl, ?_, ?_⟩
      · rw [List.map_append]
        have dd : Dv (upd (upd (upd H23 q3 (.tup [.ref qb])) q4 (.tup ([.str hh.1, .ref pp] ++ [.ref qb]))) F (.lst (zs ++ [.ref q4]))) (.ref q4) (dFn ⟨hh.1, hh.2, .cons (.pl (.set (f 10) e1)) x⟩) := ⟨q4, _, rfl, tkF _ _ upd_same, _, _, rfl, rfl, .ref pp, _, rfl, hu2.mono tk12, .ref qb, _, rfl, ⟨qb, _, rfl, tk23 _ _ hqb, hcs.mono tk23⟩, rfl⟩
        exact Dvs.app dd (hD12.mono tk12)
      · intro y hy
        rcases List.mem_append.mp hy with hy | hy
        · exact hfo y hy
        · rw [List.mem_singleton.mp hy]
          exact fok
      · rw [List.map_append, List.sum_append]
        show _ + ((1 + x.sz) + 0) + b2 = 30 + (i + 1)
        omega
    cases bs with
    | nil =>
      refine ⟨q2, pb, _, _, rfl, rfl, .inl (.inl hq2'), .inl (.inl hpb), List.cons_ne_nil _ _, (by show 1 ≤ sizeLine; decide), fun _ => ⟨(by show 1 ≤ sizeLine; decide), fun q3 n3 => ?_⟩, fun z => absurd rfl z⟩
      have s3 := same_upd (o := .tup [.ref q2]) n3
      refine ⟨r, q3, _, _, rfl, rfl, .inl (.inl (s3 _ _ (tk1222 _ _ hr))), .inl (.inl upd_same), List.cons_ne_nil _ _, (by show 3 ≤ sizeLine; decide), fun z => absurd z (List.cons_ne_nil _ _), fun _ q4 n4 => ?_⟩
      have s4 := same_upd (o := .tup ([.str hh.1, .ref pp] ++ [.ref q2])) n4
      exact ⟨F, _, _, rfl, rfl, (s3.trans s4) _ _ (hF19 k1222), bigLine (by omega), last H22 q2 q3 q4 _ (Keep.refl p l _) P22 hq2' ⟨_, _, rfl, dset, hbs⟩ n3 n4⟩
    | cons y yr =>
      refine ⟨q2, pb, _, _, rfl, rfl, .inl (.inl hq2'), .inl (.inl hpb), List.cons_ne_nil _ _, bigLe (by rw [List.length_singleton]; omega), fun z => absurd z (List.cons_ne_nil _ _), fun _ qb nb => ⟨(by show 1 ≤ sizeLine; decide), fun q3 n3 => ?_⟩⟩
      have sb := same_upd (o := .tup ([.ref S] ++ y :: yr)) nb
      have s3 := same_upd (o := .tup [.ref qb]) n3
      refine ⟨r, q3, _, _, rfl, rfl, .inl (.inl ((sb.trans s3) _ _ (tk1222 _ _ hr))), .inl (.inl upd_same), List.cons_ne_nil _ _, (by show 3 ≤ sizeLine; decide), fun z => absurd z (List.cons_ne_nil _ _), fun _ q4 n4 => ?_⟩
      have s4 := same_upd (o := .tup ([.str hh.1, .ref pp] ++ [.ref qb])) n4
      exact ⟨F, _, _, rfl, rfl, ((sb.trans s3).trans s4) _ _ (hF19 k1222), bigLine (by omega), last _ qb q3 q4 _ (Keep.of sb) (P22.fresh nb) upd_same ⟨_, _, rfl, dset.mono (TK.of sb), hbs.mono (TK.of sb)⟩ n3 n4⟩
  rintro σ H12 ⟨v8, v10, v11, fs, zs, b', rfl, hb', P12, k12, hF12, hD12, hfl, hfo, hsz⟩
  have hyl : ys.length = hl.length := by
    have := hD8.len
    rw [List.length_map] at this
    exact this
  have hzl := hD12.len
  rw [List.length_map] at hzl
  have k812 := k810.trans k12
  have tk1012 : TK H10 H12 := TK.keep P10 k12
  dsimp only
  refine ⟨_, rfl, N, _, rfl, .inl ⟨SqL.of (k812 _ _ hN8 hNo.1 hNo.2), fun q1 n1 => ?_⟩⟩
  have s1 := same_upd (o := .tup (((wsL f).take j).map V.str)) n1
  have hq1 : (upd H12 q1 (.tup (((wsL f).take j).map V.str))) q1 = some (.tup (((wsL f).take j).map V.str)) := upd_same
  generalize upd H12 q1 (.tup (((wsL f).take j).map V.str)) = H13 at s1 hq1
  refine ⟨_, rfl, Kd, _, rfl, .inl ⟨SqL.of (s1 _ _ (k812 _ _ hK8 hKo.1 hKo.2)), fun q2 n2 => ?_⟩⟩
  have s2 := same_upd (o := .tup (ks.map V.str)) n2
  have hq2 : (upd H13 q2 (.tup (ks.map V.str))) q2 = some (.tup (ks.map V.str)) := upd_same
  generalize upd H13 q2 (.tup (ks.map V.str)) = H14 at s2 hq2
  refine ⟨_, rfl, Kp, _, rfl, .inl ⟨SqL.of ((s1.trans s2) _ _ (k12 _ _ hP10 hPo.1 hPo.2)), fun q3 n3 => ?_⟩⟩
  have s3 := same_upd (o := .tup kys) n3
  have hq3 : (upd H14 q3 (.tup kys)) q3 = some (.tup kys) := upd_same
  generalize upd H14 q3 (.tup kys) = H15 at s3 hq3
  refine ⟨_, rfl, F, _, rfl, .inl ⟨SqL.of (((s1.trans s2).trans s3) _ _ hF12), fun q4 n4 => ⟨(by show 4 ≤ sizeLine; decide), fun q5 n5 => ?_⟩⟩⟩
  have s4 := same_upd (o := .tup zs) n4
  have hq4 : (upd H15 q4 (.tup zs)) q4 = some (.tup zs) := upd_same
  generalize upd H15 q4 (.tup zs) = H16 at s4 hq4 n5
  have s5 := same_upd (o := .tup [.ref q1, .ref q2, .ref q3, .ref q4]) n5
  have s16 := (((s1.trans s2).trans s3).trans s4).trans s5
  refine q ⟨(wsL f).take j, ks, kp, fs⟩ _ _ ⟨⟨nmo.nm, by rw [List.length_take]; show min j _ ≤ 2; omega⟩, kOk.ok, hke, hkl, hfo, by show fs.length ≤ 3; omega, by show (fs.map fun f => f.bk.sz).sum ≤ 33; omega⟩ ⟨q5, _, rfl, upd_same, .ref q1, _, rfl, Dv.of_strs (s5 _ _ (s4 _ _ (s3 _ _ (s2 _ _ hq1)))), .ref q2, _, rfl, Dv.of_strs (s5 _ _ (s4 _ _ (s3 _ _ hq2))), .ref q3, _, rfl, ⟨q3, _, rfl, s5 _ _ (s4 _ _ hq3), hD10.mono (tk1012.trans (TK.of s16))⟩, .ref q4, _, rfl, ⟨q4, _, rfl, s5 _ _ hq4, hD12.mono (TK.of s16)⟩, rfl⟩ ((TK.keep hP (k10.trans k12)).trans (TK.of s16))
end
end K3
namespace K3
open PySem PySem.Spec PyProof.Rows L2 TL
/-! ### the law's own texts -/
theorem ite_strV {c : TT} {ta tb : TE} {σ : L2.St} {H : Hp} {Q : VK} {x y : Str} {b : Bool} (h : Ans c σ H b) (hx : Val ta σ H (.str x)) (hy : Val tb σ H (.str y)) (q : Q (.str (if b = true then x else y)) H) : tIf c ta tb σ H Q := h _ (by
  cases b with
  | true => exact hx _ q
  | false => exact hy _ q)
theorem set_same : ∀ {σ : L2.St} {i : Nat} {x : V}, σ[i]? = some (some x) → σ.set i (some x) = σ
  | [], _, _, h => by simp at h
  | y :: r, 0, x, h => by
    have : y = some x := Option.some.inj h
    rw [this]
    rfl
  | y :: r, i + 1, x, h => by
    show y :: r.set i (some x) = y :: r
    rw [set_same (σ := r) (i := i) h]
theorem st_iteset {c : TT} {te : TE} {i : Nat} {D : Ends} {σ : L2.St} {H : Hp} {b : Bool} {x y : Str} (h : Ans c σ H b) (hy : Val te σ H (.str y)) (hi : σ[i]? = some (some (.str x))) (q : D.nx (σ.set i (some (.str (if b = true then y else x)))) H) : tIfS c (tAsg te (gName i)) tNext D σ H := by
  cases b with
  | true => exact st_yes h (hy _ q)
  | false =>
    refine st_no h ?_
    show D.nx σ H
    rw [← set_same hi]
    exact q
theorem app_empty (x : Str) : x ++ Str.ofString "" = x := ext_tl (by rw [tl_append, tl_empty, List.append_nil])
theorem body_is {v : Str} {n : Int} : (if (!decide (V.str v = V.str (Str.ofString "")) && decide (V.int n = V.int 1)) = true then v else numT n ++ (if decide (V.str v = V.str (Str.ofString "")) = true then Str.ofString "" else Str.ofString "*" ++ v)) = ltermT v n true := by
  unfold ltermT
  by_cases h : decide (V.str v = V.str (Str.ofString "")) = true
  · rw [if_pos h, if_pos h, h, app_empty]
    rfl
  · rw [if_neg h, if_neg h, Bool.eq_false_iff.mpr h, str_app_assoc]
    rfl
def spSumT : Sp := fun vs H Q _ => ∃ (v : V) (e : Ex), vs = [v] ∧ Dv H v (dE e) ∧ ExOk e ∧ ∀ H', Same H H' → Q (.str (eT e)) H'
section
variable {P : Program} {w : World} {K : PySem.W.Frag} {mg : Str → Option Value} {base : Heap} {a : Ads}
theorem sc__law_expression_text : FnScope ["_law_expression_here", "_law_text_here", "_law_name", "_law_factor", "_law_body"] ["_law_expression_here"] (defScope s__law_expression_text) := ⟨rfl, rfl, rfl, by decide +kernel, rfl, by decide +kernel, by decide +kernel⟩
theorem ok__law_expression_text (T : Txt K mg a) : FnOk P w K mg base CX0 1 a.f__law_expression_text a.f__law_expression_text_d ["_law_expression_here"] spSumT := by
  refine T.F__law_expression_text.ok sc__law_expression_text (fun vs H Q E h => ?_) (fun cdv A outer s H vs Q E hr h => ?_)
  · obtain ⟨v, e, rfl, _⟩ := h
    rfl
  obtain ⟨v, e, rfl, hv, ok, q0⟩ := h
  refine ⟨_, (pss_cons (ps_set (i := 1) sc__law_expression_text.nd rfl (Or.inl rfl) pe_str)
    (pss_cons (ps_for PassesOwn.never rfl (pi_tup (pe_op op_catA (pe_ix ix_tup (pv 0) pe_int (fun _ _ => rfl)) (pe_tup (pa_cons (pe_tup (pa_cons pe_str (pa_cons (pe_ix ix_tup (pv 0) pe_int (fun _ _ => rfl)) pa_nil))) pa_nil)))) (pg_tup (by rfl) (pgs_cons (pg_name (i := 2) sc__law_expression_text.nd rfl (Or.inl rfl)) (pgs_cons (pg_name (i := 3) sc__law_expression_text.nd rfl (Or.inl rfl)) pgs_nil)))
      (pss_cons (ps_set (i := 4) sc__law_expression_text.nd rfl (Or.inl rfl) (pe_op op_add_str (pe_callTy call_str_int (by rfl) T.str (by decide +kernel) (pa_cons (pe_callB call_abs (by rfl) T.abs (by decide +kernel) (pa_cons (pv 3) pa_nil)) pa_nil)) (pe_ifExp (pt_cmpR op_eq (pv 2) pe_str (nomark _)) pe_str (pe_op op_add_str pe_str (pv 2)))))
      (pss_cons (ps_if (PW.pt (pw_and (pt_cmpR op_ne (pv 2) pe_str (nomark _)) (pw_and1 (pt_cmpR op_eq (pe_callB call_abs (by rfl) T.abs (by decide +kernel) (pa_cons (pv 3) pa_nil)) pe_int (nomark _)))))
        (pss_one (ps_set (i := 4) sc__law_expression_text.nd rfl (Or.inl rfl) (pv 2)))
        pss_nil)
      (pss_one (ps_if (pt_cmpR op_ne (pv 3) pe_int (nomark _))
        (pss_one (ps_set (i := 1) sc__law_expression_text.nd rfl (Or.inl rfl) (pe_op op_add_str (pe_op op_add_str (pv 1) (pe_ix ix_list (pe_lst (pa_cons pe_str (pa_cons pe_str pa_nil))) (pe_callTy call_int1 (by rfl) T.int (by decide +kernel) (pa_cons (pe_cmpR op_lt (pv 3) pe_int (nomark _)) pa_nil)) (fun _ _ => rfl))) (pv 4))))
        pss_nil)))))
    (pss_cons (ps_if (pt_cmpR op_eq (pv 1) pe_str (nomark _))
      (pss_one (ps_ret pe_str))
      pss_nil)
    (pss_one (ps_ret (pe_ifExp (pt_cmpR op_eq (pe_ix ix_str (pv 1) pe_int (fun _ _ => rfl)) pe_str (nomark _)) (pe_slice sl_str (pv 1) (po_some pe_int) po_none) (pe_op op_add_str pe_str (pe_slice sl_str (pv 1) (po_some pe_int) po_none)))))))), ?_⟩
  obtain ⟨p, pt, as, rfl, hp, hpt, hR⟩ := hv.ex
  obtain ⟨c, l⟩ := e
  have hRe : Real l := ok.real
  have hF : Fine l := ok.fine
  have hc : Mid c := ok.mid
  have hl : l.length ≤ 60 := Nat.le_trans ok.len (by decide)
  have q : ∀ H', Same H H' → Q (.str (sumT c l)) H' := q0
  clear q0
  refine st_seq (st_set (fun Q q => q) ?_)
  dsimp only [gName]
  have hFL : Fine (l ++ [(Str.ofString "", c)]) := fun y hy => (List.mem_append.mp hy).elim (hF y) fun e => by
    rw [List.mem_singleton.mp e]
    exact ⟨by show (Str.ofString "").length ≤ 1000; decide +kernel, hc⟩
  have hlen : as.length = l.length := hR.len
  refine st_seq (for_tupV (fun d xs H1 => Same H H1 ∧ ∃ bs : List Addr, xs = bs.map V.ref ∧ RepP H1 bs (l ++ [(Str.ofString "", c)])) (fun Q' q' => ?_) ?_)
  · refine ⟨_, rfl, p, _, _, _, rfl, rfl, .inl (.inl hp), atI_nat (j := 1) rfl, _, rfl, p, _, _, _, rfl, rfl, .inl (.inl hp), atI_nat (j := 0) rfl, (by show 2 ≤ sizeLine; decide), fun t ht => ⟨(by show 1 ≤ sizeLine; decide), fun u hu => ?_⟩⟩
    have s1 := same_upd (o := .tup [.str (Str.ofString ""), .int c]) ht
    have s2 := same_upd (o := .tup [.ref t]) hu
    have r2 : RepP (upd (upd H t (.tup [.str (Str.ofString ""), .int c])) u (.tup [.ref t])) (as ++ [t]) (l ++ [(Str.ofString "", c)]) := RepP.app (t := (Str.ofString "", c)) (s2 _ _ upd_same) (hR.same (s1.trans s2))
    refine ⟨pt, u, _, _, rfl, rfl, .inl (.inl ((s1.trans s2) _ _ hpt)), .inl (.inl upd_same), ?_, fun e => ?_, fun _ e => (by cases e), fun _ _ d hd => ?_⟩
    · rw [List.length_map]
      show as.length + 1 ≤ sizeLine
      exact bigLe (by omega)
    · have ea : as = [] := List.map_eq_nil_iff.mp e
      subst ea
      exact q' _ _ ⟨u, _, rfl, ⟨s1.trans s2, [t], rfl, r2⟩, .inl (.inl upd_same)⟩
    · exact q' _ _ ⟨d, _, rfl, ⟨(s1.trans s2).trans (same_upd hd), as ++ [t], by rw [List.map_append]; rfl, r2.same (same_upd hd)⟩, .inl (.inl upd_same)⟩
  rintro d _ H1 ⟨s1, bs, rfl, hB⟩ hd
  have hbl : bs.length = l.length + 1 := by
    rw [hB.len, List.length_append]
    rfl
  have flen : ∀ i, (((l ++ [(Str.ofString "", c)]).take i).foldl stepW (Str.ofString "")).length ≤ 70000 := by
    intro i
    have h1 := foldW_len ((l ++ [(Str.ofString "", c)]).take i) (Str.ofString "") fun y hy => hFL y (List.mem_of_mem_take hy)
    rw [show (Str.ofString "").length = 0 from by decide +kernel, List.length_take, List.length_append] at h1
    have h2 : min i (l.length + [(Str.ofString "", c)].length) * 1022 ≤ 61 * 1022 := Nat.mul_le_mul_right _ (by show min i (l.length + 1) ≤ 61; omega)
    omega
  refine for_tup (K := K) (a := d) (xs := bs.map V.ref) (fun i σ H' => ∃ v2 v3 v4 : Option V, σ = [some (.ref p), some (.str (((l ++ [(Str.ofString "", c)]).take i).foldl stepW (Str.ofString ""))), v2, v3, v4] ∧ Same H1 H')
    ⟨none, none, none, rfl, Same.refl _⟩ (fun i σ H' _ ⟨_, _, _, _, s'⟩ => ?_) ?_ ?_
  · rcases hd with (h | ⟨o, h⟩) | h
    · exact .inl (.inl (s' _ _ h))
    · exact .inl (.inr ⟨o, s' _ _ h⟩)
    · exact .inr h
  · rintro i x σ H' hi ⟨v2, v3, v4, rfl, s'⟩
    obtain ⟨a1, t1, rfl, ht1, ha1⟩ := (hB.same s').get hi
    obtain ⟨hv, hm⟩ := hFL t1 (List.mem_of_getElem? ht1)
    obtain ⟨b0, b1⟩ := ab_mid hm
    have et : (l ++ [(Str.ofString "", c)]).take (i + 1) = (l ++ [(Str.ofString "", c)]).take i ++ [t1] := by
      rw [List.take_add_one, ht1]
      rfl
    have hfl := flen i
    have fin : ∀ z v4' H2, z = stepW (((l ++ [(Str.ofString "", c)]).take i).foldl stepW (Str.ofString "")) t1 → Same H1 H2 → ∃ v2 v3 v4 : Option V, [some (.ref p), some (.str z), some (.str t1.1), some (.int t1.2), v4'] = [some (.ref p), some (.str (((l ++ [(Str.ofString "", c)]).take (i + 1)).foldl stepW (Str.ofString ""))), v2, v3, v4] ∧ Same H1 H2 := by
      rintro _ v4' H2 rfl s2
      refine ⟨some (.str t1.1), some (.int t1.2), v4', ?_, s2⟩
      rw [et, List.foldl_append]
      rfl
    generalize ((l ++ [(Str.ofString "", c)]).take i).foldl stepW (Str.ofString "") = tx at hfl fin ⊢
    refine ⟨a1, _, rfl, .inl (.inl ha1), rfl, .str t1.1, [.int t1.2], rfl, .int t1.2, [], rfl, rfl, ?_⟩
    have ll := ltermT_len (v := t1.1) (b := true) b0 b1
    have nl := numT_len b0 b1
    have st1 : (Str.ofString "*").length = 1 := star_len
    dsimp only [gName]
    refine st_seq ⟨_, rfl, t1.2, rfl, ab t1.2, rfl, log_ok b0 b1, ite_strV (b := decide (V.str t1.1 = V.str (Str.ofString ""))) (x := Str.ofString "") (y := Str.ofString "*" ++ t1.1) (fun Q q => ⟨_, rfl, rfl, _, rfl, q⟩) (fun Q q => q) (fun Q q => ⟨_, rfl, _, _, rfl, rfl, bigLe (by omega), q⟩) ⟨numT (ab t1.2), _, rfl, rfl, bigLe ?_, ?_⟩⟩
    · split
      · show _ + (Str.ofString "").length ≤ 1000000
        rw [e0_len]
        omega
      · rw [Str.length_append]
        omega
    dsimp only [gName]
    refine st_seq (st_iteset (i := 4) (b := !decide (V.str t1.1 = V.str (Str.ofString "")) && decide (V.int (ab t1.2) = V.int 1)) (y := t1.1) (ans_and2 (fun Q q => ⟨_, rfl, rfl, _, rfl, q⟩) (fun Q q => ⟨_, rfl, t1.2, rfl, rfl, _, rfl, q⟩)) (fun Q q => ⟨_, rfl, q⟩) rfl ?_)
    dsimp only [List.set]
    rw [body_is]
    refine st_ite (b := !decide (V.int t1.2 = V.int 0)) (fun Q q => ⟨_, rfl, rfl, _, rfl, q⟩) (fun e => ?_) (fun e => ?_)
    · refine ⟨_, rfl, (by show 2 ≤ sizeLine; decide), fun y ny => ⟨_, rfl, _, _, rfl, rfl, .inr ⟨_, rfl, ?_⟩⟩⟩
      have hat : ∃ u : Str, u = (if decide (t1.2 < 0) = true then Str.ofString " - " else Str.ofString " + ") ∧ atI ([.str (Str.ofString " + "), .str (Str.ofString " - ")] : List V) (if decide (t1.2 < 0) = true then 1 else 0) = some (.str u) := by
        by_cases hn : decide (t1.2 < 0) = true
        · rw [if_pos hn, if_pos hn]
          exact ⟨_, rfl, atI_nat (j := 1) rfl⟩
        · rw [if_neg hn, if_neg hn]
          exact ⟨_, rfl, atI_nat (j := 0) rfl⟩
      obtain ⟨u, eu, hu⟩ := hat
      have ul : u.length = 3 := by
        have := sep_len t1.2
        unfold sepT at this
        rw [eu]
        exact this
      refine ⟨y, _, _, _, rfl, rfl, SqL.of upd_same, hu, _, _, rfl, rfl, bigLe (by omega), _, rfl, _, _, rfl, rfl, bigLe (by rw [Str.length_append]; omega), fin _ _ _ ?_ (s'.trans (same_upd ny))⟩
      unfold stepW
      rw [if_pos e, ← eu]
    · refine fin _ _ _ ?_ s'
      unfold stepW
      rw [if_neg (by rw [e]; exact Bool.false_ne_true)]
  · rintro σ H' ⟨v2, v3, v4, rfl, s'⟩
    rw [List.length_map, hbl]
    have e1 : (l ++ [(Str.ofString "", c)]).take (l.length + 1) = l ++ [(Str.ofString "", c)] := List.take_of_length_le (by rw [List.length_append]; exact Nat.le_refl _)
    have hfl := flen (l.length + 1)
    rw [e1] at hfl ⊢
    have hq := q H' (s1.trans s')
    rcases written_is (c := c) hRe with ⟨w1, w2⟩ | ⟨n, F, w1, w2⟩
    · dsimp only
      refine st_seq (st_yes (fun Q q => ⟨_, rfl, rfl, _, rfl, (by rw [show (l ++ [(Str.ofString "", c)]).foldl stepW (Str.ofString "") = Str.ofString "" from w1, decide_eq_true rfl]; exact q)⟩) ?_)
      rw [w2] at hq
      exact hq
    · rw [show (l ++ [(Str.ofString "", c)]).foldl stepW (Str.ofString "") = sepT n ++ F from w1] at hfl ⊢
      have hl3 := sep_len n
      have hne : tl (sepT n ++ F) ≠ [] := fun e => by
        have := len_tl (sepT n ++ F)
        rw [e, Str.length_append] at this
        simp at this
        omega
      dsimp only
      refine st_seq (st_no (fun Q q => ⟨_, rfl, rfl, _, rfl, (by rw [not_empty hne]; exact q)⟩) ?_)
      dsimp only [tNext]
      have hl2 : (sepT n ++ F).length ≤ sizeLine := bigLe (by omega)
      have hF2 : F.length ≤ 70000 := by
        rw [Str.length_append] at hfl
        omega
      by_cases hn : decide (n < 0) = true
      · rw [w2, if_pos hn] at hq
        have hat : atI (sepT n ++ F).cps.toList 1 = some 45 := by
          show atI (tl (sepT n ++ F)) 1 = _
          rw [tl_append]
          unfold sepT
          rw [if_pos hn, show tl (Str.ofString " - ") = [32, 45, 32] from by decide +kernel]
          exact atI_nat (j := 1) rfl
        refine ⟨_, rfl, _, 1, 45, rfl, rfl, hl2, hat, rfl, _, rfl, iteF ?_⟩
        refine ⟨_, rfl, 3, rfl, _, rfl, hl2, _, _, rfl, rfl, ?_, ?_⟩
        · rw [show cutS (sepT n ++ F) (some 3) none = F from cut3_app hl3, show (Str.ofString "-").length = 1 from by decide +kernel]
          exact bigLe (by omega)
        · rw [show cutS (sepT n ++ F) (some 3) none = F from cut3_app hl3]
          exact hq
      · rw [w2, if_neg hn] at hq
        have hat : atI (sepT n ++ F).cps.toList 1 = some 43 := by
          show atI (tl (sepT n ++ F)) 1 = _
          rw [tl_append]
          unfold sepT
          rw [if_neg hn, show tl (Str.ofString " + ") = [32, 43, 32] from by decide +kernel]
          exact atI_nat (j := 1) rfl
        refine ⟨_, rfl, _, 1, 43, rfl, rfl, hl2, hat, rfl, _, rfl, iteT ?_⟩
        refine ⟨_, rfl, 3, rfl, _, rfl, hl2, ?_⟩
        rw [show cutS (sepT n ++ F) (some 3) none = F from cut3_app hl3]
        exact hq
theorem sc__law_call_text : FnScope ["_law_call_here", "_law_words", "_law_word", "_law_one"] ["_law_call_here"] (defScope s__law_call_text) := ⟨rfl, rfl, rfl, by decide +kernel, rfl, by decide +kernel, by decide +kernel⟩
theorem ok__law_call_text (T : Txt K mg a) : FnOk P w K mg base CX0 2 a.f__law_call_text a.f__law_call_text_d ["_law_call_here"] spCallD := by
  refine T.F__law_call_text.ok sc__law_call_text (fun vs H Q E h => ?_) (fun cdv A outer s H vs Q E hr h => ?_)
  · obtain ⟨v, f, as, rfl, _⟩ := h
    rfl
  obtain ⟨v, f, as, rfl, hv, hf, ok, q⟩ := h
  refine ⟨_, (pss_cons (ps_set (i := 1) sc__law_call_text.nd rfl (Or.inl rfl) (pe_lst pa_nil))
    (pss_cons (ps_for PassesOwn.never rfl (pi_tup (pe_ix ix_tup (pv 0) pe_int (fun _ _ => rfl))) (pg_tup (by rfl) (pgs_cons (pg_name (i := 2) sc__law_call_text.nd rfl (Or.inl rfl)) (pgs_cons (pg_name (i := 3) sc__law_call_text.nd rfl (Or.inl rfl)) pgs_nil)))
      (pss_one (ps_expr (pe_bm PySem.F.plainAttrs_list PySem.F.slot_list_append PySem.F.type_list_append mt_append (pv 1) (pa_cons (pe_ifExp (pt_cmpR op_eq (pv 2) pe_str (nomark _)) (pe_op op_add_str pe_str (pv 3)) (pe_call (ok__law_expression_text T) (hr.mono (by decide)) (by rfl) T.g__law_expression_text T.F__law_expression_text.kp T.b__law_expression_text .nil pass0 (pa_cons (pv 3) pa_nil))) pa_nil)))))
    (pss_one (ps_ret (pe_op op_add_str (pe_op op_add_str (pe_op op_add_str (pe_ix ix_tup (pv 0) pe_int (fun _ _ => rfl)) pe_str) (pe_join pe_str (pv 1))) pe_str))))), ?_⟩
  obtain ⟨p, _, rfl, hp, _, _, rfl, rfl, u, _, rfl, ⟨pa, xs, rfl, hpa, hxs⟩, rfl⟩ := hv
  have hl := hxs.len
  rw [List.length_map] at hl
  have hfl := hf.len
  have p1 : (Str.ofString "(").length = 1 := by decide +kernel
  have p2 : (Str.ofString ")").length = 1 := by decide +kernel
  refine ⟨Nat.zero_le _, fun L nL => ?_⟩
  have s1 := same_upd (o := .lst []) nL
  dsimp only [gName]
  refine st_seq ⟨_, rfl, p, _, _, _, rfl, rfl, .inl (.inl (s1 _ _ hp)), atI_nat (j := 1) rfl, pa, rfl, ⟨_, .inl (.inl (s1 _ _ hpa))⟩, for_tup (K := K) (a := pa) (xs := xs) (fun i σ H' => ∃ v2 v3 : Option V, σ = [some (.ref p), some (.ref L), v2, v3] ∧ Same H H' ∧ H' L = some (.lst (((as.take i).map arT).map V.str)))
    ⟨none, none, rfl, s1, upd_same⟩ (fun i σ H' _ ⟨_, _, _, s', _⟩ => .inl (.inl (s' _ _ hpa))) ?_ ?_⟩
  · rintro i x σ H' hi ⟨v2, v3, rfl, s2, hL⟩
    obtain ⟨d, hd, hx⟩ := (hxs.mono (TK.of s2)).get hi
    obtain ⟨ar, har, rfl⟩ := get_map hd
    have aok := ok.ok ar (List.mem_of_getElem? har)
    have lenN : (((as.take i).map arT).map V.str).length < sizeLine := by
      rw [List.length_map]
      exact len_take ok.len (by decide)
    have fin : ∀ (H3 : Hp) (v2 v3 : Option V), Same H' H3 → H3 L = some (.lst (((as.take i).map arT).map V.str)) → ∃ v2' v3' : Option V, [some (V.ref p), some (.ref L), v2, v3] = [some (.ref p), some (.ref L), v2', v3'] ∧ Same H (upd H3 L (.lst (((as.take i).map arT).map V.str ++ [.str (arT ar)]))) ∧ (upd H3 L (.lst (((as.take i).map arT).map V.str ++ [.str (arT ar)]))) L = some (.lst (((as.take (i + 1)).map arT).map V.str)) := by
      intro H3 v2 v3 s3 hL3
      refine ⟨v2, v3, rfl, same_mut (s2.trans s3) nL, ?_⟩
      rw [upd_same, List.take_add_one, har, List.map_append, List.map_append]
      rfl
    cases ar with
    | pla z =>
      obtain ⟨r, _, rfl, hr, _, _, rfl, rfl, _, _, rfl, rfl, rfl⟩ := hx
      have : z.length ≤ 20 := NameOk.len aok
      refine ⟨r, _, rfl, .inl (.inl hr), rfl, .str "place", _, rfl, .str z, [], rfl, rfl, ?_⟩
      refine ⟨_, rfl, .inl ⟨rfl, _, SqL.of hL⟩, _, rfl, rfl, _, rfl, ite2 (fun _ => ?_) (fun e => absurd (decide_eq_true rfl) e)⟩
      exact ⟨_, rfl, _, _, rfl, rfl, bigLe (by rw [show (Str.ofString "&").length = 1 from by decide +kernel]; omega), L, _, _, rfl, rfl, hL, lenN, fin _ _ _ (Same.refl _) hL⟩
    | val e =>
      obtain ⟨r, _, rfl, hr, _, _, rfl, rfl, u, _, rfl, he, rfl⟩ := hx
      refine ⟨r, _, rfl, .inl (.inl hr), rfl, .str "value", _, rfl, u, [], rfl, rfl, ?_⟩
      refine ⟨_, rfl, .inl ⟨rfl, _, SqL.of hL⟩, _, rfl, rfl, _, rfl, ite2 (fun e => absurd e (sne (by decide +kernel))) (fun _ => ?_)⟩
      exact ⟨_, rfl, u, e, rfl, he, aok, fun H3 s3 => ⟨L, _, _, rfl, rfl, s3 _ _ hL, lenN, fin _ _ _ s3 (s3 _ _ hL)⟩⟩
  · rintro σ H' ⟨v2, v3, rfl, s2, hL⟩
    rw [hl, List.take_length] at hL
    have h1 := args_sum ok
    have h2 := args_len ok
    exact ⟨_, rfl, p, _, _, _, rfl, rfl, .inl (.inl (s2 _ _ hp)), atI_nat (j := 0) rfl, _, _, rfl, rfl, bigLe (by rw [p1]; omega), ⟨_, rfl⟩, _, rfl, Str.ofString ", ", L, as.map arT, rfl, rfl, .inl (SqL.of hL), by rw [c2_len]; omega, _, _, rfl, rfl, bigLe (by rw [Str.length_append, p1]; omega), _, _, rfl, rfl, bigLe (by rw [Str.length_append, Str.length_append, p1, p2]; omega), q _ s2⟩
end
end K3
namespace K3
open PySem PySem.Spec PyProof.Rows L2 TL
/-! ### data that may be compared -/
theorem lay_ns {ns : List Str} (h : ∀ v ∈ ns, NameOk v) : (pd (dNs ns)).canLay0 = true ∧ (pd (dNs ns)).depth ≤ 1 := by
  show (PyData.tuple (pdl (DL.of (ns.map D.str)))).canLay0 = true ∧ (PyData.tuple (pdl (DL.of (ns.map D.str)))).depth ≤ 1
  rw [pdl_of]
  constructor
  · refine canAll fun d hd => ?_
    obtain ⟨x, hx, rfl⟩ := List.mem_map.mp hd
    obtain ⟨v, hv, rfl⟩ := List.mem_map.mp hx
    exact (h v hv).strOk
  · show PyData.depthAll _ + 1 ≤ 1
    refine Nat.succ_le_succ (depAll fun d hd => ?_)
    obtain ⟨x, hx, rfl⟩ := List.mem_map.mp hd
    obtain ⟨v, hv, rfl⟩ := List.mem_map.mp hx
    exact Nat.le_refl _
theorem lay_ex {e : Ex} (h : ExOk e) : (pd (dE e)).canLay0 = true ∧ (pd (dE e)).depth ≤ 3 := by
  have h1 : (PyData.tuple (pdl (DL.of (e.2.map dTm)))).canLay0 = true ∧ (PyData.tuple (pdl (DL.of (e.2.map dTm)))).depth ≤ 2 := by
    rw [pdl_of]
    constructor
    · refine canAll fun d hd => ?_
      obtain ⟨x, hx, rfl⟩ := List.mem_map.mp hd
      obtain ⟨t, ht, rfl⟩ := List.mem_map.mp hx
      show (PyData.strOk t.1 && (true && true)) = true
      rw [(h.nm t ht).1.strOk]
      rfl
    · show PyData.depthAll _ + 1 ≤ 2
      refine Nat.succ_le_succ (depAll fun d hd => ?_)
      obtain ⟨x, hx, rfl⟩ := List.mem_map.mp hd
      obtain ⟨t, ht, rfl⟩ := List.mem_map.mp hx
      exact Nat.le_refl _
  constructor
  · show (true && ((PyData.tuple (pdl (DL.of (e.2.map dTm)))).canLay0 && true)) = true
    rw [h1.1]
    rfl
  · show max 0 (max (PyData.tuple (pdl (DL.of (e.2.map dTm)))).depth 0) + 1 ≤ 3
    omega
theorem lay_ar {x : Ar} (h : ArOk x) : (pd (dA x)).canLay0 = true ∧ (pd (dA x)).depth ≤ 4 := by
  cases x with
  | pla v =>
    have hv : PyData.strOk v = true := NameOk.strOk h
    constructor
    · show (PyData.strOk "place" && (PyData.strOk v && true)) = true
      rw [hv]
      decide +kernel
    · show max 0 (max 0 0) + 1 ≤ 4
      decide
  | val e =>
    have he := lay_ex (e := e) h
    constructor
    · show (PyData.strOk "value" && ((pd (dE e)).canLay0 && true)) = true
      rw [he.1]
      decide +kernel
    · show max 0 (max (pd (dE e)).depth 0) + 1 ≤ 4
      omega
theorem lay_as {as : List Ar} (h : ArsOk as) : (pd (.tup (DL.of (as.map dA)))).canLay0 = true ∧ (pd (.tup (DL.of (as.map dA)))).depth ≤ 5 := by
  show (PyData.tuple (pdl (DL.of (as.map dA)))).canLay0 = true ∧ (PyData.tuple (pdl (DL.of (as.map dA)))).depth ≤ 5
  rw [pdl_of]
  constructor
  · refine canAll fun d hd => ?_
    obtain ⟨x, hx, rfl⟩ := List.mem_map.mp hd
    obtain ⟨t, ht, rfl⟩ := List.mem_map.mp hx
    exact (lay_ar (h.ok t ht)).1
  · show PyData.depthAll _ + 1 ≤ 5
    refine Nat.succ_le_succ (depAll fun d hd => ?_)
    obtain ⟨x, hx, rfl⟩ := List.mem_map.mp hd
    obtain ⟨t, ht, rfl⟩ := List.mem_map.mp hx
    exact (lay_ar (h.ok t ht)).2
theorem lay_call {f : Str} {as : List Ar} (hf : NameOk f) (h : ArsOk as) : (pd (dCall f as)).canLay0 = true ∧ (pd (dCall f as)).depth ≤ 6 := by
  have ha := lay_as h
  constructor
  · show (PyData.strOk f && ((pd (.tup (DL.of (as.map dA)))).canLay0 && true)) = true
    rw [hf.strOk, ha.1]
    rfl
  · show max 0 (max (pd (.tup (DL.of (as.map dA)))).depth 0) + 1 ≤ 6
    omega
theorem lay_pl {p : P0} (h : P0Ok p) : (pd (dP p)).canLay0 = true ∧ (pd (dP p)).depth ≤ 6 := by
  match p, h with
  | .set v e, ⟨h1, h2⟩ =>
    have he := lay_ex h2
    constructor
    · show (PyData.strOk "set" && (PyData.strOk v && ((pd (dE e)).canLay0 && true))) = true
      rw [h1.strOk, he.1]
      decide +kernel
    · show max 0 (max 0 (max (pd (dE e)).depth 0)) + 1 ≤ 6
      omega
  | .inp v, h =>
    constructor
    · show (PyData.strOk "input" && (PyData.strOk v && true)) = true
      rw [NameOk.strOk h]
      decide +kernel
    · show max 0 (max 0 0) + 1 ≤ 6
      decide
  | .call none f as, ⟨_, h1, h2⟩ =>
    have ha := lay_as h2
    constructor
    · show (PyData.strOk "call" && (true && (PyData.strOk f && ((pd (.tup (DL.of (as.map dA)))).canLay0 && true)))) = true
      rw [h1.strOk, ha.1]
      decide +kernel
    · show max 0 (max 0 (max 0 (max (pd (.tup (DL.of (as.map dA)))).depth 0))) + 1 ≤ 6
      omega
  | .call (some t) f as, ⟨h0, h1, h2⟩ =>
    have ha := lay_as h2
    constructor
    · show (PyData.strOk "call" && (PyData.strOk t && (PyData.strOk f && ((pd (.tup (DL.of (as.map dA)))).canLay0 && true)))) = true
      rw [(h0 t rfl).strOk, h1.strOk, ha.1]
      decide +kernel
    · show max 0 (max 0 (max 0 (max (pd (.tup (DL.of (as.map dA)))).depth 0))) + 1 ≤ 6
      omega
  | .risk ks, ⟨_, h⟩ =>
    have ha := lay_ns h.nm
    constructor
    · show (PyData.strOk "risk" && ((pd (dNs ks)).canLay0 && true)) = true
      rw [ha.1]
      decide +kernel
    · show max 0 (max (pd (dNs ks)).depth 0) + 1 ≤ 6
      omega
  | .rse k, h =>
    constructor
    · show (PyData.strOk "raise" && (PyData.strOk k && true)) = true
      rw [NameOk.strOk h]
      decide +kernel
    · show max 0 (max 0 0) + 1 ≤ 6
      decide
  | .ret e, h =>
    have he := lay_ex (e := e) h
    constructor
    · show (PyData.strOk "return" && ((pd (dE e)).canLay0 && true)) = true
      rw [he.1]
      decide +kernel
    · show max 0 (max (pd (dE e)).depth 0) + 1 ≤ 6
      omega
mutual
theorem lay_s : ∀ {s : TS}, s.Ok → (pd (dS s)).canLay0 = true ∧ (pd (dS s)).depth ≤ 7 + 5 * s.ht
  | .pl p, h => ⟨(lay_pl h).1, Nat.le_trans (lay_pl h).2 (by omega)⟩
  | .iff x y, ⟨h1, h2⟩ => by
    have a1 := lay_b h1
    have a2 := lay_b h2
    constructor
    · show (PyData.strOk "if" && ((PyData.tuple (pdl (dB x))).canLay0 && ((PyData.tuple (pdl (dB y))).canLay0 && true))) = true
      rw [a1.1, a2.1]
      decide +kernel
    · show max 0 (max (PyData.tuple (pdl (dB x))).depth (max (PyData.tuple (pdl (dB y))).depth 0)) + 1 ≤ 7 + 5 * (max x.ht y.ht + 1)
      omega
  | .whl x, h1 => by
    have a1 := lay_b h1
    constructor
    · show (PyData.strOk "while" && ((PyData.tuple (pdl (dB x))).canLay0 && true)) = true
      rw [a1.1]
      decide +kernel
    · show max 0 (max (PyData.tuple (pdl (dB x))).depth 0) + 1 ≤ 7 + 5 * (x.ht + 1)
      omega
  | .undo vs x, ⟨_, h0, h1⟩ => by
    have a1 := lay_b h1
    have a0 := lay_ns h0.nm
    constructor
    · show (PyData.strOk "undo" && ((pd (dNs vs)).canLay0 && ((PyData.tuple (pdl (dB x))).canLay0 && true))) = true
      rw [a1.1, a0.1]
      decide +kernel
    · show max 0 (max (pd (dNs vs)).depth (max (PyData.tuple (pdl (dB x))).depth 0)) + 1 ≤ 7 + 5 * (x.ht + 1)
      omega
  | .tr x hs y, ⟨h1, _, h2, h3⟩ => by
    have a1 := lay_b h1
    have a2 := lay_h h2
    have a3 := lay_b h3
    constructor
    · show (PyData.strOk "try" && ((PyData.tuple (pdl (dB x))).canLay0 && ((PyData.tuple (pdl (dH hs))).canLay0 && ((PyData.tuple (pdl (dB y))).canLay0 && true)))) = true
      rw [a1.1, a2.1, a3.1]
      decide +kernel
    · show max 0 (max (PyData.tuple (pdl (dB x))).depth (max (PyData.tuple (pdl (dH hs))).depth (max (PyData.tuple (pdl (dB y))).depth 0))) + 1 ≤ 7 + 5 * (max x.ht (max hs.ht y.ht) + 1)
      omega
  | .wth f as g bs ks x, ⟨h1, h2, h3, h4, h5, h6⟩ => by
    have a1 := lay_call h1 h2
    have a2 := lay_call h3 h4
    have a3 := lay_ns h5.nm
    have a4 := lay_b h6
    constructor
    · show (PyData.strOk "with" && ((pd (dCall f as)).canLay0 && ((pd (dCall g bs)).canLay0 && ((pd (dNs ks)).canLay0 && ((PyData.tuple (pdl (dB x))).canLay0 && true))))) = true
      rw [a1.1, a2.1, a3.1, a4.1]
      decide +kernel
    · show max 0 (max (pd (dCall f as)).depth (max (pd (dCall g bs)).depth (max (pd (dNs ks)).depth (max (PyData.tuple (pdl (dB x))).depth 0)))) + 1 ≤ 7 + 5 * (x.ht + 1)
      omega
theorem lay_b : ∀ {x : TB}, x.Ok → (PyData.tuple (pdl (dB x))).canLay0 = true ∧ (PyData.tuple (pdl (dB x))).depth ≤ 8 + 5 * x.ht
  | .nil, _ => ⟨rfl, by show 0 + 1 ≤ _; omega⟩
  | .cons s r, ⟨h1, h2⟩ => by
    have a1 := lay_s h1
    have a2 := lay_b h2
    constructor
    · show ((pd (dS s)).canLay0 && PyData.canLayAll0 (pdl (dB r))) = true
      rw [a1.1, show PyData.canLayAll0 (pdl (dB r)) = true from a2.1]
      rfl
    · have a3 : PyData.depthAll (pdl (dB r)) + 1 ≤ 8 + 5 * r.ht := a2.2
      show max (pd (dS s)).depth (PyData.depthAll (pdl (dB r))) + 1 ≤ 8 + 5 * max s.ht r.ht
      omega
theorem lay_h : ∀ {x : TH}, x.Ok → (PyData.tuple (pdl (dH x))).canLay0 = true ∧ (PyData.tuple (pdl (dH x))).depth ≤ 10 + 5 * x.ht
  | .nil, _ => ⟨rfl, by show 0 + 1 ≤ _; omega⟩
  | .cons ks x r, ⟨_, h0, h1, h2⟩ => by
    have a0 := lay_ns h0.nm
    have a1 := lay_b h1
    have a2 := lay_h h2
    constructor
    · show (((pd (dNs ks)).canLay0 && ((PyData.tuple (pdl (dB x))).canLay0 && true)) && PyData.canLayAll0 (pdl (dH r))) = true
      rw [a0.1, a1.1, show PyData.canLayAll0 (pdl (dH r)) = true from a2.1]
      rfl
    · have a3 : PyData.depthAll (pdl (dH r)) + 1 ≤ 10 + 5 * r.ht := a2.2
      show max (max (pd (dNs ks)).depth (max (PyData.tuple (pdl (dB x))).depth 0) + 1) (PyData.depthAll (pdl (dH r))) + 1 ≤ 10 + 5 * max x.ht r.ht
      omega
end
theorem shaped_of {d : PyData} (h1 : d.canLay0 = true) (h2 : d.depth ≤ 64) : SeqAt.shaped d = true := by
  unfold SeqAt.shaped
  rw [h1, decide_eq_true h2]
  rfl
theorem eqv_nil (l : List D) : PyData.eqv (.tuple (pdl (DL.of l))) (.tuple []) = l.isEmpty := by
  cases l with
  | nil => rfl
  | cons _ _ => rfl
/-! ### all parts of a statement -/
def fulP : TS → List (Str × TB)
  | .pl _ => []
  | .iff x y => [(Str.ofString "if", x), (Str.ofString "else", y)]
  | .whl x => [(Str.ofString "while", x)]
  | .undo vs x => [(Str.ofString "undo " ++ Txt.join (Str.ofString ", ") vs, x)]
  | .tr x hs y => ((Str.ofString "try", x) :: hs.L.map hdT) ++ [(Str.ofString "finally", y)]
  | .wth f as g bs ks x => [(wthT f as g bs ks, x)]
def hasH : TS → Bool
  | .tr _ hs _ => !hs.L.isEmpty
  | _ => false
def loP (s : TS) (p : Str × TB) : Bool := (decide (V.str p.1 = V.str (Str.ofString "finally")) && hasH s || decide (V.str p.1 = V.str (Str.ofString "else"))) && p.2.L.isEmpty
def headsOf (s : TS) : List Str := match s with
  | .pl _ => [Str.ofString "while"]
  | s => (fulP s).map (·.1)
theorem two_ne {x : Str} {c d : Nat} {r : List Nat} (h : tl x = c :: d :: r) (h1 : (c == 102 && d == 105) = false) (h2 : (c == 101 && d == 108) = false) : decide (V.str x = V.str (Str.ofString "finally")) = false ∧ decide (V.str x = V.str (Str.ofString "else")) = false := by
  constructor
  · refine decide_eq_false fun e => ?_
    have := congrArg tl (V.str.inj e)
    rw [h, show tl (Str.ofString "finally") = [102, 105, 110, 97, 108, 108, 121] from by decide +kernel] at this
    injection this with a b
    injection b with b _
    subst a b
    cases h1
  · refine decide_eq_false fun e => ?_
    have := congrArg tl (V.str.inj e)
    rw [h, show tl (Str.ofString "else") = [101, 108, 115, 101] from by decide +kernel] at this
    injection this with a b
    injection b with b _
    subst a b
    cases h2
theorem lo_no {s : TS} {p : Str × TB} (h : decide (V.str p.1 = V.str (Str.ofString "finally")) = false ∧ decide (V.str p.1 = V.str (Str.ofString "else")) = false) : loP s p = false := by
  unfold loP
  rw [h.1, h.2]
  rfl
theorem ne_try : decide (V.str (Str.ofString "try") = V.str (Str.ofString "finally")) = false ∧ decide (V.str (Str.ofString "try") = V.str (Str.ofString "else")) = false := by decide +kernel
theorem ne_if : decide (V.str (Str.ofString "if") = V.str (Str.ofString "finally")) = false ∧ decide (V.str (Str.ofString "if") = V.str (Str.ofString "else")) = false := by decide +kernel
theorem ne_while : decide (V.str (Str.ofString "while") = V.str (Str.ofString "finally")) = false ∧ decide (V.str (Str.ofString "while") = V.str (Str.ofString "else")) = false := by decide +kernel
theorem ne_exc (z : Str) : decide (V.str (Str.ofString "except " ++ z) = V.str (Str.ofString "finally")) = false ∧ decide (V.str (Str.ofString "except " ++ z) = V.str (Str.ofString "else")) = false :=
  two_ne (c := 101) (d := 120) (r := [99, 101, 112, 116, 32] ++ tl z) (by rw [tl_append, show tl (Str.ofString "except ") = [101, 120, 99, 101, 112, 116, 32] from by decide +kernel]; rfl) rfl rfl
theorem ne_undo (z : Str) : decide (V.str (Str.ofString "undo " ++ z) = V.str (Str.ofString "finally")) = false ∧ decide (V.str (Str.ofString "undo " ++ z) = V.str (Str.ofString "else")) = false :=
  two_ne (c := 117) (d := 110) (r := [100, 111, 32] ++ tl z) (by rw [tl_append, show tl (Str.ofString "undo ") = [117, 110, 100, 111, 32] from by decide +kernel]; rfl) rfl rfl
theorem ne_with (f : Str) (as : List Ar) (g : Str) (bs : List Ar) (ks : List Str) : decide (V.str (wthT f as g bs ks) = V.str (Str.ofString "finally")) = false ∧ decide (V.str (wthT f as g bs ks) = V.str (Str.ofString "else")) = false := by
  have hw : tl (Str.ofString "with ") = [119, 105, 116, 104, 32] := by decide +kernel
  unfold wthT
  split
  · exact two_ne (c := 119) (d := 105) (r := _) (by rw [tl_append, tl_append, tl_append, hw]; rfl) rfl rfl
  · exact two_ne (c := 119) (d := 105) (r := _) (by rw [tl_append, tl_append, tl_append, tl_append, tl_append, hw]; rfl) rfl rfl
theorem keep_all {α : Type} {f : α → Bool} {l : List α} (h : ∀ x ∈ l, f x = true) : l.filter f = l := List.filter_eq_self.mpr h
/-- those that are written -/
theorem pr_is (s : TS) : prS s = (fulP s).filter fun p => !loP s p := by
  cases s with
  | pl _ => rfl
  | iff x y =>
    have h1 : loP (.iff x y) (Str.ofString "if", x) = false := lo_no ne_if
    have h2 : loP (.iff x y) (Str.ofString "else", y) = y.L.isEmpty := by
      show ((decide (V.str (Str.ofString "else") = V.str (Str.ofString "finally")) && false || decide (V.str (Str.ofString "else") = V.str (Str.ofString "else"))) && y.L.isEmpty) = _
      rw [Bool.and_false, Bool.false_or, decide_eq_true rfl, Bool.true_and]
    show _ = [(Str.ofString "if", x), (Str.ofString "else", y)].filter _
    rw [List.filter_cons_of_pos (by rw [h1]; rfl)]
    cases hy : y.L.isEmpty with
    | true =>
      rw [List.filter_cons_of_neg (by rw [h2, hy]; exact Bool.false_ne_true)]
      show (Str.ofString "if", x) :: (if y.L.isEmpty = true then [] else _) = _
      rw [if_pos hy]
      rfl
    | false =>
      rw [List.filter_cons_of_pos (by rw [h2, hy]; rfl)]
      show (Str.ofString "if", x) :: (if y.L.isEmpty = true then [] else _) = _
      rw [if_neg (by rw [hy]; exact Bool.false_ne_true)]
      rfl
  | whl x => exact (keep_all fun p hp => by rw [List.mem_singleton.mp hp, lo_no ne_while]; rfl).symm
  | undo vs x => exact (keep_all fun p hp => by rw [List.mem_singleton.mp hp, lo_no (ne_undo _)]; rfl).symm
  | tr x hs y =>
    have h2 : loP (.tr x hs y) (Str.ofString "finally", y) = (!hs.L.isEmpty && y.L.isEmpty) := by
      show ((decide (V.str (Str.ofString "finally") = V.str (Str.ofString "finally")) && !hs.L.isEmpty || decide (V.str (Str.ofString "finally") = V.str (Str.ofString "else"))) && y.L.isEmpty) = _
      rw [decide_eq_true rfl, show decide (V.str (Str.ofString "finally") = V.str (Str.ofString "else")) = false from by decide +kernel, Bool.or_false, Bool.true_and]
    show _ = (((Str.ofString "try", x) :: hs.L.map hdT) ++ [(Str.ofString "finally", y)]).filter _
    rw [List.filter_append, keep_all (l := (Str.ofString "try", x) :: hs.L.map hdT) fun p hp => by
      rcases List.mem_cons.mp hp with rfl | hp
      · rw [lo_no ne_try]
        rfl
      · obtain ⟨z, _, rfl⟩ := List.mem_map.mp hp
        rw [lo_no (ne_exc _)]
        rfl]
    show (Str.ofString "try", x) :: hs.L.map hdT ++ (if (!y.L.isEmpty || hs.L.isEmpty) = true then [(Str.ofString "finally", y)] else []) = _
    congr 1
    cases hy : y.L.isEmpty <;> cases hh : hs.L.isEmpty
    · show [(Str.ofString "finally", y)] = _
      rw [List.filter_cons_of_pos (by rw [h2, hy, hh]; rfl)]
      rfl
    · show [(Str.ofString "finally", y)] = _
      rw [List.filter_cons_of_pos (by rw [h2, hy, hh]; rfl)]
      rfl
    · show [] = _
      rw [List.filter_cons_of_neg (by rw [h2, hy, hh]; decide)]
      rfl
    · show [(Str.ofString "finally", y)] = _
      rw [List.filter_cons_of_pos (by rw [h2, hy, hh]; rfl)]
      rfl
  | wth f as g bs ks x => exact (keep_all fun p hp => by rw [List.mem_singleton.mp hp, lo_no (ne_with _ _ _ _ _)]; rfl).symm
def partL (ln : Str → TS → List Str) (ind : Str) (b : Bool) (p : Str × TB) : List Str := (ind ++ (if b = true then Str.ofString "} " else Str.ofString "") ++ p.1 ++ Str.ofString " {") :: (p.2.L.map (ln (ind ++ Str.ofString "  "))).flatten
def fulL (ln : Str → TS → List Str) (ind : Str) (lo : Str × TB → Bool) : Bool → List (Str × TB) → List Str
  | _, [] => []
  | b, p :: r => (if lo p = true then [] else partL ln ind b p) ++ fulL ln ind lo true r
theorem fulL_app {ln : Str → TS → List Str} {ind : Str} {lo : Str × TB → Bool} {p : Str × TB} : ∀ (l : List (Str × TB)) (b : Bool), fulL ln ind lo b (l ++ [p]) = fulL ln ind lo b l ++ (if lo p = true then [] else partL ln ind (b || !l.isEmpty) p)
  | [], b => by
    show _ ++ [] = [] ++ _
    rw [List.append_nil, List.nil_append]
    show _ = (if lo p = true then [] else partL ln ind (b || false) p)
    rw [Bool.or_false]
  | q :: r, b => by
    show _ ++ fulL ln ind lo true (r ++ [p]) = (_ ++ fulL ln ind lo true r) ++ _
    rw [fulL_app r true, List.append_assoc]
    show _ = _ ++ (_ ++ (if lo p = true then [] else partL ln ind (b || true) p))
    rw [Bool.or_true, Bool.true_or]
theorem ful_rest {ln : Str → TS → List Str} {ind : Str} {lo : Str × TB → Bool} : ∀ r : List (Str × TB), fulL ln ind lo true r ++ [ind ++ Str.ofString "}"] = blkL ln ind (ind ++ Str.ofString "} ") (r.filter fun p => !lo p)
  | [] => rfl
  | p :: r => by
    have ih := ful_rest (ln := ln) (ind := ind) (lo := lo) r
    show ((if lo p = true then [] else partL ln ind true p) ++ fulL ln ind lo true r) ++ _ = _
    cases h : lo p with
    | true =>
      rw [if_pos rfl, List.nil_append, ih, List.filter_cons_of_neg (by rw [h]; decide)]
    | false =>
      rw [if_neg Bool.false_ne_true, List.append_assoc, ih, List.filter_cons_of_pos (by rw [h]; rfl)]
      rfl
theorem ful_all {ln : Str → TS → List Str} {ind : Str} {lo : Str × TB → Bool} {p : Str × TB} {r : List (Str × TB)} (h : lo p = false) : fulL ln ind lo false (p :: r) ++ [ind ++ Str.ofString "}"] = blkL ln ind ind ((p :: r).filter fun p => !lo p) := by
  show ((if lo p = true then [] else partL ln ind false p) ++ fulL ln ind lo true r) ++ _ = _
  rw [h, if_neg Bool.false_ne_true, List.append_assoc, ful_rest, List.filter_cons_of_pos (by rw [h]; rfl)]
  show (ind ++ Str.ofString "" ++ p.1 ++ Str.ofString " {") :: (_ ++ _) = _
  rw [app_empty]
  rfl
end K3
namespace K3
open PySem PySem.Spec PyProof.Rows L2 TL
def prB : TS → List TB
  | .pl _ => []
  | .iff x y => [x, y]
  | .whl x => [x]
  | .undo _ x => [x]
  | .tr x hs y => x :: hs.L.map (·.2) ++ [y]
  | .wth _ _ _ _ _ x => [x]
theorem prB_is (s : TS) : prB s = (fulP s).map (·.2) := by
  cases s with
  | tr x hs y =>
    show x :: hs.L.map (·.2) ++ [y] = (((Str.ofString "try", x) :: hs.L.map hdT) ++ [(Str.ofString "finally", y)]).map (·.2)
    rw [List.map_append, List.map_cons, List.map_map]
    rfl
  | _ => rfl
def spPartsL : Sp := fun vs H Q _ => ∃ (v : V) (s : TS), vs = [v] ∧ Dv H v (dS s) ∧ s.Ok ∧ ∀ (H' : Hp) (L : Addr) (qs : List V), Same H H' → H L = none → H' L = some (.lst qs) → Dvs H' qs (DL.of ((prB s).map fun x => .tup (dB x))) → Q (.ref L) H'
def spHeadsL : Sp := fun vs H Q _ => ∃ (v : V) (s : TS), vs = [v] ∧ Dv H v (dS s) ∧ s.Ok ∧ ∀ (H' : Hp) (L : Addr), Same H H' → H L = none → H' L = some (.lst ((headsOf s).map V.str)) → Q (.ref L) H'
theorem ans_word0 {K : PySem.W.Frag} {i : Nat} {σ : L2.St} {H : Hp} {r : Addr} {x y : Str} {xs : List V} {b : Bool} (h : σ[i]? = some (some (.ref r))) (hr : H r = some (.tup (.str x :: xs))) (hb : decide (V.str x = V.str y) = b) : Ans (tTest (tOp rEq (tOp (rIxT K) (tVar i) (tC (.int 0))) (tC (.str y)))) σ H b :=
  ans_eq (x := V.str x) (y := V.str y) (fun Q q => ⟨_, h, r, _, _, _, rfl, rfl, .inl (.inl hr), atI_nat (j := 0) rfl, q⟩) val_c rfl hb
theorem ite_strW {c : TT} {ta tb : TE} {σ : L2.St} {H : Hp} {Q : VK} {x y : Str} {b : Bool} (h : Ans c σ H b) (hx : b = true → Val ta σ H (.str x)) (hy : b = false → Val tb σ H (.str y)) (q : Q (.str (if b = true then x else y)) H) : tIf c ta tb σ H Q := h _ (by
  cases b with
  | true => exact hx rfl _ q
  | false => exact hy rfl _ q)
section
variable {P : Program} {w : World} {K : PySem.W.Frag} {mg : Str → Option Value} {base : Heap} {a : Ads}
theorem sc__law_line : FnScope ["_law_statement"] ["_law_statement"] (defScope s__law_line) := ⟨rfl, rfl, rfl, by decide +kernel, rfl, by decide +kernel, by decide +kernel⟩
theorem ok__law_line (T : Txt K mg a) : FnOk P w K mg base CX0 3 a.f__law_line a.f__law_line_d ["_law_statement"] spPlain := by
  refine T.F__law_line.ok sc__law_line (fun vs H Q E h => ?_) (fun cdv A outer s H vs Q E hr h => ?_)
  · obtain ⟨v, p, rfl, _⟩ := h
    rfl
  obtain ⟨v, p, rfl, hv, ok, q⟩ := h
  refine ⟨_, (pss_cons (ps_if (pt_cmpR op_eq (pe_ix ix_tup (pv 0) pe_int (fun _ _ => rfl)) pe_str (nomark _))
      (pss_one (ps_ret (pe_op op_add_str (pe_op op_add_str (pe_ix ix_tup (pv 0) pe_int (fun _ _ => rfl)) pe_str) (pe_call (ok__law_expression_text T) (hr.mono (by decide)) (by rfl) T.g__law_expression_text T.F__law_expression_text.kp T.b__law_expression_text .nil pass0 (pa_cons (pe_ix ix_tup (pv 0) pe_int (fun _ _ => rfl)) pa_nil)))))
      pss_nil)
    (pss_cons (ps_if (pt_cmpR op_eq (pe_ix ix_tup (pv 0) pe_int (fun _ _ => rfl)) pe_str (nomark _))
      (pss_one (ps_ret (pe_op op_add_str (pe_ix ix_tup (pv 0) pe_int (fun _ _ => rfl)) pe_str)))
      pss_nil)
    (pss_cons (ps_if (pt_cmpR op_eq (pe_ix ix_tup (pv 0) pe_int (fun _ _ => rfl)) pe_str (nomark _))
      (pss_one (ps_ret (pe_op op_add_str (pe_ifExp (pt_cmpR op_isN (pe_ix ix_tup (pv 0) pe_int (fun _ _ => rfl)) pe_non (nomark _)) pe_str (pe_op op_add_str (pe_ix ix_tup (pv 0) pe_int (fun _ _ => rfl)) pe_str)) (pe_call (ok__law_call_text T) (hr.mono (by decide)) (by rfl) T.g__law_call_text T.F__law_call_text.kp T.b__law_call_text .nil pass0 (pa_cons (pe_slice sl_tup (pv 0) (po_some pe_int) po_none) pa_nil)))))
      pss_nil)
    (pss_cons (ps_if (pt_cmpR op_eq (pe_ix ix_tup (pv 0) pe_int (fun _ _ => rfl)) pe_str (nomark _))
      (pss_one (ps_ret (pe_op op_add_str pe_str (pe_call (ok__law_expression_text T) (hr.mono (by decide)) (by rfl) T.g__law_expression_text T.F__law_expression_text.kp T.b__law_expression_text .nil pass0 (pa_cons (pe_ix ix_tup (pv 0) pe_int (fun _ _ => rfl)) pa_nil)))))
      pss_nil)
    (pss_cons (ps_if (pt_cmpR op_eq (pe_ix ix_tup (pv 0) pe_int (fun _ _ => rfl)) pe_str (nomark _))
      (pss_one (ps_ret (pe_op op_add_str pe_str (pe_ix ix_tup (pv 0) pe_int (fun _ _ => rfl)))))
      pss_nil)
    (pss_one (ps_ret (pe_op op_add_str pe_str (pe_join pe_str (pe_ix ix_tup (pv 0) pe_int (fun _ _ => rfl))))))))))), ?_⟩
  cases p with
  | set z e =>
    obtain ⟨r, _, rfl, hr, _, _, rfl, rfl, _, _, rfl, rfl, u, _, rfl, he, rfl⟩ := hv
    obtain ⟨hz, ok⟩ := ok
    have h1 := hz.len
    have h2 := eT_len ok
    refine st_seq (st_yes (ans_word0 rfl hr (by decide +kernel)) ?_)
    exact ⟨_, rfl, r, _, _, _, rfl, rfl, .inl (.inl hr), atI_nat (j := 1) rfl, _, _, rfl, rfl, bigLe (by rw [eq3_len]; omega), _, rfl, r, _, _, _, rfl, rfl, .inl (.inl hr), atI_nat (j := 2) rfl, u, e, rfl, he, ok, fun H' s => ⟨_, _, rfl, rfl, bigLe (by rw [Str.length_append, eq3_len]; omega), q H' s⟩⟩
  | inp z =>
    obtain ⟨r, _, rfl, hr, _, _, rfl, rfl, _, _, rfl, rfl, rfl⟩ := hv
    have h1 : z.length ≤ 20 := NameOk.len ok
    refine st_seq (st_no (ans_word0 rfl hr (by decide +kernel)) ?_)
    refine st_seq (st_yes (ans_word0 rfl hr (by decide +kernel)) ?_)
    exact ⟨_, rfl, r, _, _, _, rfl, rfl, .inl (.inl hr), atI_nat (j := 1) rfl, _, _, rfl, rfl, bigLe (by rw [eq4_len]; omega), q H (Same.refl H)⟩
  | call t f as =>
    obtain ⟨ot, hf, ha⟩ := ok
    have hc := call_len hf ha
    obtain ⟨r, tv, u, rfl, hr, htv, hu⟩ : ∃ (r : Addr) (tv u : V), v = .ref r ∧ H r = some (.tup [.str "call", tv, .str f, u]) ∧ tv = (match t with | none => V.non | some t => V.str t) ∧ Dv H u (.tup (DL.of (as.map dA))) := by
      cases t with
      | none =>
        obtain ⟨r, _, rfl, hr, _, _, rfl, rfl, _, _, rfl, rfl, _, _, rfl, rfl, u, _, rfl, hu, rfl⟩ := hv
        exact ⟨r, _, u, rfl, hr, rfl, hu⟩
      | some t =>
        obtain ⟨r, _, rfl, hr, _, _, rfl, rfl, _, _, rfl, rfl, _, _, rfl, rfl, u, _, rfl, hu, rfl⟩ := hv
        exact ⟨r, _, u, rfl, hr, rfl, hu⟩
    refine st_seq (st_no (ans_word0 rfl hr (by decide +kernel)) ?_)
    refine st_seq (st_no (ans_word0 rfl hr (by decide +kernel)) ?_)
    refine st_seq (st_yes (ans_word0 rfl hr (by decide +kernel)) ?_)
    obtain ⟨pre, hpl, hpre, hval⟩ : ∃ pre : Str, pre.length ≤ 23 ∧ pre ++ callT f as = plT (.call t f as) ∧ ∀ Q : VK, Q (.str pre) H → (tIf (tTest (tOp (fun x y H Q => y = V.non ∧ Q (.bl (decide (x = V.non))) H) (tOp (rIxT K) (tVar 0) (tC (.int 1))) (tC .non))) (tC (.str (Str.ofString ""))) (tOp (fun x y H Q => ∃ i j, x = V.str i ∧ y = V.str j ∧ i.length + j.length ≤ sizeLine ∧ Q (V.str (i ++ j)) H) (tOp (rIxT K) (tVar 0) (tC (.int 1))) (tC (.str (Str.ofString " = "))))) [some (.ref r)] H Q := by
      cases t with
      | none =>
        have htv : tv = V.non := htv
        subst htv
        exact ⟨Str.ofString "", by rw [e0_len]; decide, empty_app _, fun Q q => ⟨_, rfl, r, _, _, _, rfl, rfl, .inl (.inl hr), atI_nat (j := 1) rfl, rfl, _, rfl, iteT q⟩⟩
      | some t =>
        have htv : tv = V.str t := htv
        subst htv
        have h5 := (ot t rfl).len
        exact ⟨t ++ Str.ofString " = ", by rw [Str.length_append, eq3_len]; omega, rfl, fun Q q => ⟨_, rfl, r, _, _, _, rfl, rfl, .inl (.inl hr), atI_nat (j := 1) rfl, rfl, _, rfl, iteF ⟨_, rfl, r, _, _, _, rfl, rfl, .inl (.inl hr), atI_nat (j := 1) rfl, _, _, rfl, rfl, bigLe (by rw [eq3_len]; omega), q⟩⟩⟩
    refine hval _ ?_
    refine ⟨_, rfl, 2, rfl, r, _, rfl, .inl (.inl hr), fun z => absurd z.1 (by show ¬ HT.sIx 4 0 (some 2) = 0; decide), fun q1 n1 => ?_⟩
    have e1 : (upd H q1 (.tup (cutV [.str "call", tv, .str f, u] (some 2) none))) q1 = some (.tup [.str f, u]) := upd_same
    have s1 := same_upd (o := .tup (cutV [.str "call", tv, .str f, u] (some 2) none)) n1
    generalize upd H q1 (.tup (cutV [.str "call", tv, .str f, u] (some 2) none)) = H1 at e1 s1
    refine ⟨_, f, as, rfl, ⟨q1, _, rfl, e1, _, _, rfl, rfl, u, _, rfl, hu.mono (TK.of s1), rfl⟩, hf, ha, fun H2 s2 => ⟨_, _, rfl, rfl, bigLe (by omega), ?_⟩⟩
    rw [hpre]
    exact q _ (s1.trans s2)
  | ret e =>
    obtain ⟨r, _, rfl, hr, _, _, rfl, rfl, u, _, rfl, he, rfl⟩ := hv
    have h2 := eT_len ok
    refine st_seq (st_no (ans_word0 rfl hr (by decide +kernel)) ?_)
    refine st_seq (st_no (ans_word0 rfl hr (by decide +kernel)) ?_)
    refine st_seq (st_no (ans_word0 rfl hr (by decide +kernel)) ?_)
    refine st_seq (st_yes (ans_word0 rfl hr (by decide +kernel)) ?_)
    exact ⟨_, rfl, r, _, _, _, rfl, rfl, .inl (.inl hr), atI_nat (j := 1) rfl, u, e, rfl, he, ok, fun H' s => ⟨_, _, rfl, rfl, bigLe (by rw [ret_len]; omega), q H' s⟩⟩
  | rse k =>
    obtain ⟨r, _, rfl, hr, _, _, rfl, rfl, _, _, rfl, rfl, rfl⟩ := hv
    have h1 : k.length ≤ 20 := NameOk.len ok
    refine st_seq (st_no (ans_word0 rfl hr (by decide +kernel)) ?_)
    refine st_seq (st_no (ans_word0 rfl hr (by decide +kernel)) ?_)
    refine st_seq (st_no (ans_word0 rfl hr (by decide +kernel)) ?_)
    refine st_seq (st_no (ans_word0 rfl hr (by decide +kernel)) ?_)
    refine st_seq (st_yes (ans_word0 rfl hr (by decide +kernel)) ?_)
    exact ⟨_, rfl, r, _, _, _, rfl, rfl, .inl (.inl hr), atI_nat (j := 1) rfl, _, _, rfl, rfl, bigLe (by rw [raise_len]; omega), q H (Same.refl H)⟩
  | risk ks =>
    obtain ⟨r, _, rfl, hr, _, _, rfl, rfl, u, _, rfl, hu, rfl⟩ := hv
    obtain ⟨k, rfl, hk⟩ := Dv.strs hu
    have h1 := ns_sum ok.2
    have h2 := ns_len ok.2
    refine st_seq (st_no (ans_word0 rfl hr (by decide +kernel)) ?_)
    refine st_seq (st_no (ans_word0 rfl hr (by decide +kernel)) ?_)
    refine st_seq (st_no (ans_word0 rfl hr (by decide +kernel)) ?_)
    refine st_seq (st_no (ans_word0 rfl hr (by decide +kernel)) ?_)
    refine st_seq (st_no (ans_word0 rfl hr (by decide +kernel)) ?_)
    exact ⟨⟨_, rfl⟩, _, rfl, r, _, _, _, rfl, rfl, .inl (.inl hr), atI_nat (j := 1) rfl, Str.ofString ", ", k, ks, rfl, rfl, .inr (.inl (.inl hk)), by rw [c2_len]; omega, _, _, rfl, rfl, bigLe (by rw [risk_len]; omega), q H (Same.refl H)⟩
theorem sc__law_parts : FnScope ["_law_statement", "_law_handler"] ["_law_statement"] (defScope s__law_parts) := ⟨rfl, rfl, rfl, by decide +kernel, rfl, by decide +kernel, by decide +kernel⟩
theorem ok__law_parts (T : Txt K mg a) : FnOk P w K mg base CX0 1 a.f__law_parts a.f__law_parts_d ["_law_statement"] spPartsL := by
  refine T.F__law_parts.ok sc__law_parts (fun vs H Q E h => ?_) (fun cdv A outer s H vs Q E hr h => ?_)
  · obtain ⟨v, s, rfl, _⟩ := h
    rfl
  obtain ⟨v, s, rfl, hv, ok, q⟩ := h
  refine ⟨_, (pss_cons (ps_if (pt_cmpR op_eq (pe_ix ix_tup (pv 0) pe_int (fun _ _ => rfl)) pe_str (nomark _))
      (pss_one (ps_ret (pe_lst (pa_cons (pe_ix ix_tup (pv 0) pe_int (fun _ _ => rfl)) (pa_cons (pe_ix ix_tup (pv 0) pe_int (fun _ _ => rfl)) pa_nil)))))
      pss_nil)
    (pss_cons (ps_if (pt_cmpR op_eq (pe_ix ix_tup (pv 0) pe_int (fun _ _ => rfl)) pe_str (nomark _))
      (pss_one (ps_ret (pe_lst (pa_cons (pe_ix ix_tup (pv 0) pe_int (fun _ _ => rfl)) pa_nil))))
      pss_nil)
    (pss_cons (ps_if (pt_cmpR op_eq (pe_ix ix_tup (pv 0) pe_int (fun _ _ => rfl)) pe_str (nomark _))
      (pss_one (ps_ret (pe_op op_cat (pe_op op_cat (pe_lst (pa_cons (pe_ix ix_tup (pv 0) pe_int (fun _ _ => rfl)) pa_nil)) (pe_lc (own := [("_law_handler", 1)]) (g := gName 1) (tt := tYes) (by rfl) sc__law_parts.nd (pi_tup (pe_ix ix_tup (pv 0) pe_int (fun _ _ => rfl))) (blkOk_by (own := [("_law_handler", 1)]) (N := ["_law_statement", "_law_handler"]) (sc := defScope s__law_parts) (by decide +kernel)) (fun _ _ _ _ _ => pg_name (i := 1) sc__law_parts.nd rfl (Or.inl rfl)) (fun _ _ _ _ _ => pts_nil) (fun _ _ _ _ _ => (pe_ix (show IxR _ (rIxT K) from ix_tup) (pv 1) pe_int (fun _ _ => rfl))))) (pe_lst (pa_cons (pe_ix ix_tup (pv 0) pe_int (fun _ _ => rfl)) pa_nil)))))
      pss_nil)
    (pss_cons (ps_if (pt_cmpR op_eq (pe_ix ix_tup (pv 0) pe_int (fun _ _ => rfl)) pe_str (nomark _))
      (pss_one (ps_ret (pe_lst (pa_cons (pe_ix ix_tup (pv 0) pe_int (fun _ _ => rfl)) pa_nil))))
      pss_nil)
    (pss_cons (ps_if (pt_cmpR op_eq (pe_ix ix_tup (pv 0) pe_int (fun _ _ => rfl)) pe_str (nomark _))
      (pss_one (ps_ret (pe_lst (pa_cons (pe_ix ix_tup (pv 0) pe_int (fun _ _ => rfl)) pa_nil))))
      pss_nil)
    (pss_one (ps_ret (pe_lst pa_nil)))))))), ?_⟩
  cases s with
  | pl p =>
    obtain ⟨r, w, xs, rfl, hr, n1, n2, n3, n4, n5⟩ := dP_word hv
    refine st_seq (st_no (ans_word0 rfl hr (decide_eq_false fun e => n1 (V.str.inj e))) ?_)
    refine st_seq (st_no (ans_word0 rfl hr (decide_eq_false fun e => n2 (V.str.inj e))) ?_)
    refine st_seq (st_no (ans_word0 rfl hr (decide_eq_false fun e => n3 (V.str.inj e))) ?_)
    refine st_seq (st_no (ans_word0 rfl hr (decide_eq_false fun e => n4 (V.str.inj e))) ?_)
    refine st_seq (st_no (ans_word0 rfl hr (decide_eq_false fun e => n5 (V.str.inj e))) ?_)
    refine ⟨Nat.zero_le _, fun L nL => q _ L [] (same_upd nL) nL upd_same rfl⟩
  | iff x y =>
    obtain ⟨r, _, rfl, hr, _, _, rfl, rfl, u1, _, rfl, h1, u2, _, rfl, h2, rfl⟩ := hv
    refine st_seq (st_yes (ans_word0 rfl hr (by decide +kernel)) ?_)
    refine ⟨_, rfl, r, _, _, _, rfl, rfl, .inl (.inl hr), atI_nat (j := 1) rfl, _, rfl, r, _, _, _, rfl, rfl, .inl (.inl hr), atI_nat (j := 2) rfl, (by show 2 ≤ sizeLine; decide), fun L nL => ?_⟩
    have s := same_upd (o := .lst [u1, u2]) nL
    exact q _ L _ s nL upd_same ⟨_, _, rfl, h1.mono (TK.of s), _, _, rfl, h2.mono (TK.of s), rfl⟩
  | whl x =>
    obtain ⟨r, _, rfl, hr, _, _, rfl, rfl, u1, _, rfl, h1, rfl⟩ := hv
    refine st_seq (st_no (ans_word0 rfl hr (by decide +kernel)) ?_)
    refine st_seq (st_yes (ans_word0 rfl hr (by decide +kernel)) ?_)
    refine ⟨_, rfl, r, _, _, _, rfl, rfl, .inl (.inl hr), atI_nat (j := 1) rfl, (by show 1 ≤ sizeLine; decide), fun L nL => ?_⟩
    have s := same_upd (o := .lst [u1]) nL
    exact q _ L _ s nL upd_same ⟨_, _, rfl, h1.mono (TK.of s), rfl⟩
  | tr x hs y =>
    obtain ⟨r, _, rfl, hr, _, _, rfl, rfl, u1, _, rfl, h1, u2, _, rfl, ⟨ph, xs, rfl, hph, hxs⟩, u3, _, rfl, h3, rfl⟩ := hv
    rw [dH_of] at hxs
    have hl := hxs.len
    rw [List.length_map] at hl
    obtain ⟨okx, hhl, okh, oky⟩ := ok
    refine st_seq (st_no (ans_word0 rfl hr (by decide +kernel)) ?_)
    refine st_seq (st_no (ans_word0 rfl hr (by decide +kernel)) ?_)
    refine st_seq (st_yes (ans_word0 rfl hr (by decide +kernel)) ?_)
    refine ⟨_, rfl, r, _, _, _, rfl, rfl, .inl (.inl hr), atI_nat (j := 1) rfl, (by show 1 ≤ sizeLine; decide), fun A1 nA => ?_⟩
    have sA := same_upd (o := .lst [u1]) nA
    have hA : (upd H A1 (.lst [u1])) A1 = some (.lst [u1]) := upd_same
    generalize upd H A1 (.lst [u1]) = H1 at sA hA
    refine ⟨_, rfl, r, _, _, _, rfl, rfl, .inl (.inl (sA _ _ hr)), atI_nat (j := 2) rfl, ph, rfl, ⟨_, .inl (.inl (sA _ _ hph))⟩, fun N nN => ?_⟩
    refine lc_tup (K := K) (a := ph) (xs := xs) (fun i H' => Same H1 H' ∧ ∃ ys, H' N = some (.lst ys) ∧ Dvs H' ys (DL.of ((((hs.L.take i).map (·.2)).map fun x => D.tup (dB x))))) ⟨same_upd nN, [], upd_same, rfl⟩ (fun i H' _ hh => .inl (.inl (hh.1 _ _ (sA _ _ hph)))) ?_ ?_
    · rintro i x1 H' hi ⟨s2, ys, hN, hD⟩
      obtain ⟨d, hd, hx⟩ := (hxs.mono (TK.of (sA.trans s2))).get hi
      obtain ⟨hh, hhi, rfl⟩ := get_map hd
      obtain ⟨b, _, rfl, hb, k1, _, rfl, hk1, k2, _, rfl, hk2, rfl⟩ := hx
      have hyl := hD.len
      rw [List.length_map, List.length_map, List.length_take] at hyl
      refine ⟨rfl, _, rfl, b, _, _, _, rfl, rfl, .inl (.inl hb), atI_nat (j := 1) rfl, _, hN, bigLine (by omega), same_mut s2 nN, _, upd_same, ?_⟩
      have tk : TK H' (upd H' N (.lst (ys ++ [k2]))) := TK.upd hN (fun _ z => by cases z)
      rw [List.take_add_one, hhi, List.map_append, List.map_append]
      exact Dvs.app (d := .tup (dB hh.2)) (hk2.mono tk) (hD.mono tk)
    · rintro H2 ⟨s2, ys, hN, hD⟩
      rw [hl, List.take_length] at hD
      have hyl := hD.len
      rw [List.length_map, List.length_map] at hyl
      refine ⟨A1, N, _, _, rfl, rfl, s2 _ _ hA, hN, bigLe (by rw [List.length_singleton]; omega), fun B nB => ?_⟩
      have sB := same_upd (o := .lst ([u1] ++ ys)) nB
      have hB : (upd H2 B (.lst ([u1] ++ ys))) B = some (.lst ([u1] ++ ys)) := upd_same
      generalize upd H2 B (.lst ([u1] ++ ys)) = H3 at sB hB
      have s13 := (sA.trans s2).trans sB
      refine ⟨_, rfl, r, _, _, _, rfl, rfl, .inl (.inl (s13 _ _ hr)), atI_nat (j := 3) rfl, (by show 1 ≤ sizeLine; decide), fun C nC => ?_⟩
      have sC := same_upd (o := .lst [u3]) nC
      refine ⟨B, C, _, _, rfl, rfl, sC _ _ hB, upd_same, bigLe (by rw [List.length_append, List.length_singleton, List.length_singleton]; omega), fun L nL => ?_⟩
      have sL := same_upd (o := .lst (([u1] ++ ys) ++ [u3])) nL
      have sAll := (s13.trans sC).trans sL
      refine q _ L _ sAll (s13.free (sC.free nL)) upd_same ?_
      show Dvs _ _ (DL.of ((x :: hs.L.map (·.2) ++ [y]).map fun x => D.tup (dB x)))
      rw [List.map_append]
      exact Dvs.app (d := .tup (dB y)) (h3.mono (TK.of sAll)) (l := (x :: hs.L.map (·.2)).map fun x => D.tup (dB x)) ⟨_, _, rfl, h1.mono (TK.of sAll), hD.mono (((TK.of sB).trans (TK.of sC)).trans (TK.of sL))⟩
  | undo vs x =>
    obtain ⟨r, _, rfl, hr, _, _, rfl, rfl, u1, _, rfl, h1, u2, _, rfl, h2, rfl⟩ := hv
    refine st_seq (st_no (ans_word0 rfl hr (by decide +kernel)) ?_)
    refine st_seq (st_no (ans_word0 rfl hr (by decide +kernel)) ?_)
    refine st_seq (st_no (ans_word0 rfl hr (by decide +kernel)) ?_)
    refine st_seq (st_yes (ans_word0 rfl hr (by decide +kernel)) ?_)
    refine ⟨_, rfl, r, _, _, _, rfl, rfl, .inl (.inl hr), atI_nat (j := 2) rfl, (by show 1 ≤ sizeLine; decide), fun L nL => ?_⟩
    have s := same_upd (o := .lst [u2]) nL
    exact q _ L _ s nL upd_same ⟨_, _, rfl, h2.mono (TK.of s), rfl⟩
  | wth f as g bs ks x =>
    obtain ⟨r, _, rfl, hr, _, _, rfl, rfl, u1, _, rfl, h1, u2, _, rfl, h2, u3, _, rfl, h3, u4, _, rfl, h4, rfl⟩ := hv
    refine st_seq (st_no (ans_word0 rfl hr (by decide +kernel)) ?_)
    refine st_seq (st_no (ans_word0 rfl hr (by decide +kernel)) ?_)
    refine st_seq (st_no (ans_word0 rfl hr (by decide +kernel)) ?_)
    refine st_seq (st_no (ans_word0 rfl hr (by decide +kernel)) ?_)
    refine st_seq (st_yes (ans_word0 rfl hr (by decide +kernel)) ?_)
    refine ⟨_, rfl, r, _, _, _, rfl, rfl, .inl (.inl hr), atI_nat (j := 4) rfl, (by show 1 ≤ sizeLine; decide), fun L nL => ?_⟩
    have s := same_upd (o := .lst [u4]) nL
    exact q _ L _ s nL upd_same ⟨_, _, rfl, h4.mono (TK.of s), rfl⟩
end
end K3
namespace K3
open PySem PySem.Spec PyProof.Rows L2 TL
theorem pe_joinK {X : Cx} {K : PySem.W.Frag} {o e : Expr} {to te : TE} {apos pos : Pos} (hK : X.K = K) (ho : PE X o to) (he : PE X e te) (hs : starEach [e] X.env = [(false, eval e X.env)] := by rfl) (hbase : attributeBase o "join" X.env (eval o X.env) = eval o X.env := by rfl) (hline : (apos.endLine == pos.line) = true := by rfl) :
    PE X (.Call (.Attribute o "join" apos) [e] [] pos) (tM1 (fun x xs H Q => ∃ a p, ∃ ys : List Str, x = .str a ∧ xs = [.ref p] ∧ (SqL K H p (ys.map V.str) ∨ SqT K H p (ys.map V.str)) ∧ (ys.map (·.length)).sum + ys.length * a.length ≤ 16777216 ∧ Q (.str (Txt.join a ys)) H) to te) := by
  subst hK
  exact pe_join ho he hs hbase hline
theorem ful_ok {s : TS} (h : s.Ok) : ∀ q ∈ fulP s, q.2.Ok ∧ q.2.ht + 1 ≤ s.ht ∧ q.2.sz + 1 ≤ s.sz ∧ q.1.length ≤ 930 := by
  have e1 : (Str.ofString "if").length ≤ 930 := by decide +kernel
  have e2 : (Str.ofString "else").length ≤ 930 := by decide +kernel
  have e3 : (Str.ofString "while").length ≤ 930 := by decide +kernel
  have e4 : (Str.ofString "try").length ≤ 930 := by decide +kernel
  have e5 : (Str.ofString "finally").length ≤ 930 := by decide +kernel
  match s, h with
  | .pl _, _ => exact fun q hq => by cases hq
  | .iff x y, ⟨h1, h2⟩ =>
    intro q hq
    show _ ∧ q.2.ht + 1 ≤ max x.ht y.ht + 1 ∧ q.2.sz + 1 ≤ x.sz + y.sz + 1 ∧ _
    rcases List.mem_cons.mp hq with rfl | hq
    · exact ⟨h1, Nat.succ_le_succ (Nat.le_max_left _ _), by show x.sz + 1 ≤ _; omega, e1⟩
    · rw [List.mem_singleton.mp hq]
      exact ⟨h2, Nat.succ_le_succ (Nat.le_max_right _ _), by show y.sz + 1 ≤ _; omega, e2⟩
  | .whl x, h =>
    intro q hq
    rw [List.mem_singleton.mp hq]
    exact ⟨h, Nat.le_refl _, Nat.le_refl _, e3⟩
  | .undo vs x, ⟨_, h0, h⟩ =>
    intro q hq
    rw [List.mem_singleton.mp hq]
    refine ⟨h, Nat.le_refl _, Nat.le_refl _, ?_⟩
    have := ns_len h0
    show (Str.ofString "undo " ++ _).length ≤ 930
    rw [Str.length_append, und_len]
    omega
  | .tr x hs y, ⟨h1, _, h2, h3⟩ =>
    intro q hq
    show _ ∧ q.2.ht + 1 ≤ max x.ht (max hs.ht y.ht) + 1 ∧ q.2.sz + 1 ≤ x.sz + hs.sz + y.sz + 1 ∧ _
    have m1 := Nat.le_max_left x.ht (max hs.ht y.ht)
    have m2 := Nat.le_max_right x.ht (max hs.ht y.ht)
    have m3 := Nat.le_max_left hs.ht y.ht
    have m4 := Nat.le_max_right hs.ht y.ht
    have hq' : q ∈ ((Str.ofString "try", x) :: hs.L.map hdT) ++ [(Str.ofString "finally", y)] := hq
    rcases List.mem_append.mp hq' with hq | hq
    · rcases List.mem_cons.mp hq with rfl | hq
      · exact ⟨h1, Nat.succ_le_succ m1, by show x.sz + 1 ≤ _; omega, e4⟩
      · obtain ⟨z, hz, rfl⟩ := List.mem_map.mp hq
        have hz2 := TH.ok_mem h2 hz
        have l1 := ns_len hz2.2.1
        refine ⟨hz2.2.2, ?_, ?_, ?_⟩
        · have : z.2.ht ≤ hs.ht := TH.ht_mem hz
          show z.2.ht + 1 ≤ _
          omega
        · have : z.2.sz ≤ hs.sz := by
            rw [TH.sz_L]
            exact le_sum (List.mem_map.mpr ⟨z, hz, rfl⟩)
          show z.2.sz + 1 ≤ _
          omega
        · show (Str.ofString "except " ++ _).length ≤ 930
          rw [Str.length_append, exc_len]
          omega
    · rw [List.mem_singleton.mp hq]
      refine ⟨h3, ?_, ?_, e5⟩
      · show y.ht + 1 ≤ _
        omega
      · show y.sz + 1 ≤ _
        omega
  | .wth f as g bs ks x, ⟨h1, h2, h3, h4, h5, h⟩ =>
    intro q hq
    rw [List.mem_singleton.mp hq]
    have := wth_len h1 h2 h3 h4 h5
    exact ⟨h, Nat.le_refl _, Nat.le_refl _, by show (wthT f as g bs ks).length ≤ 930; omega⟩
theorem ful_num {s : TS} (h : s.Ok) : (fulP s).length ≤ 4 := by
  match s, h with
  | .pl _, _ => exact Nat.zero_le _
  | .iff x y, _ => exact (by decide : 2 ≤ 4)
  | .whl x, _ => exact (by decide : 1 ≤ 4)
  | .undo vs x, _ => exact (by decide : 1 ≤ 4)
  | .tr x hs y, ⟨_, hl, _, _⟩ =>
    show (((Str.ofString "try", x) :: hs.L.map hdT) ++ [(Str.ofString "finally", y)]).length ≤ 4
    rw [List.length_append, List.length_cons, List.length_map]
    show hs.L.length + 1 + 1 ≤ 4
    omega
  | .wth _ _ _ _ _ x, _ => exact (by decide : 1 ≤ 4)
theorem ful_first {s : TS} {p : Str × TB} {r : List (Str × TB)} (h : fulP s = p :: r) : loP s p = false := by
  cases s with
  | pl _ => cases h
  | iff x y => cases h; exact lo_no ne_if
  | whl x => cases h; exact lo_no ne_while
  | undo vs x => cases h; exact lo_no (ne_undo _)
  | tr x hs y => cases h; exact lo_no ne_try
  | wth f as g bs ks x => cases h; exact lo_no (ne_with _ _ _ _ _)
/-- finally stands in a try alone -/
theorem fin_try {s : TS} {p : Str × TB} (h : p ∈ fulP s) (e : decide (V.str p.1 = V.str (Str.ofString "finally")) = true) : ∃ x hs y, s = .tr x hs y := by
  have no : ∀ {x : Str}, decide (V.str x = V.str (Str.ofString "finally")) = false → p.1 = x → False := fun h1 h2 => by
    rw [h2, h1] at e
    cases e
  cases s with
  | pl _ => cases h
  | iff x y =>
    rcases List.mem_cons.mp h with h | h
    · exact (no ne_if.1 (by rw [h])).elim
    · exact (no (x := Str.ofString "else") (by decide +kernel) (by rw [List.mem_singleton.mp h])).elim
  | whl x => exact (no ne_while.1 (by rw [List.mem_singleton.mp h])).elim
  | undo vs x => exact (no (ne_undo _).1 (by rw [List.mem_singleton.mp h])).elim
  | tr x hs y => exact ⟨x, hs, y, rfl⟩
  | wth f as g bs ks x => exact (no (ne_with _ _ _ _ _).1 (by rw [List.mem_singleton.mp h])).elim
theorem ln_is (n : Nat) (ind : Str) (s : TS) (hn : fulP s ≠ [] → n ≠ 0) : lnS n ind s = if (fulP s).isEmpty = true then [ind ++ plS s] else fulL (lnS (n - 1)) ind (loP s) false (fulP s) ++ [ind ++ Str.ofString "}"] := by
  cases hf : fulP s with
  | nil =>
    have hp : prS s = [] := by rw [pr_is, hf]; rfl
    cases n with
    | zero => rfl
    | succ n =>
      show (if (prS s).isEmpty = true then [ind ++ plS s] else _) = _
      rw [hp]
      rfl
  | cons p r =>
    obtain ⟨m, rfl⟩ : ∃ m, n = m + 1 := ⟨n - 1, by have := hn (by rw [hf]; exact List.cons_ne_nil _ _); omega⟩
    have h0 := ful_first hf
    have hp : prS s = (p :: r).filter fun p => !loP s p := by rw [pr_is, hf]
    show (if (prS s).isEmpty = true then [ind ++ plS s] else blkL (lnS m) ind ind (prS s)) = fulL (lnS m) ind (loP s) false (p :: r) ++ [ind ++ Str.ofString "}"]
    rw [ful_all h0, hp, List.filter_cons_of_pos (by rw [h0]; rfl)]
    rfl
def spLL (n : Nat) : Sp := fun vs H Q _ => ∃ (v : V) (ind : Str) (x : TB), vs = [v, .str ind] ∧ Dv H v (.tup (dB x)) ∧ x.Ok ∧ x.ht ≤ n ∧ x.sz ≤ 1000 ∧ ind.length + 2 * n ≤ 900 ∧ n ≤ 8 ∧
  ∀ (H' : Hp) (L : Addr), Same H H' → H L = none → H' L = some (.lst (((x.L.map (lnS n ind)).flatten).map V.str)) → Q (.ref L) H'
def spLLr : Nat → Sp
  | 0 => fun _ _ _ _ => False
  | m + 1 => spLL m
section
variable {P : Program} {w : World} {K : PySem.W.Frag} {mg : Str → Option Value} {base : Heap} {a : Ads}
theorem sc__law_heads : FnScope ["_law_statement", "_law_words", "_law_handler"] ["_law_statement"] (defScope s__law_heads) := ⟨rfl, rfl, rfl, by decide +kernel, rfl, by decide +kernel, by decide +kernel⟩
theorem ok__law_heads (T : Txt K mg a) : FnOk P w K mg base CX0 3 a.f__law_heads a.f__law_heads_d ["_law_statement"] spHeadsL := by
  refine T.F__law_heads.ok sc__law_heads (fun vs H Q E h => ?_) (fun cdv A outer s H vs Q E hr h => ?_)
  · obtain ⟨v, s, rfl, _⟩ := h
    rfl
  obtain ⟨v, s, rfl, hv, ok, q⟩ := h
  refine ⟨_, (pss_cons (ps_if (pt_cmpR op_eq (pe_ix ix_tup (pv 0) pe_int (fun _ _ => rfl)) pe_str (nomark _))
      (pss_one (ps_ret (pe_lst (pa_cons pe_str (pa_cons pe_str pa_nil)))))
      pss_nil)
    (pss_cons (ps_if (pt_cmpR op_eq (pe_ix ix_tup (pv 0) pe_int (fun _ _ => rfl)) pe_str (nomark _))
      (pss_one (ps_ret (pe_op op_cat (pe_op op_cat (pe_lst (pa_cons pe_str pa_nil)) (pe_lc (own := [("_law_handler", 2)]) (g := gName 2) (tt := tYes) (by rfl) sc__law_heads.nd (pi_tup (pe_ix ix_tup (pv 0) pe_int (fun _ _ => rfl))) (blkOk_by (own := [("_law_handler", 2)]) (N := ["_law_statement", "_law_words", "_law_handler"]) (sc := defScope s__law_heads) (by decide +kernel)) (fun _ _ _ _ _ => pg_name (i := 2) sc__law_heads.nd rfl (Or.inl rfl)) (fun _ _ _ _ _ => pts_nil) (fun _ _ _ _ _ => (pe_op op_add_str pe_str (pe_joinK (K := K) rfl pe_str (pe_ix (show IxR _ (rIxT K) from ix_tup) (pv 2) pe_int (fun _ _ => rfl))))))) (pe_lst (pa_cons pe_str pa_nil)))))
      pss_nil)
    (pss_cons (ps_if (pt_cmpR op_eq (pe_ix ix_tup (pv 0) pe_int (fun _ _ => rfl)) pe_str (nomark _))
      (pss_one (ps_ret (pe_lst (pa_cons (pe_op op_add_str pe_str (pe_join pe_str (pe_ix ix_tup (pv 0) pe_int (fun _ _ => rfl)))) pa_nil))))
      pss_nil)
    (pss_cons (ps_if (pt_cmpR op_eq (pe_ix ix_tup (pv 0) pe_int (fun _ _ => rfl)) pe_str (nomark _))
      (pss_cons (ps_set (i := 1) sc__law_heads.nd rfl (Or.inl rfl) (pe_op op_add_str (pe_op op_add_str (pe_op op_add_str pe_str (pe_call (ok__law_call_text T) (hr.mono (by decide)) (by rfl) T.g__law_call_text T.F__law_call_text.kp T.b__law_call_text .nil pass0 (pa_cons (pe_ix ix_tup (pv 0) pe_int (fun _ _ => rfl)) pa_nil))) pe_str) (pe_call (ok__law_call_text T) (hr.mono (by decide)) (by rfl) T.g__law_call_text T.F__law_call_text.kp T.b__law_call_text .nil pass0 (pa_cons (pe_ix ix_tup (pv 0) pe_int (fun _ _ => rfl)) pa_nil))))
      (pss_one (ps_ret (pe_lst (pa_cons (pe_op op_add_str (pv 1) (pe_ifExp (pt_cmpR (op_neD hr.units) (pe_ix ix_tup (pv 0) pe_int (fun _ _ => rfl)) (pe_tup pa_nil) (nomark _)) (pe_op op_add_str pe_str (pe_join pe_str (pe_ix ix_tup (pv 0) pe_int (fun _ _ => rfl)))) pe_str)) pa_nil)))))
      pss_nil)
    (pss_one (ps_ret (pe_lst (pa_cons pe_str pa_nil)))))))), ?_⟩
  cases s with
  | pl p =>
    obtain ⟨r, w, xs, rfl, hr, n1, n2, n3, n4, n5⟩ := dP_word hv
    refine st_seq (st_no (ans_word0 rfl hr (decide_eq_false fun e => n1 (V.str.inj e))) ?_)
    refine st_seq (st_no (ans_word0 rfl hr (decide_eq_false fun e => n3 (V.str.inj e))) ?_)
    refine st_seq (st_no (ans_word0 rfl hr (decide_eq_false fun e => n4 (V.str.inj e))) ?_)
    refine st_seq (st_no (ans_word0 rfl hr (decide_eq_false fun e => n5 (V.str.inj e))) ?_)
    refine ⟨(by show 1 ≤ sizeLine; decide), fun L nL => q _ L (same_upd nL) nL upd_same⟩
  | iff x y =>
    obtain ⟨r, _, rfl, hr, _, _, rfl, rfl, _⟩ := hv
    refine st_seq (st_yes (ans_word0 rfl hr (by decide +kernel)) ?_)
    exact ⟨(by show 2 ≤ sizeLine; decide), fun L nL => q _ L (same_upd nL) nL upd_same⟩
  | whl x =>
    obtain ⟨r, _, rfl, hr, _, _, rfl, rfl, _⟩ := hv
    refine st_seq (st_no (ans_word0 rfl hr (by decide +kernel)) ?_)
    refine st_seq (st_no (ans_word0 rfl hr (by decide +kernel)) ?_)
    refine st_seq (st_no (ans_word0 rfl hr (by decide +kernel)) ?_)
    refine st_seq (st_no (ans_word0 rfl hr (by decide +kernel)) ?_)
    exact ⟨(by show 1 ≤ sizeLine; decide), fun L nL => q _ L (same_upd nL) nL upd_same⟩
  | tr x hs y =>
    obtain ⟨r, _, rfl, hr, _, _, rfl, rfl, u1, _, rfl, h1, u2, _, rfl, ⟨ph, xs, rfl, hph, hxs⟩, u3, _, rfl, h3, rfl⟩ := hv
    rw [dH_of] at hxs
    have hl := hxs.len
    rw [List.length_map] at hl
    obtain ⟨okx, hhl, okh, oky⟩ := ok
    refine st_seq (st_no (ans_word0 rfl hr (by decide +kernel)) ?_)
    refine st_seq (st_yes (ans_word0 rfl hr (by decide +kernel)) ?_)
    refine ⟨(by show 1 ≤ sizeLine; decide), fun A1 nA => ?_⟩
    have sA := same_upd (o := .lst [.str "try"]) nA
    have hA : (upd H A1 (.lst [.str "try"])) A1 = some (.lst [.str "try"]) := upd_same
    generalize upd H A1 (.lst [.str "try"]) = H1 at sA hA
    refine ⟨_, rfl, r, _, _, _, rfl, rfl, .inl (.inl (sA _ _ hr)), atI_nat (j := 2) rfl, ph, rfl, ⟨_, .inl (.inl (sA _ _ hph))⟩, fun N nN => ?_⟩
    refine lc_tup (K := K) (a := ph) (xs := xs) (fun i H' => Same H1 H' ∧ H' N = some (.lst ((((hs.L.take i).map hdT).map (·.1)).map V.str))) ⟨same_upd nN, upd_same⟩ (fun i H' _ hh => .inl (.inl (hh.1 _ _ (sA _ _ hph)))) ?_ ?_
    · rintro i x1 H' hi ⟨s2, hN⟩
      obtain ⟨d, hd, hx⟩ := (hxs.mono (TK.of (sA.trans s2))).get hi
      obtain ⟨hh, hhi, rfl⟩ := get_map hd
      obtain ⟨b, _, rfl, hb, k1, _, rfl, hk1, k2, _, rfl, hk2, rfl⟩ := hx
      obtain ⟨kp, rfl, hkp⟩ := Dv.strs hk1
      have hm := TH.ok_mem okh (List.mem_of_getElem? hhi)
      have l1 := ns_sum hm.2.1
      have l2 := ns_len hm.2.1
      refine ⟨rfl, ⟨_, rfl⟩, _, rfl, b, _, _, _, rfl, rfl, .inl (.inl hb), atI_nat (j := 0) rfl, Str.ofString ", ", kp, hh.1, rfl, rfl, .inr (.inl (.inl hkp)), by rw [c2_len]; omega, _, _, rfl, rfl, bigLe (by rw [exc_len]; omega), _, hN, ?_, same_mut s2 nN, ?_⟩
      · rw [List.length_map, List.length_map]
        exact len_take hhl (by decide)
      · rw [upd_same, List.take_add_one, hhi, List.map_append, List.map_append, List.map_append]
        rfl
    · rintro H2 ⟨s2, hN⟩
      rw [hl, List.take_length] at hN
      refine ⟨A1, N, _, _, rfl, rfl, s2 _ _ hA, hN, bigLe (by rw [List.length_singleton, List.length_map, List.length_map, List.length_map]; omega), fun B nB => ?_⟩
      have sB := same_upd (o := .lst ([.str "try"] ++ ((hs.L.map hdT).map (·.1)).map V.str)) nB
      have hB : (upd H2 B (.lst ([.str "try"] ++ ((hs.L.map hdT).map (·.1)).map V.str))) B = some (.lst ([.str "try"] ++ ((hs.L.map hdT).map (·.1)).map V.str)) := upd_same
      generalize upd H2 B (.lst ([.str "try"] ++ ((hs.L.map hdT).map (·.1)).map V.str)) = H3 at sB hB
      have s13 := (sA.trans s2).trans sB
      refine ⟨(by show 1 ≤ sizeLine; decide), fun C nC => ?_⟩
      have sC := same_upd (o := .lst [.str "finally"]) nC
      refine ⟨B, C, _, _, rfl, rfl, sC _ _ hB, upd_same, bigLe (by rw [List.length_append, List.length_singleton, List.length_singleton, List.length_map, List.length_map, List.length_map]; omega), fun L nL => ?_⟩
      have sL := same_upd (o := .lst (([.str "try"] ++ ((hs.L.map hdT).map (·.1)).map V.str) ++ [.str "finally"])) nL
      refine q _ L ((s13.trans sC).trans sL) (s13.free (sC.free nL)) ?_
      rw [upd_same]
      show _ = some (HO.lst (((((Str.ofString "try", x) :: hs.L.map hdT) ++ [(Str.ofString "finally", y)]).map (·.1)).map V.str))
      rw [List.map_append, List.map_append]
      rfl
  | undo vs x =>
    obtain ⟨r, _, rfl, hr, _, _, rfl, rfl, u1, _, rfl, h1, u2, _, rfl, h2, rfl⟩ := hv
    obtain ⟨k, rfl, hk⟩ := Dv.strs h1
    have l1 := ns_sum ok.2.1
    have l2 := ns_len ok.2.1
    refine st_seq (st_no (ans_word0 rfl hr (by decide +kernel)) ?_)
    refine st_seq (st_no (ans_word0 rfl hr (by decide +kernel)) ?_)
    refine st_seq (st_yes (ans_word0 rfl hr (by decide +kernel)) ?_)
    exact ⟨⟨_, rfl⟩, _, rfl, r, _, _, _, rfl, rfl, .inl (.inl hr), atI_nat (j := 1) rfl, Str.ofString ", ", k, vs, rfl, rfl, .inr (.inl (.inl hk)), by rw [c2_len]; omega, _, _, rfl, rfl, bigLe (by rw [und_len]; omega), (by show 1 ≤ sizeLine; decide), fun L nL => q _ L (same_upd nL) nL upd_same⟩
  | wth f as g bs ks x =>
    obtain ⟨r, _, rfl, hr, _, _, rfl, rfl, u1, _, rfl, h1, u2, _, rfl, h2, u3, _, rfl, h3, u4, _, rfl, h4, rfl⟩ := hv
    obtain ⟨kp, rfl, hkp⟩ := Dv.strs h3
    obtain ⟨hf, ha, hg, hb, hk, _⟩ := ok
    have l1 := call_len hf ha
    have l2 := call_len hg hb
    have l3 := ns_len hk
    have l4 := ns_sum hk
    refine st_seq (st_no (ans_word0 rfl hr (by decide +kernel)) ?_)
    refine st_seq (st_no (ans_word0 rfl hr (by decide +kernel)) ?_)
    refine st_seq (st_no (ans_word0 rfl hr (by decide +kernel)) ?_)
    refine st_seq (st_yes (ans_word0 rfl hr (by decide +kernel)) ?_)
    refine ⟨_, rfl, r, _, _, _, rfl, rfl, .inl (.inl hr), atI_nat (j := 1) rfl, u1, f, as, rfl, h1, hf, ha, fun H2 s2 => ⟨_, _, rfl, rfl, bigLe (by rw [with_len]; omega), _, _, rfl, rfl, bigLe (by rw [Str.length_append, with_len, c2_len]; omega), _, rfl, r, _, _, _, rfl, rfl, .inl (.inl (s2 _ _ hr)), atI_nat (j := 2) rfl, u2, g, bs, rfl, h2.mono (TK.of s2), hg, hb, fun H3 s3 => ⟨_, _, rfl, rfl, bigLe (by rw [Str.length_append, Str.length_append, with_len, c2_len]; omega), ?_⟩⟩⟩
    have s4 := s2.trans s3
    dsimp only [gName]
    have hkp3 := s4 _ _ hkp
    have hr3 := s4 _ _ hr
    generalize hw : Str.ofString "with " ++ callT f as ++ Str.ofString ", " ++ callT g bs = wt
    have wl : wt.length ≤ 867 := by
      rw [← hw, Str.length_append, Str.length_append, Str.length_append, with_len, c2_len]
      omega
    refine ⟨_, rfl, _, rfl, r, _, _, _, rfl, rfl, .inl (.inl hr3), atI_nat (j := 3) rfl, Nat.zero_le _, fun z nz => ?_⟩
    have sz := same_upd (o := .tup []) nz
    refine ⟨pd (dNs ks), .tuple [], Dv.dp (Dv.of_strs (sz _ _ hkp3)), .tup (.inl (.inl upd_same)) .nil, shaped_of (lay_ns hk.nm).1 (Nat.le_trans (lay_ns hk.nm).2 (by decide)), by decide +kernel, _, rfl, ?_⟩
    rw [show PyData.eqv (pd (dNs ks)) (.tuple []) = (ks.map D.str).isEmpty from eqv_nil _]
    have s5 := s4.trans sz
    have hkp5 := sz _ _ hkp3
    have hr5 := sz _ _ hr3
    generalize upd H3 z (.tup []) = H5 at s5 hkp5 hr5
    have q' : ∀ (H' : Hp) (L : Addr), Same H H' → H L = none → H' L = some (.lst [.str (wthT f as g bs ks)]) → Q (.ref L) H' := q
    unfold wthT at q'
    rw [hw] at q'
    cases ks with
    | nil =>
      refine iteF ⟨_, _, rfl, rfl, bigLe (by rw [e0_len]; omega), (by show 1 ≤ sizeLine; decide), fun L nL => q' _ L (s5.trans (same_upd nL)) (s5.free nL) ?_⟩
      rw [upd_same, app_empty]
      rfl
    | cons k kr =>
      refine iteT ⟨⟨_, rfl⟩, _, rfl, r, _, _, _, rfl, rfl, .inl (.inl hr5), atI_nat (j := 3) rfl, Str.ofString ", ", kp, k :: kr, rfl, rfl, .inr (.inl (.inl hkp5)), by rw [c2_len]; omega, _, _, rfl, rfl, bigLe (by rw [swa_len]; omega), _, _, rfl, rfl, bigLe (by rw [Str.length_append, swa_len]; omega), (by show 1 ≤ sizeLine; decide), fun L nL => q' _ L (s5.trans (same_upd nL)) (s5.free nL) ?_⟩
      rw [upd_same, ← str_app_assoc]
      rfl
end
end K3
namespace K3
open PySem PySem.Spec PyProof.Rows L2 TL
theorem heads_at {s : TS} {k : Nat} {q : Str × TB} (h : (fulP s)[k]? = some q) : ((headsOf s).map V.str)[k]? = some (.str q.1) := by
  cases s with
  | pl _ => simp [fulP] at h
  | iff x y =>
    show (((fulP (.iff x y)).map (·.1)).map V.str)[k]? = _
    rw [List.getElem?_map, List.getElem?_map, h]
    rfl
  | whl x =>
    show (((fulP (.whl x)).map (·.1)).map V.str)[k]? = _
    rw [List.getElem?_map, List.getElem?_map, h]
    rfl
  | undo vs x =>
    show (((fulP (.undo vs x)).map (·.1)).map V.str)[k]? = _
    rw [List.getElem?_map, List.getElem?_map, h]
    rfl
  | tr x hs y =>
    show (((fulP (.tr x hs y)).map (·.1)).map V.str)[k]? = _
    rw [List.getElem?_map, List.getElem?_map, h]
    rfl
  | wth f as g bs ks x =>
    show (((fulP (.wth f as g bs ks x)).map (·.1)).map V.str)[k]? = _
    rw [List.getElem?_map, List.getElem?_map, h]
    rfl
theorem ful_take {ln : Str → TS → List Str} {ind : Str} {lo : Str × TB → Bool} {ps : List (Str × TB)} {k : Nat} {q : Str × TB} (h : ps[k]? = some q) : fulL ln ind lo false (ps.take (k + 1)) = fulL ln ind lo false (ps.take k) ++ (if lo q = true then [] else partL ln ind (decide (0 < k)) q) := by
  have hk := (List.getElem?_eq_some_iff.mp h).1
  rw [List.take_add_one, h]
  show fulL ln ind lo false (ps.take k ++ [q]) = _
  rw [fulL_app]
  congr 2
  have e : (false || !(ps.take k).isEmpty) = decide (0 < k) := by
    rw [Bool.false_or]
    cases k with
    | zero => rfl
    | succ k =>
      cases ps with
      | nil => simp at hk
      | cons _ _ => rfl
  rw [e]
theorem fulL_len {n : Nat} {ind : Str} {lo : Str × TB → Bool} : ∀ (l : List (Str × TB)) (b : Bool), (∀ q ∈ l, q.2.Ok) → (fulL (lnS n) ind lo b l).length ≤ l.length + 5 * wsum l
  | [], _, _ => Nat.zero_le _
  | q :: r, b, h => by
    have h1 := fulL_len (n := n) (ind := ind) (lo := lo) r true fun x hx => h x (List.mem_cons_of_mem _ hx)
    have h2 := flat_len (f := lnS n (ind ++ Str.ofString "  ")) (g := TS.sz) q.2.L fun t ht => ln_len n _ t (TB.ok_mem (h q List.mem_cons_self) ht)
    rw [← TB.sz_L] at h2
    show (_ ++ fulL (lnS n) ind lo true r).length ≤ _
    rw [List.length_append, List.length_cons]
    show _ ≤ r.length + 1 + 5 * (q.2.sz + wsum r)
    split
    · show 0 + _ ≤ _
      omega
    · show (_ :: _ : List Str).length + _ ≤ _
      rw [List.length_cons]
      omega
theorem wsum_take (l : List (Str × TB)) (k : Nat) : wsum (l.take k) ≤ wsum l := by
  have : wsum l = wsum (l.take k) + wsum (l.drop k) := by
    unfold wsum
    rw [← List.sum_append, ← List.map_append, List.take_append_drop]
  omega
theorem ful_sz (s : TS) : wsum (fulP s) + 1 ≤ s.sz := by
  cases s with
  | pl _ => exact Nat.le_refl 1
  | iff x y =>
    show x.sz + (y.sz + 0) + 1 ≤ x.sz + y.sz + 1
    omega
  | whl x => exact Nat.le_refl _
  | undo vs x => exact Nat.le_refl _
  | tr x hs y =>
    have e : (hs.L.map hdT).map (fun p => p.2.sz) = hs.L.map fun h => h.2.sz := by
      rw [List.map_map]
      rfl
    show ((((Str.ofString "try", x) :: hs.L.map hdT) ++ [(Str.ofString "finally", y)]).map fun p => p.2.sz).sum + 1 ≤ x.sz + hs.sz + y.sz + 1
    rw [List.map_append, List.sum_append, List.map_cons, List.sum_cons, e, ← TH.sz_L]
    show x.sz + hs.sz + (y.sz + 0) + 1 ≤ _
    omega
  | wth _ _ _ _ _ x => exact Nat.le_refl _
section
variable {P : Program} {w : World} {K : PySem.W.Frag} {mg : Str → Option Value} {base : Heap} {a : Ads}
theorem sc__law_lines : FnScope ["_law_block_here", "_law_indent", "_law_lines_here", "_law_statement", "_law_parts_here", "_law_heads_here", "_law_k", "_law_is_left_out"] ["_law_block_here", "_law_indent"] (defScope s__law_lines) := ⟨rfl, rfl, rfl, by decide +kernel, rfl, by decide +kernel, by decide +kernel⟩
theorem ok__law_lines1 (T : Txt K mg a) (n k : Nat) (hk : 3 ≤ k) (ihl : FnOk P w K mg base CX0 k a.f__law_lines a.f__law_lines_d ["_law_block_here", "_law_indent"] (spLLr n)) : FnOk P w K mg base CX0 (k + 1) a.f__law_lines a.f__law_lines_d ["_law_block_here", "_law_indent"] (spLL n) := by
  refine T.F__law_lines.ok sc__law_lines (fun vs H Q E h => ?_) (fun cdv A outer s H vs Q E hr h => ?_)
  · obtain ⟨v, ind, x, rfl, _⟩ := h
    rfl
  obtain ⟨v, ind, x, rfl, hv, ok, hht, hsz, hil, hn8, q⟩ := h
  refine ⟨_, (pss_cons (ps_set (i := 2) sc__law_lines.nd rfl (Or.inl rfl) (pe_lst pa_nil))
    (pss_cons (ps_for PassesOwn.never rfl (pi_tup (pv 0)) (pg_name (i := 3) sc__law_lines.nd rfl (Or.inl rfl))
      (pss_cons (ps_set (i := 4) sc__law_lines.nd rfl (Or.inl rfl) (pe_call (ok__law_parts T) (hr.mono (by omega)) (by rfl) T.g__law_parts T.F__law_parts.kp T.b__law_parts .nil pass0 (pa_cons (pv 3) pa_nil)))
      (pss_cons (ps_if (pt_cmpR op_eq (pe_callB call_len_seq (by rfl) T.len PySem.boot_len (pa_cons (pv 4) pa_nil)) pe_int (nomark _))
        (pss_one (ps_expr (pe_bm PySem.F.plainAttrs_list PySem.F.slot_list_append PySem.F.type_list_append mt_append (pv 2) (pa_cons (pe_op op_add_str (pv 1) (pe_call (ok__law_line T) (hr.mono (by omega)) (by rfl) T.g__law_line T.F__law_line.kp T.b__law_line .nil pass0 (pa_cons (pv 3) pa_nil))) pa_nil))))
        pss_nil)
      (pss_cons (ps_set (i := 5) sc__law_lines.nd rfl (Or.inl rfl) (pe_call (ok__law_heads T) (hr.mono (by omega)) (by rfl) T.g__law_heads T.F__law_heads.kp T.b__law_heads .nil pass0 (pa_cons (pv 3) pa_nil)))
      (pss_cons (ps_for PassesOwn.never rfl (pi_range1 (by rfl) T.range (pa_cons (pe_callB call_len_seq (by rfl) T.len PySem.boot_len (pa_cons (pv 4) pa_nil)) pa_nil)) (pg_name (i := 6) sc__law_lines.nd rfl (Or.inl rfl))
        (pss_cons (ps_set (i := 7) sc__law_lines.nd rfl (Or.inl rfl) (pe_or (pe_and (pe_cmpR op_eq (pe_ix ix_list (pv 5) (pv 6) (fun _ _ => rfl)) pe_str (nomark _)) (pe_one (pe_cmpR (op_neD hr.units) (pe_ix ix_tup (pv 3) pe_int (fun _ _ => rfl)) (pe_tup pa_nil) (nomark _)))) (pe_one (pe_cmpR op_eq (pe_ix ix_list (pv 5) (pv 6) (fun _ _ => rfl)) pe_str (nomark _)))))
        (pss_cons (ps_set (i := 7) sc__law_lines.nd rfl (Or.inl rfl) (pe_and (pv 7) (pe_one (pe_cmpR (op_eqD hr.units) (pe_ix ix_list (pv 4) (pv 6) (fun _ _ => rfl)) (pe_tup pa_nil) (nomark _)))))
        (pss_one (ps_if (pt_not (pt_val (pv 7)))
          (pss_cons (ps_expr (pe_bm PySem.F.plainAttrs_list PySem.F.slot_list_append PySem.F.type_list_append mt_append (pv 2) (pa_cons (pe_op op_add_str (pe_op op_add_str (pe_op op_add_str (pv 1) (pe_ifExp (pt_cmpR op_gt (pv 6) pe_int (nomark _)) pe_str pe_str)) (pe_ix ix_list (pv 5) (pv 6) (fun _ _ => rfl))) pe_str) pa_nil)))
          (pss_one (ps_set (i := 2) sc__law_lines.nd rfl (Or.inl rfl) (pe_op op_cat (pv 2) (pe_call ihl hr (by rfl) T.g__law_lines T.F__law_lines.kp T.b__law_lines .nil pass0 (pa_cons (pe_ix ix_list (pv 4) (pv 6) (fun _ _ => rfl)) (pa_cons (pe_op op_add_str (pv 1) pe_str) pa_nil)))))))
          pss_nil)))))
      (pss_one (ps_if (pt_cmpR op_gt (pe_callB call_len_seq (by rfl) T.len PySem.boot_len (pa_cons (pv 4) pa_nil)) pe_int (nomark _))
        (pss_one (ps_expr (pe_bm PySem.F.plainAttrs_list PySem.F.slot_list_append PySem.F.type_list_append mt_append (pv 2) (pa_cons (pe_op op_add_str (pv 1) pe_str) pa_nil))))
        pss_nil)))))))
    (pss_one (ps_ret (pv 2))))), ?_⟩
  obtain ⟨pv, xs, rfl, hpv, hxs, _, hxl⟩ := hv.blk
  have htot : ∀ i, ((x.L.take i).map (lnS n ind)).flatten.length ≤ 5000 := fun i => by
    have h1 := flat_len (f := lnS n ind) (g := TS.sz) x.L fun t ht => ln_len n _ t (TB.ok_mem ok ht)
    rw [← TB.sz_L] at h1
    have h2 := take_flat_le (f := lnS n ind) (l := x.L) (i := i)
    omega
  refine ⟨Nat.zero_le _, fun L0 nL0 => ?_⟩
  have s0 := same_upd (o := .lst []) nL0
  have hL0 : (upd H L0 (.lst [])) L0 = some (.lst []) := upd_same
  dsimp only [gName]
  generalize upd H L0 (.lst []) = H0 at s0 hL0
  refine st_seq ⟨_, rfl, pv, rfl, ⟨_, .inl (.inl (s0 _ _ hpv))⟩, for_tup (K := K) (a := pv) (xs := xs) (fun i σ H' => ∃ (L : Addr) (v3 v4 v5 v6 v7 : Option V), σ = [some (.ref pv), some (.str ind), some (.ref L), v3, v4, v5, v6, v7] ∧ Same H H' ∧ H L = none ∧ H' L = some (.lst ((((x.L.take i).map (lnS n ind)).flatten).map V.str)))
    ⟨L0, none, none, none, none, none, rfl, s0, nL0, hL0⟩ (fun i σ H' _ ⟨_, _, _, _, _, _, _, s', _⟩ => .inl (.inl (s' _ _ hpv))) ?_ ?_⟩
  · rintro i xi σ H1 hi ⟨L, v3, v4, v5, v6, v7, rfl, s1, nL, hL1⟩
    obtain ⟨d, hd, hxi⟩ := (hxs.mono (TK.of s1)).get hi
    obtain ⟨t, hti, rfl⟩ := get_map hd
    have htm := List.mem_of_getElem? hti
    have tok := TB.ok_mem ok htm
    have tht := Nat.le_trans (TB.ht_mem htm) hht
    have tsz := Nat.le_trans (sz_mem htm) hsz
    have fnum := ful_num tok
    have fsz := ful_sz t
    have hpre := htot i
    rw [take_flat hti]
    generalize ((x.L.take i).map (lnS n ind)).flatten = pre at hL1 hpre
    dsimp only [gName]
    refine st_seq ⟨_, rfl, xi, t, rfl, hxi, tok, fun H2 PL qs s2 nPL hPL hqs => ?_⟩
    have hql := hqs.len
    rw [List.length_map, prB_is, List.length_map] at hql
    have s12 := s1.trans s2
    have hL2 := s2 _ _ hL1
    dsimp only [gName]
    -- a line of its own
    refine st_seq (if_drop (b := decide (V.int ((qs.length : Nat) : Int) = V.int 0)) (fun H3 => Same H H3 ∧ TK H2 H3 ∧ H3 PL = some (.lst qs) ∧ H3 L = some (.lst ((pre ++ (if (fulP t).isEmpty = true then [ind ++ plS t] else [])).map V.str))) (fun Q q => ⟨_, rfl, PL, _, rfl, .inl (SqL.of hPL), rfl, _, rfl, q⟩) (fun e Q' q' => ?_) (fun e => ⟨s12, TK.refl _, hPL, ?_⟩) ?_)
    · have e0 : qs.length = 0 := by
        have := V.int.inj (of_decide_eq_true e)
        omega
      have ef : fulP t = [] := List.length_eq_zero_iff.mp (by rw [← hql, e0])
      cases t with
      | pl p =>
        have hpl := pl_len (p := p) tok
        refine ⟨_, rfl, .inl ⟨rfl, _, SqL.of hL2⟩, _, rfl, _, rfl, xi, p, rfl, hxi.mono (TK.of s2), tok, fun H3 s3 => ⟨_, _, rfl, rfl, bigLe (by omega), L, _, _, rfl, rfl, s3 _ _ hL2, bigLine (by rw [List.length_map]; omega), ?_⟩⟩
        have hPLL : PL ≠ L := fun z => by
          rw [z, hL1] at nPL
          cases nPL
        refine q' _ _ ⟨same_mut (s12.trans s3) nL, (TK.of s3).trans (TK.upd (s3 _ _ hL2) (fun _ z => by cases z)), ?_, ?_⟩
        · rw [upd_ne hPLL]
          exact s3 _ _ hPL
        · rw [upd_same, ef]
          show some (HO.lst (_ ++ _)) = some (HO.lst ((pre ++ [ind ++ plT p]).map V.str))
          rw [List.map_append]
          rfl
      | iff _ _ => cases ef
      | whl _ => cases ef
      | undo _ _ => cases ef
      | tr _ _ _ => cases ef
      | wth _ _ _ _ _ _ => cases ef
    · have ef : ¬ (fulP t).isEmpty = true := fun z => by
        have := List.isEmpty_iff.mp z
        rw [this] at hql
        rw [hql] at e
        exact absurd e (by decide)
      rw [if_neg ef, List.append_nil]
      exact hL2
    rintro H3 ⟨s3, tk3, hPL3, hL3⟩
    generalize hp2 : (pre ++ if (fulP t).isEmpty = true then [ind ++ plS t] else []) = pre2 at hL3
    have p2l : pre2.length ≤ 5001 := by
      rw [← hp2, List.length_append]
      split
      · show _ + 1 ≤ 5001
        omega
      · show _ + 0 ≤ 5001
        omega
    have hPLL3 : PL ≠ L := fun z => by
      rw [z, hL1] at nPL
      cases nPL
    dsimp only
    have tk13 : TK H1 H3 := (TK.of s2).trans tk3
    refine st_seq ⟨_, rfl, xi, t, rfl, hxi.mono tk13, tok, fun H4 HL s4 nHL hHL => ?_⟩
    have hL4 := s4 _ _ hL3
    have hPL4 := s4 _ _ hPL3
    have hHLL : HL ≠ L := fun z => by
      rw [z, hL3] at nHL
      cases nHL
    dsimp only [gName]
    have flb : ∀ k, (fulL (lnS (n - 1)) ind (loP t) false ((fulP t).take k)).length ≤ 5004 := fun k => by
      have h1 := fulL_len (n := n - 1) (ind := ind) (lo := loP t) ((fulP t).take k) false fun q hq => (ful_ok tok q (List.mem_of_mem_take hq)).1
      have h2 := wsum_take (fulP t) k
      rw [List.length_take] at h1
      omega
    refine st_seq ⟨_, rfl, PL, _, rfl, .inl (SqL.of hPL4), _, rfl, by omega, by omega, ?_⟩
    refine for_range (lo := 0) (n := ((qs.length : Nat) : Int).toNat) (fun k σ H' => ∃ (L' : Addr) (v6 v7 : Option V), σ = [some (.ref pv), some (.str ind), some (.ref L'), some xi, some (.ref PL), some (.ref HL), v6, v7] ∧ Same H H' ∧ H L' = none ∧ PL ≠ L' ∧ HL ≠ L' ∧ TK H1 H' ∧ TK H2 H' ∧ H' PL = some (.lst qs) ∧ H' HL = some (.lst ((headsOf t).map V.str)) ∧ H' L' = some (.lst ((pre2 ++ fulL (lnS (n - 1)) ind (loP t) false ((fulP t).take k)).map V.str)))
      ⟨L, v6, v7, rfl, s3.trans s4, nL, hPLL3, hHLL, tk13.trans (TK.of s4), tk3.trans (TK.of s4), hPL4, hHL, by rw [hL4, List.take_zero]; show _ = some (HO.lst ((pre2 ++ []).map V.str)); rw [List.append_nil]⟩ ?_ ?_
    · rintro k σ H5 hk ⟨L', v6, v7, rfl, s5, nL', hPLL', hHLL', tk15, tk25, hPL5, hHL5, hL5⟩
      have hkf : k < (fulP t).length := by omega
      obtain ⟨⟨h, p⟩, hq⟩ : ∃ q, (fulP t)[k]? = some q := ⟨_, List.getElem?_eq_getElem hkf⟩
      have hqm := List.mem_of_getElem? hq
      obtain ⟨pok, pht, psz, hlen⟩ := ful_ok tok _ hqm
      have hlen : h.length ≤ 930 := hlen
      have psz : p.sz + 1 ≤ t.sz := psz
      obtain ⟨m, rfl⟩ : ∃ m, n = m + 1 := ⟨n - 1, by omega⟩
      have hh := heads_at hq
      have hk0 : k < qs.length := by omega
      obtain ⟨u, hu⟩ : ∃ u, qs[k]? = some u := ⟨_, List.getElem?_eq_getElem hk0⟩
      obtain ⟨d, hd, hud⟩ := (hqs.mono tk25).get hu
      rw [prB_is] at hd
      obtain ⟨p', hp', rfl⟩ := get_map hd
      obtain ⟨q', hq', rfl⟩ := get_map hp'
      rw [hq] at hq'
      cases hq'
      have flk := flb k
      have flk1 := flb (k + 1)
      rw [ful_take hq] at flk1 ⊢
      dsimp only [gName]
      -- what is left out
      refine st_seq (st_setH (PV := fun v H' => Same H5 H' ∧ v = .bl (decide (V.str h = V.str (Str.ofString "finally")) && hasH t || decide (V.str h = V.str (Str.ofString "else")))) (fun Q q => ?_) ?_)
      · have cmp3 : ∀ {H' : Hp} (c : Bool), Same H5 H' → (c || decide (V.str h = V.str (Str.ofString "else"))) = (decide (V.str h = V.str (Str.ofString "finally")) && hasH t || decide (V.str h = V.str (Str.ofString "else"))) → c = false → Q (.bl (decide (V.str h = V.str (Str.ofString "else")))) H' := fun c s' e ec => by
          subst ec
          rw [Bool.false_or] at e
          rw [e]
          exact q _ _ ⟨s', rfl⟩
        refine ⟨_, rfl, _, rfl, HL, _, _, _, rfl, rfl, SqL.of hHL5, at_of (j := k) (by omega) hh, rfl, _, rfl, ite2 (fun e => ?_) (fun e => ?_)⟩
        · obtain ⟨x1, hs, y1, rfl⟩ := fin_try hqm e
          obtain ⟨r, _, rfl, hr, _, _, rfl, rfl, u1, _, rfl, h1, u2, _, rfl, ⟨ph, xs', rfl, hph, hxs'⟩, u3, _, rfl, h3, rfl⟩ := hxi.mono tk15
          refine ⟨_, rfl, r, _, _, _, rfl, rfl, .inl (.inl hr), atI_nat (j := 2) rfl, Nat.zero_le _, fun z nz => ?_⟩
          have sz := same_upd (o := .tup []) nz
          have hdv : Dv (upd H5 z (.tup [])) (.ref ph) (.tup (dH hs)) := Dv.mono (TK.of sz) ⟨ph, xs', rfl, hph, hxs'⟩
          have lay := lay_h tok.2.2.1
          have hht2 : hs.ht ≤ 8 := by
            have h1 : max x1.ht (max hs.ht y1.ht) + 1 ≤ m + 1 := tht
            omega
          refine ⟨pd (.tup (dH hs)), .tuple [], Dv.dp hdv, .tup (.inl (.inl upd_same)) .nil, shaped_of lay.1 (Nat.le_trans lay.2 (by omega)), by decide +kernel, _, rfl, ?_⟩
          rw [show PyData.eqv (pd (.tup (dH hs))) (.tuple []) = hs.L.isEmpty by
            show PyData.eqv (.tuple (pdl (dH hs))) (.tuple []) = _
            rw [dH_of, eqv_nil, List.isEmpty_map]]
          refine ite2 (fun e2 => ?_) (fun e2 => ?_)
          · refine q _ _ ⟨sz, ?_⟩
            rw [e]
            show V.bl true = V.bl ((!hs.L.isEmpty) || _)
            rw [e2]
            rfl
          · refine ⟨_, rfl, _, rfl, HL, _, _, _, rfl, rfl, SqL.of (sz _ _ hHL5), at_of (j := k) (by omega) hh, rfl, cmp3 false sz ?_ rfl⟩
            rw [e]
            show _ = ((!hs.L.isEmpty) || _)
            rw [Bool.eq_false_iff.mpr e2]
        · refine ⟨_, rfl, iteF ⟨_, rfl, _, rfl, HL, _, _, _, rfl, rfl, SqL.of hHL5, at_of (j := k) (by omega) hh, rfl, cmp3 false (Same.refl _) ?_ rfl⟩⟩
          rw [Bool.eq_false_iff.mpr e, Bool.false_and]
      rintro _ H6 ⟨s6, rfl⟩
      have hPL6 := s6 _ _ hPL5
      have hHL6 := s6 _ _ hHL5
      have hL6 := s6 _ _ hL5
      have tk16 := tk15.trans (TK.of s6)
      have tk26 := tk25.trans (TK.of s6)
      have s56 := s5.trans s6
      have hud6 := hud.mono (TK.of s6)
      dsimp only [List.set]
      refine st_seq (st_setH (PV := fun v H' => Same H6 H' ∧ v = .bl (loP t (h, p))) (fun Q q => ?_) ?_)
      · refine ⟨_, rfl, _, rfl, ite2 (fun e => ?_) (fun e => ?_)⟩
        · refine ⟨_, rfl, _, rfl, PL, _, _, _, rfl, rfl, SqL.of hPL6, at_of (j := k) (by omega) hu, Nat.zero_le _, fun z nz => ?_⟩
          have sz := same_upd (o := .tup []) nz
          have lay := lay_b pok
          refine ⟨pd (.tup (dB p)), .tuple [], Dv.dp (hud6.mono (TK.of sz)), .tup (.inl (.inl upd_same)) .nil, shaped_of lay.1 (Nat.le_trans lay.2 (by have : p.ht + 1 ≤ t.ht := pht; omega)), by decide +kernel, ?_⟩
          refine q _ _ ⟨sz, ?_⟩
          unfold loP
          rw [e, Bool.true_and]
          show V.bl (PyData.eqv (.tuple (pdl (dB p))) (.tuple [])) = _
          rw [dB_of, eqv_nil, List.isEmpty_map]
        · refine q _ _ ⟨Same.refl _, ?_⟩
          unfold loP
          rw [Bool.eq_false_iff.mpr e, Bool.false_and]
      rintro _ H7 ⟨s7, rfl⟩
      have hPL7 := s7 _ _ hPL6
      have hHL7 := s7 _ _ hHL6
      have hL7 := s7 _ _ hL6
      have tk17 := tk16.trans (TK.of s7)
      have tk27 := tk26.trans (TK.of s7)
      have s57 := s56.trans s7
      have hud7 := hud6.mono (TK.of s7)
      dsimp only [List.set]
      refine st_ite (b := !loP t (h, p)) (fun Q q => ⟨_, rfl, _, rfl, q⟩) (fun e => ?_) (fun e => ?_)
      · have e' : ¬ loP t (h, p) = true := by
          rw [Bool.not_eq_true']  at e
          rw [e]
          exact Bool.false_ne_true
        rw [if_neg e'] at flk1 ⊢
        generalize fulL (lnS (m + 1 - 1)) ind (loP t) false ((fulP t).take k) = fl at hL7 flk flk1 ⊢
        have ek : decide ((0 : Int) + (k : Int) > 0) = decide (0 < k) := by
          by_cases z : 0 < k
          · rw [decide_eq_true z, decide_eq_true (by omega)]
          · rw [decide_eq_false z, decide_eq_false (by omega)]
        rw [List.length_append] at flk1
        have bl : (if decide (0 < k) = true then Str.ofString "} " else Str.ofString "").length ≤ 2 := by
          split
          · rw [br2_len]
            omega
          · rw [e0_len]
            omega
        refine st_seq ⟨_, rfl, .inl ⟨rfl, _, SqL.of hL7⟩, _, rfl, ite_strV (b := decide ((0 : Int) + (k : Int) > 0)) (fun Q q => ⟨_, rfl, _, _, rfl, rfl, _, rfl, q⟩) (fun Q q => q) (fun Q q => q) ?_⟩
        rw [ek]
        unfold partL at flk1 ⊢
        rw [List.length_cons] at flk1
        generalize (if decide (0 < k) = true then Str.ofString "} " else Str.ofString "") = bs at bl ⊢
        have flk2 : fl.length + ((p.L.map (lnS m (ind ++ Str.ofString "  "))).flatten.length + 1) ≤ 5004 := flk1
        refine ⟨_, _, rfl, rfl, bigLe (by omega), _, rfl, _, rfl, HL, _, _, _, rfl, rfl, SqL.of hHL7, at_of (j := k) (by omega) hh, _, _, rfl, rfl, bigLe (by rw [Str.length_append]; show _ + h.length ≤ _; omega), _, _, rfl, rfl, bigLe (by rw [Str.length_append, Str.length_append, bo2_len]; show _ + h.length + _ ≤ _; omega), L', _, _, rfl, rfl, hL7, bigLine (by rw [List.length_map, List.length_append]; omega), ?_⟩
        have s8 := same_mut (p := L') (o := .lst ((pre2 ++ fl).map V.str ++ [.str (ind ++ bs ++ h ++ Str.ofString " {")])) s57 nL'
        have hL8 : (upd H7 L' (.lst ((pre2 ++ fl).map V.str ++ [.str (ind ++ bs ++ h ++ Str.ofString " {")]))) L' = some (.lst ((pre2 ++ fl ++ [ind ++ bs ++ h ++ Str.ofString " {"]).map V.str)) := by
          rw [upd_same, List.map_append (l₁ := pre2 ++ fl)]
          rfl
        have tk78 : TK H7 (upd H7 L' (.lst ((pre2 ++ fl).map V.str ++ [.str (ind ++ bs ++ h ++ Str.ofString " {")]))) := TK.upd hL7 (fun _ z => by cases z)
        have hPL8 : (upd H7 L' (.lst ((pre2 ++ fl).map V.str ++ [.str (ind ++ bs ++ h ++ Str.ofString " {")]))) PL = some (.lst qs) := by rw [upd_ne hPLL']; exact hPL7
        have hHL8 : (upd H7 L' (.lst ((pre2 ++ fl).map V.str ++ [.str (ind ++ bs ++ h ++ Str.ofString " {")]))) HL = some (.lst ((headsOf t).map V.str)) := by rw [upd_ne hHLL']; exact hHL7
        dsimp only
        show tAsg _ _ _ _ (upd H7 L' (.lst ((pre2 ++ fl).map V.str ++ [.str (ind ++ bs ++ h ++ Str.ofString " {")])))
        generalize upd H7 L' (.lst ((pre2 ++ fl).map V.str ++ [.str (ind ++ bs ++ h ++ Str.ofString " {")])) = H8 at s8 hL8 tk78 hPL8 hHL8
        have pht' : p.ht + 1 ≤ t.ht := pht
        refine ⟨_, rfl, _, rfl, _, rfl, PL, _, _, _, rfl, rfl, SqL.of hPL8, at_of (j := k) (by omega) hu, _, rfl, _, _, rfl, rfl, bigLe (by rw [in2_len]; omega), u, _, p, rfl, hud7.mono tk78, pok, by omega, by omega, by rw [Str.length_append, in2_len]; omega, by omega, fun H9 M s9 nM hM => ?_⟩
        refine ⟨L', M, _, _, rfl, rfl, s9 _ _ hL8, hM, bigLe (by rw [List.length_map, List.length_map, List.length_append, List.length_append, List.length_singleton]; show _ + (p.L.map (lnS m (ind ++ Str.ofString "  "))).flatten.length ≤ _; omega), fun L2 nL2 => ?_⟩
        have s89 := s8.trans s9
        have sL2 := same_upd (o := .lst ((pre2 ++ fl ++ [ind ++ bs ++ h ++ Str.ofString " {"]).map V.str ++ ((p.L.map (lnS m (ind ++ Str.ofString "  "))).flatten).map V.str)) nL2
        have tkk := (tk78.trans (TK.of s9)).trans (TK.of sL2)
        refine ⟨L2, _, _, rfl, s89.trans sL2, s89.free nL2, ne_of_none (s9 _ _ hPL8) nL2, ne_of_none (s9 _ _ hHL8) nL2, tk17.trans tkk, tk27.trans tkk, sL2 _ _ (s9 _ _ hPL8), sL2 _ _ (s9 _ _ hHL8), ?_⟩
        rw [upd_same, ← List.map_append]
        congr 3
        rw [List.append_assoc, List.append_assoc]
        rfl
      · have e' : loP t (h, p) = true := by
          cases z : loP t (h, p) with
          | true => rfl
          | false => rw [z] at e; cases e
        refine ⟨L', _, _, rfl, s57, nL', hPLL', hHLL', tk17, tk27, hPL7, hHL7, ?_⟩
        rw [if_pos e', List.append_nil]
        exact hL7
    rintro σ H5 ⟨L', v6, v7, rfl, s5, nL', hPLL', hHLL', tk15, tk25, hPL5, hHL5, hL5⟩
    have etake : (fulP t).take ((qs.length : Nat) : Int).toNat = fulP t := List.take_of_length_le (by omega)
    have flk := flb ((qs.length : Nat) : Int).toNat
    rw [etake] at hL5 flk
    have eln := ln_is n ind t (fun z => by
      intro hn
      obtain ⟨q, r, hqr⟩ := List.exists_cons_of_ne_nil z
      have := (ful_ok tok q (by rw [hqr]; exact List.mem_cons_self)).2.1
      omega)
    dsimp only
    refine if_drop (b := decide (((qs.length : Nat) : Int) > 0)) (fun H6 => Same H H6 ∧ H6 L' = some (.lst ((pre ++ lnS n ind t).map V.str))) (fun Q q => ⟨_, rfl, PL, _, rfl, .inl (SqL.of hPL5), _, _, rfl, rfl, _, rfl, q⟩) (fun e Q' q' => ?_) (fun e => ⟨s5, ?_⟩) (fun H6 ⟨s6, hL6⟩ => ⟨L', _, _, _, _, _, rfl, s6, nL', hL6⟩)
    · have e0 := of_decide_eq_true e
      have ef : ¬ (fulP t).isEmpty = true := fun z => by
        have := List.isEmpty_iff.mp z
        rw [this] at hql
        rw [hql] at e0
        exact absurd e0 (by decide)
      rw [if_neg ef, List.append_nil] at hp2
      subst hp2
      refine ⟨_, rfl, .inl ⟨rfl, _, SqL.of hL5⟩, _, rfl, _, _, rfl, rfl, bigLe (by rw [br1_len]; omega), L', _, _, rfl, rfl, hL5, bigLine (by rw [List.length_map, List.length_append]; omega), ?_⟩
      refine q' _ _ ⟨same_mut s5 nL', ?_⟩
      rw [upd_same, eln, if_neg ef, ← List.append_assoc, List.map_append (l₁ := pre ++ _)]
      rfl
    · have e0 : (fulP t) = [] := by
        have := of_decide_eq_false e
        exact List.length_eq_zero_iff.mp (by omega)
      rw [e0] at hp2 hL5 eln
      rw [hL5, eln, ← hp2]
      show some (HO.lst (((pre ++ [ind ++ plS t]) ++ []).map V.str)) = some (HO.lst ((pre ++ [ind ++ plS t]).map V.str))
      rw [List.append_nil]
  · rintro σ H' ⟨L, v3, v4, v5, v6, v7, rfl, s', nL, hL⟩
    rw [hxl, List.take_length] at hL
    exact ⟨_, rfl, q H' L s' nL hL⟩
theorem ok_llines (T : Txt K mg a) : ∀ n : Nat, FnOk P w K mg base CX0 (4 + n) a.f__law_lines a.f__law_lines_d ["_law_block_here", "_law_indent"] (spLL n)
  | 0 => ok__law_lines1 T 0 3 (Nat.le_refl _) ⟨fun _ _ _ _ h => h.elim, fun _ _ _ _ _ _ _ _ _ _ _ _ _ h => h.elim⟩
  | n + 1 => ok__law_lines1 T (n + 1) (4 + n) (by omega) (ok_llines T n)
theorem ok__law_lines (T : Txt K mg a) : FnOk P w K mg base CX0 7 a.f__law_lines a.f__law_lines_d ["_law_block_here", "_law_indent"] (spLL 3) := ok_llines T 3
end
end K3
namespace K3
open PySem PySem.Spec PyProof.Rows L2 TL
theorem if_dropH {c : TT} {te : TE} {D : Ends} {σ : L2.St} {H : Hp} {b : Bool} (PU PV : Hp → Prop) (h : AnsH c σ H b PU) (h1 : b = true → ∀ H', PU H' → ValH te σ H' (fun _ H'' => PV H'')) (h2 : b = false → ∀ H', PU H' → PV H') (q : ∀ H', PV H' → D.nx σ H') : tIfS c (tDrop te) tNext D σ H := by
  cases b with
  | true => exact st_yesH h fun H' p => h1 rfl H' p _ fun _ H'' pv => q H'' pv
  | false => exact st_noH h fun H' p => q H' (h2 rfl H' p)
theorem yes_then {σ : L2.St} {H : Hp} {A B : Hp → Prop} (h : A H) : tYes σ H (fun c H' => if c = true then A H' else B H') := by
  show (if true = true then A H else B H)
  rw [if_pos rfl]
  exact h
theorem wd_is {k : Str} {ns : List Str} : wdL k ns = if (!(ns.map D.str).isEmpty) = true then [k ++ Txt.join (Str.ofString " ") ns] else [] := by
  cases ns with
  | nil => rfl
  | cons _ _ => rfl
theorem fnL_is (f : FnT) : fnL f = (Str.ofString "def " ++ f.nm ++ Str.ofString "(" ++ Txt.join (Str.ofString ", ") (f.ps.map paW) ++ Str.ofString ") {") :: ((f.bk.L.map (lnS 3 (Str.ofString "  "))).flatten ++ [Str.ofString "}"]) := by
  unfold fnL
  show (Str.ofString "" ++ fnH f ++ Str.ofString " {") :: ((f.bk.L.map (lnS 3 (Str.ofString "" ++ Str.ofString "  "))).flatten ++ [Str.ofString "" ++ Str.ofString "}"]) = _
  rw [empty_app, empty_app, empty_app]
  congr 1
  unfold fnH paT
  apply ext_tl
  rw [tl_append, tl_append, tl_append, tl_append, tl_append, tl_append, tl_append, tl_append, tl_append, show tl (Str.ofString ") {") = tl (Str.ofString ")") ++ tl (Str.ofString " {") from by decide +kernel]
  simp only [List.append_assoc]
theorem paW_is (p : Str × Bool) : (if p.2 = true then Str.ofString "&" else Str.ofString "") ++ p.1 = paW p := by
  unfold paW
  cases p.2 with
  | true => rfl
  | false => exact empty_app _
def spTextL : Sp := fun vs H Q _ => ∃ (v : V) (t : Tree), vs = [v] ∧ Dv H v (dT t) ∧ TreeOk t ∧ ∀ H', Same H H' → Q (.str (showX t)) H'
section
variable {P : Program} {w : World} {K : PySem.W.Frag} {mg : Str → Option Value} {base : Heap} {a : Ads}
theorem sc__law_text : FnScope ["_law_tree_here", "_law_lines_here", "_law_name", "_law_params", "_law_block_here", "_law_words", "_law_keep", "_law_param", "_law_line_here"] ["_law_tree_here"] (defScope s__law_text) := ⟨rfl, rfl, rfl, by decide +kernel, rfl, by decide +kernel, by decide +kernel⟩
theorem ok__law_text (T : Txt K mg a) : FnOk P w K mg base CX0 8 a.f__law_text a.f__law_text_d ["_law_tree_here"] spTextL := by
  refine T.F__law_text.ok sc__law_text (fun vs H Q E h => ?_) (fun cdv A outer s H vs Q E hr h => ?_)
  · obtain ⟨v, t, rfl, _⟩ := h
    rfl
  obtain ⟨v, t, rfl, hv, ok, q⟩ := h
  refine ⟨_, (pss_cons (ps_set (i := 1) sc__law_text.nd rfl (Or.inl rfl) (pe_lst pa_nil))
    (pss_cons (ps_if (pt_cmpR (op_neD hr.units) (pe_ix ix_tup (pv 0) pe_int (fun _ _ => rfl)) (pe_tup pa_nil) (nomark _))
      (pss_one (ps_expr (pe_bm PySem.F.plainAttrs_list PySem.F.slot_list_append PySem.F.type_list_append mt_append (pv 1) (pa_cons (pe_op op_add_str pe_str (pe_join pe_str (pe_ix ix_tup (pv 0) pe_int (fun _ _ => rfl)))) pa_nil))))
      pss_nil)
    (pss_cons (ps_if (pt_cmpR (op_neD hr.units) (pe_ix ix_tup (pv 0) pe_int (fun _ _ => rfl)) (pe_tup pa_nil) (nomark _))
      (pss_one (ps_expr (pe_bm PySem.F.plainAttrs_list PySem.F.slot_list_append PySem.F.type_list_append mt_append (pv 1) (pa_cons (pe_op op_add_str pe_str (pe_join pe_str (pe_ix ix_tup (pv 0) pe_int (fun _ _ => rfl)))) pa_nil))))
      pss_nil)
    (pss_cons (ps_set (i := 1) sc__law_text.nd rfl (Or.inl rfl) (pe_op op_cat (pv 1) (pe_lc (own := [("_law_keep", 6)]) (g := gName 6) (tt := tYes) (by rfl) sc__law_text.nd (pi_tup (pe_ix ix_tup (pv 0) pe_int (fun _ _ => rfl))) (blkOk_by (own := [("_law_keep", 6)]) (N := ["_law_tree_here", "_law_lines_here", "_law_name", "_law_params", "_law_block_here", "_law_words", "_law_keep", "_law_param", "_law_line_here"]) (sc := defScope s__law_text) (by decide +kernel)) (fun _ _ _ _ _ => pg_name (i := 6) sc__law_text.nd rfl (Or.inl rfl)) (fun _ _ _ _ _ => pts_nil) (fun _ _ _ _ _ => (pe_op op_add_str pe_str (pe_call (ok__law_expression_text T) (hr.mono (by decide)) (by rfl) T.g__law_expression_text T.F__law_expression_text.kp T.b__law_expression_text .nil pass0 (pa_cons (pv 6) pa_nil)))))))
    (pss_cons (ps_for PassesOwn.never rfl (pi_tup (pe_ix ix_tup (pv 0) pe_int (fun _ _ => rfl))) (pg_tup (by rfl) (pgs_cons (pg_name (i := 2) sc__law_text.nd rfl (Or.inl rfl)) (pgs_cons (pg_name (i := 3) sc__law_text.nd rfl (Or.inl rfl)) (pgs_cons (pg_name (i := 4) sc__law_text.nd rfl (Or.inl rfl)) pgs_nil))))
      (pss_cons (ps_setLc (i := 5) (own := [("_law_param", 7)]) (g := gName 7) (tt := tYes) (by rfl) sc__law_text.nd rfl rfl (sw_true rfl rfl rfl (by decide +kernel)) (pi_tup (pv 3)) (blkOk_by (own := [("_law_param", 7)]) (N := ["_law_tree_here", "_law_lines_here", "_law_name", "_law_params", "_law_block_here", "_law_words", "_law_keep", "_law_param", "_law_line_here"]) (sc := defScope s__law_text) (by decide +kernel)) (fun _ _ _ _ _ => pg_name (i := 7) sc__law_text.nd rfl (Or.inl rfl)) (fun _ _ _ _ _ => pts_nil) (fun _ _ _ _ _ => (pe_op op_add_str (pe_ifExp (pt_val (pe_ix (show IxR _ (rIxT K) from ix_tup) (pv 7) pe_int (fun _ _ => rfl))) pe_str pe_str) (pe_ix (show IxR _ (rIxT K) from ix_tup) (pv 7) pe_int (fun _ _ => rfl)))))
      (pss_cons (ps_expr (pe_bm PySem.F.plainAttrs_list PySem.F.slot_list_append PySem.F.type_list_append mt_append (pv 1) (pa_cons (pe_op op_add_str (pe_op op_add_str (pe_op op_add_str (pe_op op_add_str pe_str (pv 2)) pe_str) (pe_join pe_str (pv 5))) pe_str) pa_nil)))
      (pss_one (ps_set (i := 1) sc__law_text.nd rfl (Or.inl rfl) (pe_op op_cat (pe_op op_cat (pv 1) (pe_call (ok__law_lines T) (hr.mono (by decide)) (by rfl) T.g__law_lines T.F__law_lines.kp T.b__law_lines .nil pass0 (pa_cons (pv 4) (pa_cons pe_str pa_nil)))) (pe_lst (pa_cons pe_str pa_nil))))))))
    (pss_one (ps_ret (pe_join pe_str (pe_lc (own := [("_law_line_here", 8)]) (g := gName 8) (tt := tYes) (by rfl) sc__law_text.nd (pi_list (pv 1)) (blkOk_by (own := [("_law_line_here", 8)]) (N := ["_law_tree_here", "_law_lines_here", "_law_name", "_law_params", "_law_block_here", "_law_words", "_law_keep", "_law_param", "_law_line_here"]) (sc := defScope s__law_text) (by decide +kernel)) (fun _ _ _ _ _ => pg_name (i := 8) sc__law_text.nd rfl (Or.inl rfl)) (fun _ _ _ _ _ => pts_nil) (fun _ _ _ _ _ => (pe_op op_add_str (pv 8) pe_str))))))))))), ?_⟩
  obtain ⟨r, _, rfl, hr, ug, _, rfl, hg, uk, _, rfl, hk, up, _, rfl, ⟨pk, xk, rfl, hpk, hxk⟩, uf, _, rfl, ⟨pf, xf, rfl, hpf, hxf⟩, rfl⟩ := hv
  obtain ⟨pg, rfl, hpg⟩ := Dv.strs hg
  obtain ⟨pn, rfl, hpn⟩ := Dv.strs hk
  have lk := hxk.len
  rw [List.length_map] at lk
  have lf := hxf.len
  rw [List.length_map] at lf
  have g1 := ns1_sum ok.gs
  have g2 := ns1_len ok.gs
  have k1 := ns1_sum ok.ks
  have k2 := ns1_len ok.ks
  have htl := treeL_len ok
  have kl := ok.kl
  have fl := ok.fl
  have fz := ok.sz
  have tf := fns_len ok.fs
  have w1 := wdL_len (Str.ofString "globals ") t.gs
  have w2 := wdL_len (Str.ofString "kinds ") t.ks
  refine ⟨Nat.zero_le _, fun L nL => ?_⟩
  have s1 := same_upd (o := .lst []) nL
  have hL1 : (upd H L (.lst [])) L = some (.lst []) := upd_same
  dsimp only [gName]
  generalize upd H L (.lst []) = H1 at s1 hL1
  refine st_seq (if_dropH (b := !(t.gs.map D.str).isEmpty) (fun H' => Same H1 H') (fun H3 => Same H H3 ∧ H3 L = some (.lst ((wdL (Str.ofString "globals ") t.gs).map V.str))) (fun Q q => ⟨_, rfl, r, _, _, _, rfl, rfl, .inl (.inl (s1 _ _ hr)), atI_nat (j := 0) rfl, Nat.zero_le _, fun z nz => ?_⟩) (fun e H2 s2 Q' q' => ?_) (fun e H2 s2 => ⟨s1.trans s2, by rw [wd_is, if_neg (by rw [e]; exact Bool.false_ne_true)]; exact s2 _ _ hL1⟩) ?_)
  · have sz := same_upd (o := .tup []) nz
    refine ⟨pd (dNs t.gs), .tuple [], Dv.dp (Dv.of_strs (sz _ _ (s1 _ _ hpg))), .tup (.inl (.inl upd_same)) .nil, shaped_of (lay_ns ok.gs.nm).1 (Nat.le_trans (lay_ns ok.gs.nm).2 (by decide)), by decide +kernel, _, rfl, ?_⟩
    rw [show PyData.eqv (pd (dNs t.gs)) (.tuple []) = (t.gs.map D.str).isEmpty from eqv_nil _]
    exact q _ sz
  · have s12 := s1.trans s2
    refine ⟨_, rfl, .inl ⟨rfl, _, SqL.of (s2 _ _ hL1)⟩, ⟨_, rfl⟩, _, rfl, r, _, _, _, rfl, rfl, .inl (.inl (s12 _ _ hr)), atI_nat (j := 0) rfl, Str.ofString " ", pg, t.gs, rfl, rfl, .inr (.inl (.inl (s12 _ _ hpg))), (by rw [s1_len]; omega), _, _, rfl, rfl, bigLe (by rw [glo_len]; omega), L, _, _, rfl, rfl, s2 _ _ hL1, (by show 0 < sizeLine; decide), ?_⟩
    exact q' _ _ ⟨same_mut s12 nL, by rw [wd_is, if_pos e, upd_same]; rfl⟩
  rintro H2 ⟨s2, hL2⟩
  dsimp only
  refine st_seq (if_dropH (b := !(t.ks.map D.str).isEmpty) (fun H' => Same H2 H') (fun H3 => Same H H3 ∧ H3 L = some (.lst ((wdL (Str.ofString "globals ") t.gs ++ wdL (Str.ofString "kinds ") t.ks).map V.str))) (fun Q q => ⟨_, rfl, r, _, _, _, rfl, rfl, .inl (.inl (s2 _ _ hr)), atI_nat (j := 1) rfl, Nat.zero_le _, fun z nz => ?_⟩) (fun e H3 s3 Q' q' => ?_) (fun e H3 s3 => ⟨s2.trans s3, by rw [wd_is (k := Str.ofString "kinds "), if_neg (by rw [e]; exact Bool.false_ne_true), List.append_nil]; exact s3 _ _ hL2⟩) ?_)
  · have sz := same_upd (o := .tup []) nz
    refine ⟨pd (dNs t.ks), .tuple [], Dv.dp (Dv.of_strs (sz _ _ (s2 _ _ hpn))), .tup (.inl (.inl upd_same)) .nil, shaped_of (lay_ns ok.ks.nm).1 (Nat.le_trans (lay_ns ok.ks.nm).2 (by decide)), by decide +kernel, _, rfl, ?_⟩
    rw [show PyData.eqv (pd (dNs t.ks)) (.tuple []) = (t.ks.map D.str).isEmpty from eqv_nil _]
    exact q _ sz
  · have s23 := s2.trans s3
    refine ⟨_, rfl, .inl ⟨rfl, _, SqL.of (s3 _ _ hL2)⟩, ⟨_, rfl⟩, _, rfl, r, _, _, _, rfl, rfl, .inl (.inl (s23 _ _ hr)), atI_nat (j := 1) rfl, Str.ofString " ", pn, t.ks, rfl, rfl, .inr (.inl (.inl (s23 _ _ hpn))), (by rw [s1_len]; omega), _, _, rfl, rfl, bigLe (by rw [kin_len]; omega), L, _, _, rfl, rfl, s3 _ _ hL2, bigLine (by rw [List.length_map]; omega), ?_⟩
    refine q' _ _ ⟨same_mut s23 nL, ?_⟩
    rw [wd_is (k := Str.ofString "kinds "), if_pos e, upd_same, List.map_append]
    rfl
  rintro H3 ⟨s3, hL3⟩
  dsimp only
  generalize hb : wdL (Str.ofString "globals ") t.gs ++ wdL (Str.ofString "kinds ") t.ks = bs at hL3
  have bl : bs.length ≤ 2 := by
    rw [← hb, List.length_append]
    omega
  -- the keeps
  refine st_seq ⟨_, rfl, _, rfl, r, _, _, _, rfl, rfl, .inl (.inl (s3 _ _ hr)), atI_nat (j := 2) rfl, pk, rfl, ⟨_, .inl (.inl (s3 _ _ hpk))⟩, fun N nN => ?_⟩
  refine lc_tup (K := K) (a := pk) (xs := xk) (fun i H' => Same H3 H' ∧ H' N = some (.lst (((t.kp.take i).map fun e => Str.ofString "keep " ++ eT e).map V.str))) ⟨same_upd nN, upd_same⟩ (fun i H' _ hh => .inl (.inl (hh.1 _ _ (s3 _ _ hpk)))) ?_ ?_
  · rintro i x H4 hi ⟨s4, hN4⟩
    obtain ⟨d, hd, hx⟩ := (hxk.mono (TK.of (s3.trans s4))).get hi
    obtain ⟨e, hei, rfl⟩ := get_map hd
    have hek := ok.kp e (List.mem_of_getElem? hei)
    have hel := eT_len hek
    refine ⟨rfl, _, rfl, x, e, rfl, hx, hek, fun H5 s5 => ⟨_, _, rfl, rfl, bigLe (by rw [kee_len]; omega), _, s5 _ _ hN4, ?_, same_mut (s4.trans s5) nN, ?_⟩⟩
    · rw [List.length_map]
      exact len_take kl (by decide)
    · rw [upd_same, List.take_add_one, hei, List.map_append, List.map_append]
      rfl
  rintro H4 ⟨s4, hN4⟩
  rw [lk, List.take_length] at hN4
  refine ⟨L, N, _, _, rfl, rfl, s4 _ _ hL3, hN4, bigLe (by rw [List.length_map, List.length_map, List.length_map]; omega), fun L2 nL2 => ?_⟩
  have s34 := s3.trans s4
  have s5 := same_upd (o := .lst (bs.map V.str ++ (t.kp.map fun e => Str.ofString "keep " ++ eT e).map V.str)) nL2
  have hL5 : (upd H4 L2 (.lst (bs.map V.str ++ (t.kp.map fun e => Str.ofString "keep " ++ eT e).map V.str))) L2 = some (.lst ((bs ++ t.kp.map fun e => Str.ofString "keep " ++ eT e).map V.str)) := by
    rw [upd_same, List.map_append]
  have n5 := s34.free nL2
  dsimp only [gName]
  generalize upd H4 L2 (.lst (bs.map V.str ++ (t.kp.map fun e => Str.ofString "keep " ++ eT e).map V.str)) = H5 at s5 hL5
  have s35 := s34.trans s5
  generalize hb2 : (bs ++ t.kp.map fun e => Str.ofString "keep " ++ eT e) = b2 at hL5
  have b2l : b2.length ≤ 3 := by
    rw [← hb2, List.length_append, List.length_map]
    omega
  clear hL1 hL2 hL3 hN4
  -- the functions
  refine st_seq ⟨_, rfl, r, _, _, _, rfl, rfl, .inl (.inl (s35 _ _ hr)), atI_nat (j := 3) rfl, pf, rfl, ⟨_, .inl (.inl (s35 _ _ hpf))⟩, for_tup (K := K) (a := pf) (xs := xf) (fun i σ H' => ∃ (L' : Addr) (v2 v3 v4 v5 : Option V), σ = [some (.ref r), some (.ref L'), v2, v3, v4, v5, none, none, none] ∧ Same H H' ∧ H L' = none ∧ H' L' = some (.lst ((b2 ++ ((t.fs.take i).map fnL).flatten).map V.str)))
    ⟨L2, none, none, none, none, rfl, s35, n5, by rw [hL5]; simp⟩ (fun i σ H' _ ⟨_, _, _, _, _, _, s', _⟩ => .inl (.inl (s' _ _ hpf))) ?_ ?_⟩
  · rintro i x σ H6 hi ⟨L', v2, v3, v4, v5, rfl, s6, nL', hL6⟩
    obtain ⟨d, hd, hx⟩ := (hxf.mono (TK.of s6)).get hi
    obtain ⟨f, hfi, rfl⟩ := get_map hd
    have fok := ok.fs f (List.mem_of_getElem? hfi)
    obtain ⟨b, _, rfl, hb, _, _, rfl, rfl, u2, _, rfl, ⟨pp, xs, rfl, hpp, hxs⟩, u3, _, rfl, h3, rfl⟩ := hx
    have hxl := hxs.len
    rw [List.length_map] at hxl
    have l1 := fok.nm.len
    have l2 := pas_len fok.ps
    have l3 := pas_sum fok.ps
    have ppl := fok.ps.len
    have ht1 := fnL_len fok
    have ht2 := take_flat_le (f := fnL) (l := t.fs) (i := i)
    have hsz : f.bk.sz ≤ 33 := by
      have : f.bk.sz ≤ (t.fs.map fun f => f.bk.sz).sum := le_sum (List.mem_map.mpr ⟨f, List.mem_of_getElem? hfi, rfl⟩)
      omega
    have jl : (Txt.join (Str.ofString ", ") (f.ps.map paW)).length ≤ 46 := by
      unfold paT at l2
      rw [Str.length_append, Str.length_append, show (Str.ofString "(").length = 1 from by decide +kernel, show (Str.ofString ")").length = 1 from by decide +kernel] at l2
      omega
    refine ⟨b, _, rfl, .inl (.inl hb), rfl, .str f.nm, _, rfl, .ref pp, _, rfl, u3, [], rfl, rfl, ?_⟩
    dsimp only [gName]
    refine st_seq ⟨_, rfl, pp, rfl, ⟨_, .inl (.inl hpp)⟩, fun W nW => ?_⟩
    refine lc_tup (K := K) (a := pp) (xs := xs) (fun i H' => Same H6 H' ∧ H' W = some (.lst (((f.ps.take i).map paW).map V.str))) ⟨same_upd nW, upd_same⟩ (fun i H' _ hh => .inl (.inl (hh.1 _ _ hpp))) ?_ ?_
    · rintro i2 x2 H7 hi2 ⟨s7, hW7⟩
      obtain ⟨d, hd, hx⟩ := (hxs.mono (TK.of s7)).get hi2
      obtain ⟨pa, hpa, rfl⟩ := get_map hd
      obtain ⟨r2, _, rfl, hr2, _, _, rfl, rfl, _, _, rfl, rfl, rfl⟩ := hx
      have hpl := (fok.ps.nm pa (List.mem_of_getElem? hpa)).len
      refine ⟨rfl, yes_then ?_⟩
      refine ite_strV (b := pa.2) (fun Q q => ⟨_, rfl, r2, _, _, _, rfl, rfl, .inl (.inl hr2), atI_nat (j := 1) rfl, _, rfl, q⟩) (fun Q q => q) (fun Q q => q) ⟨_, rfl, r2, _, _, _, rfl, rfl, .inl (.inl hr2), atI_nat (j := 0) rfl, _, _, rfl, rfl, bigLe ?_, _, hW7, ?_, same_mut s7 nW, ?_⟩
      · split
        · rw [show (Str.ofString "&").length = 1 from by decide +kernel]
          omega
        · rw [e0_len]
          omega
      · rw [List.length_map]
        exact len_take ppl (by decide)
      · rw [upd_same, paW_is, List.take_add_one, hpa, List.map_append, List.map_append]
        rfl
    rintro H7 ⟨s7, hW7⟩
    rw [hxl, List.take_length] at hW7
    have hL7 := s7 _ _ hL6
    have s67 := s6.trans s7
    have p1 : (Str.ofString "(").length = 1 := by decide +kernel
    have p3 : (Str.ofString ") {").length = 3 := by decide +kernel
    dsimp only [gName]
    refine st_seq ⟨_, rfl, .inl ⟨rfl, _, SqL.of hL7⟩, _, rfl, _, _, rfl, rfl, bigLe (by rw [def_len]; omega), _, _, rfl, rfl, bigLe (by rw [Str.length_append, def_len, p1]; omega), ⟨_, rfl⟩, _, rfl, Str.ofString ", ", W, f.ps.map paW, rfl, rfl, .inl (SqL.of hW7), by rw [c2_len]; omega, _, _, rfl, rfl, bigLe (by rw [Str.length_append, Str.length_append, def_len, p1]; omega), _, _, rfl, rfl, bigLe (by rw [Str.length_append, Str.length_append, Str.length_append, def_len, p1, p3]; omega), L', _, _, rfl, rfl, hL7, bigLine (by rw [List.length_map, List.length_append]; omega), ?_⟩
    have s8 := same_mut (p := L') (o := .lst ((b2 ++ ((t.fs.take i).map fnL).flatten).map V.str ++ [.str (Str.ofString "def " ++ f.nm ++ Str.ofString "(" ++ Txt.join (Str.ofString ", ") (f.ps.map paW) ++ Str.ofString ") {")])) s67 nL'
    have hL8 : (upd H7 L' (.lst ((b2 ++ ((t.fs.take i).map fnL).flatten).map V.str ++ [.str (Str.ofString "def " ++ f.nm ++ Str.ofString "(" ++ Txt.join (Str.ofString ", ") (f.ps.map paW) ++ Str.ofString ") {")]))) L' = some (.lst ((b2 ++ ((t.fs.take i).map fnL).flatten ++ [Str.ofString "def " ++ f.nm ++ Str.ofString "(" ++ Txt.join (Str.ofString ", ") (f.ps.map paW) ++ Str.ofString ") {"]).map V.str)) := by
      rw [upd_same, List.map_append (l₁ := b2 ++ _)]
      rfl
    have tk78 : TK H7 (upd H7 L' (.lst ((b2 ++ ((t.fs.take i).map fnL).flatten).map V.str ++ [.str (Str.ofString "def " ++ f.nm ++ Str.ofString "(" ++ Txt.join (Str.ofString ", ") (f.ps.map paW) ++ Str.ofString ") {")]))) := TK.upd hL7 (fun _ z => by cases z)
    dsimp only
    show tAsg _ _ _ _ (upd H7 L' (.lst ((b2 ++ ((t.fs.take i).map fnL).flatten).map V.str ++ [.str (Str.ofString "def " ++ f.nm ++ Str.ofString "(" ++ Txt.join (Str.ofString ", ") (f.ps.map paW) ++ Str.ofString ") {")])))
    generalize upd H7 L' (.lst ((b2 ++ ((t.fs.take i).map fnL).flatten).map V.str ++ [.str (Str.ofString "def " ++ f.nm ++ Str.ofString "(" ++ Txt.join (Str.ofString ", ") (f.ps.map paW) ++ Str.ofString ") {")])) = H8 at s8 hL8 tk78
    rw [fnL_is, List.length_cons, List.length_append, List.length_singleton] at ht1
    refine ⟨_, rfl, _, rfl, u3, _, f.bk, rfl, h3.mono ((TK.of s7).trans tk78), fok.bk, fok.ht, by omega, by rw [in2_len]; decide, by decide, fun H9 M s9 nM hM => ?_⟩
    refine ⟨L', M, _, _, rfl, rfl, s9 _ _ hL8, hM, bigLe (by rw [List.length_map, List.length_map, List.length_append, List.length_append, List.length_singleton]; omega), fun L3 nL3 => ?_⟩
    have s89 := s8.trans s9
    have sL3 := same_upd (o := .lst ((b2 ++ ((t.fs.take i).map fnL).flatten ++ [Str.ofString "def " ++ f.nm ++ Str.ofString "(" ++ Txt.join (Str.ofString ", ") (f.ps.map paW) ++ Str.ofString ") {"]).map V.str ++ ((f.bk.L.map (lnS 3 (Str.ofString "  "))).flatten).map V.str)) nL3
    refine ⟨(by show 1 ≤ sizeLine; decide), fun M2 nM2 => ?_⟩
    have sM2 := same_upd (o := .lst [.str "}"]) nM2
    refine ⟨L3, M2, _, _, rfl, rfl, sM2 _ _ upd_same, upd_same, bigLe (by rw [List.length_append, List.length_map, List.length_map, List.length_append, List.length_append, List.length_singleton, List.length_singleton]; omega), fun L4 nL4 => ?_⟩
    have sAll := (s89.trans sL3).trans sM2
    refine ⟨L4, _, _, _, _, rfl, sAll.trans (same_upd nL4), sAll.free nL4, ?_⟩
    rw [upd_same, take_flat hfi, fnL_is]
    show some (HO.lst _) = _
    congr 2
    simp only [List.map_append, List.map_cons, List.map_nil, List.append_assoc, List.cons_append, List.nil_append]
  rintro σ H6 ⟨L', v2, v3, v4, v5, rfl, s6, nL', hL6⟩
  rw [lf, List.take_length] at hL6
  have etl : b2 ++ (t.fs.map fnL).flatten = treeL t := by
    rw [← hb2, ← hb]
    rfl
  rw [etl] at hL6
  refine ⟨⟨_, rfl⟩, _, rfl, L', rfl, ⟨_, SqL.of hL6⟩, fun M nM => ?_⟩
  have hLM : L' ≠ M := ne_of_none hL6 nM
  refine lc_list (K := K) (a := L') (xs := (treeL t).map V.str) (fun i H' => Same H6 H' ∧ H' L' = some (.lst ((treeL t).map V.str)) ∧ H' M = some (.lst ((((treeL t).take i).map nlT).map V.str)))
    ⟨same_upd nM, by rw [upd_ne hLM]; exact hL6, upd_same⟩ (fun i H' _ hh => SqL.of hh.2.1) ?_ ?_
  · rintro i x H' hi ⟨s7, hL7, hM7⟩
    obtain ⟨z, hz, rfl⟩ := get_map hi
    have hzl := treeL_wide ok z (List.mem_of_getElem? hz)
    refine ⟨rfl, _, rfl, _, _, rfl, rfl, bigLe (by rw [nl_len]; omega), _, hM7, ?_, same_mut s7 nM, by rw [upd_ne hLM]; exact hL7, ?_⟩
    · rw [List.length_map]
      exact len_take htl (by decide)
    · rw [upd_same, List.take_add_one, hz, List.map_append, List.map_append]
      rfl
  · rintro H' ⟨s7, hL7, hM7⟩
    rw [List.length_map, List.take_length] at hM7
    refine ⟨Str.ofString "", M, (treeL t).map nlT, rfl, rfl, .inl (SqL.of hM7), ?_, q H' (s6.trans s7)⟩
    have h1 := sum_le (nls_sum ok)
    rw [List.length_map] at h1 ⊢
    rw [e0_len]
    have h3 : (treeL t).length * 951 ≤ 174 * 951 := Nat.mul_le_mul_right _ htl
    omega
end
end K3
namespace K3
open PySem PySem.Spec PyProof.Rows L2 TL
/-! ### the same data at two places -/
def DL.n : DL → Nat
  | .nil => 0
  | .cons _ l => l.n + 1
mutual
/-- at most so deep, no tuple longer than a thousand -/
def D.fit (m : Nat) : D → Prop
  | .tup l => 0 < m ∧ l.n ≤ 1000 ∧ l.fit (m - 1)
  | _ => True
def DL.fit (m : Nat) : DL → Prop
  | .nil => True
  | .cons d l => d.fit m ∧ l.fit m
end
mutual
theorem D.fit_mono {m m' : Nat} (h : m ≤ m') : ∀ {d : D}, d.fit m → d.fit m'
  | .tup l, ⟨h0, h1, h2⟩ => ⟨by omega, h1, DL.fit_mono (by omega) h2⟩
  | .non, _ => trivial
  | .bl _, _ => trivial
  | .int _, _ => trivial
  | .str _, _ => trivial
theorem DL.fit_mono {m m' : Nat} (h : m ≤ m') : ∀ {l : DL}, l.fit m → l.fit m'
  | .nil, _ => trivial
  | .cons d l, ⟨h1, h2⟩ => ⟨D.fit_mono h h1, DL.fit_mono h h2⟩
end
theorem DL.n_of : ∀ l : List D, (DL.of l).n = l.length
  | [] => rfl
  | d :: l => by show (DL.of l).n + 1 = _; rw [DL.n_of l]; rfl
theorem DL.fit_of {m : Nat} : ∀ {l : List D}, (∀ d ∈ l, d.fit m) → (DL.of l).fit m
  | [], _ => trivial
  | d :: l, h => ⟨h d List.mem_cons_self, DL.fit_of fun x hx => h x (List.mem_cons_of_mem _ hx)⟩
theorem fit_tup {m : Nat} {l : List D} (h : ∀ d ∈ l, d.fit m) (hn : l.length ≤ 1000) : (D.tup (DL.of l)).fit (m + 1) := ⟨Nat.succ_pos _, by rw [DL.n_of]; exact hn, DL.fit_of h⟩
theorem Dvs.lenN {H : Hp} : ∀ {l : DL} {xs : List V}, Dvs H xs l → xs.length = l.n
  | .nil, _, h => by rw [show _ = ([] : List V) from h]; rfl
  | .cons _ _, _, ⟨x, r, e, _, h⟩ => by rw [e, List.length_cons, Dvs.lenN h]; rfl
theorem Dvs.both {H : Hp} {m : Nat} : ∀ {l : DL} {xs ys : List V} {j : Nat} {u v : V}, l.fit m → Dvs H xs l → Dvs H ys l → xs[j]? = some u → ys[j]? = some v → ∃ d : D, d.fit m ∧ Dv H u d ∧ Dv H v d
  | .nil, xs, ys, j, u, v, _, h, _, e, _ => by rw [show xs = [] from h] at e; simp at e
  | .cons d l, _, _, 0, u, v, hf, ⟨x, r, e, hx, _⟩, ⟨y, q, e', hy, _⟩, e1, e2 => by
    subst e e'
    exact ⟨d, hf.1, Option.some.inj e1 ▸ hx, Option.some.inj e2 ▸ hy⟩
  | .cons d l, _, _, j + 1, u, v, hf, ⟨x, r, e, _, h⟩, ⟨y, q, e', _, h'⟩, e1, e2 => by
    subst e e'
    exact Dvs.both (l := l) (j := j) hf.2 h h' e1 e2
/-! the trees are so -/
theorem fit_ns {ns : List Str} (h : ns.length ≤ 1000) : (dNs ns).fit 1 := fit_tup (m := 0) (fun d hd => by
  obtain ⟨v, _, rfl⟩ := List.mem_map.mp hd
  trivial) (by rw [List.length_map]; exact h)
theorem fit_ex {e : Ex} (h : e.2.length ≤ 1000) : (dE e).fit 3 := fit_tup (m := 2) (fun d hd => by
  simp only [List.mem_cons, List.not_mem_nil, or_false] at hd
  rcases hd with rfl | rfl
  · trivial
  · exact fit_tup (m := 1) (fun d hd => by
      obtain ⟨t, _, rfl⟩ := List.mem_map.mp hd
      exact fit_tup (m := 0) (fun d hd => by
        simp only [List.mem_cons, List.not_mem_nil, or_false] at hd
        rcases hd with rfl | rfl <;> trivial) (by show 2 ≤ 1000; decide)) (by rw [List.length_map]; exact h)) (by show 2 ≤ 1000; decide)
theorem fit_ar {x : Ar} (h : ArOk x) : (dA x).fit 4 := by
  cases x with
  | pla v => exact fit_tup (m := 3) (fun d hd => by
      simp only [List.mem_cons, List.not_mem_nil, or_false] at hd
      rcases hd with rfl | rfl <;> trivial) (by show 2 ≤ 1000; decide)
  | val e => exact fit_tup (m := 3) (fun d hd => by
      simp only [List.mem_cons, List.not_mem_nil, or_false] at hd
      rcases hd with rfl | rfl
      · trivial
      · exact fit_ex (Nat.le_trans (ExOk.len h) (by decide))) (by show 2 ≤ 1000; decide)
theorem fit_as {as : List Ar} (h : ArsOk as) : (D.tup (DL.of (as.map dA))).fit 5 := fit_tup (m := 4) (fun d hd => by
  obtain ⟨x, hx, rfl⟩ := List.mem_map.mp hd
  exact fit_ar (h.ok x hx)) (by rw [List.length_map]; exact Nat.le_trans h.len (by decide))
theorem fit_call {f : Str} {as : List Ar} (h : ArsOk as) : (dCall f as).fit 6 := fit_tup (m := 5) (fun d hd => by
  simp only [List.mem_cons, List.not_mem_nil, or_false] at hd
  rcases hd with rfl | rfl
  · trivial
  · exact fit_as h) (by show 2 ≤ 1000; decide)
theorem fit_pl {p : P0} (h : P0Ok p) : (dP p).fit 6 := by
  cases p with
  | set v e =>
    refine fit_tup (m := 5) (fun d hd => ?_) (by show 3 ≤ 1000; decide)
    simp only [List.mem_cons, List.not_mem_nil, or_false] at hd
    rcases hd with rfl | rfl | rfl
    · trivial
    · trivial
    · exact D.fit_mono (by decide) (fit_ex (Nat.le_trans h.2.len (by decide)))
  | inp v =>
    refine fit_tup (m := 5) (fun d hd => ?_) (by show 2 ≤ 1000; decide)
    simp only [List.mem_cons, List.not_mem_nil, or_false] at hd
    rcases hd with rfl | rfl <;> trivial
  | call t f as =>
    cases t with
    | none =>
      refine fit_tup (m := 5) (fun d hd => ?_) (by show 4 ≤ 1000; decide)
      simp only [List.mem_cons, List.not_mem_nil, or_false] at hd
      rcases hd with rfl | rfl | rfl | rfl
      · trivial
      · trivial
      · trivial
      · exact fit_as h.2.2
    | some t =>
      refine fit_tup (m := 5) (fun d hd => ?_) (by show 4 ≤ 1000; decide)
      simp only [List.mem_cons, List.not_mem_nil, or_false] at hd
      rcases hd with rfl | rfl | rfl | rfl
      · trivial
      · trivial
      · trivial
      · exact fit_as h.2.2
  | risk ks =>
    refine fit_tup (m := 5) (fun d hd => ?_) (by show 2 ≤ 1000; decide)
    simp only [List.mem_cons, List.not_mem_nil, or_false] at hd
    rcases hd with rfl | rfl
    · trivial
    · exact D.fit_mono (by decide) (fit_ns (Nat.le_trans h.2.len (by decide)))
  | rse k =>
    refine fit_tup (m := 5) (fun d hd => ?_) (by show 2 ≤ 1000; decide)
    simp only [List.mem_cons, List.not_mem_nil, or_false] at hd
    rcases hd with rfl | rfl <;> trivial
  | ret e =>
    refine fit_tup (m := 5) (fun d hd => ?_) (by show 2 ≤ 1000; decide)
    simp only [List.mem_cons, List.not_mem_nil, or_false] at hd
    rcases hd with rfl | rfl
    · trivial
    · exact D.fit_mono (by decide) (fit_ex (Nat.le_trans (ExOk.len h) (by decide)))
theorem TB.n_le : ∀ x : TB, (dB x).n ≤ x.sz
  | .nil => Nat.le_refl _
  | .cons s r => by
    have h1 := TB.n_le r
    have h2 := s.sz_pos
    show (dB r).n + 1 ≤ s.sz + r.sz
    omega
theorem TH.n_of : ∀ x : TH, (dH x).n = x.L.length
  | .nil => rfl
  | .cons ks x r => by show (dH r).n + 1 = _; rw [TH.n_of r]; rfl
mutual
theorem fit_s : ∀ {s : TS}, s.Ok → s.sz ≤ 1000 → (dS s).fit (6 + 5 * s.ht)
  | .pl p, h, _ => fit_pl h
  | .iff x y, ⟨h1, h2⟩, hz => by
    have hz' : x.sz + y.sz + 1 ≤ 1000 := hz
    have a1 := fit_b h1 (by omega)
    have a2 := fit_b h2 (by omega)
    refine D.fit_mono (m := 1 + (6 + 5 * max x.ht y.ht) + 1) (by show _ ≤ 6 + 5 * (max x.ht y.ht + 1); omega) (fit_tup (fun d hd => ?_) (by show 3 ≤ 1000; decide))
    simp only [List.mem_cons, List.not_mem_nil, or_false] at hd
    rcases hd with rfl | rfl | rfl
    · trivial
    · exact D.fit_mono (by omega) a1
    · exact D.fit_mono (by omega) a2
  | .whl x, h1, hz => by
    have hz' : x.sz + 1 ≤ 1000 := hz
    have a1 := fit_b h1 (by omega)
    refine D.fit_mono (m := 1 + (6 + 5 * x.ht) + 1) (by show _ ≤ 6 + 5 * (x.ht + 1); omega) (fit_tup (fun d hd => ?_) (by show 2 ≤ 1000; decide))
    simp only [List.mem_cons, List.not_mem_nil, or_false] at hd
    rcases hd with rfl | rfl
    · trivial
    · exact D.fit_mono (by omega) a1
  | .undo vs x, ⟨_, h0, h1⟩, hz => by
    have hz' : x.sz + 1 ≤ 1000 := hz
    have a1 := fit_b h1 (by omega)
    refine D.fit_mono (m := 1 + (6 + 5 * x.ht) + 1) (by show _ ≤ 6 + 5 * (x.ht + 1); omega) (fit_tup (fun d hd => ?_) (by show 3 ≤ 1000; decide))
    simp only [List.mem_cons, List.not_mem_nil, or_false] at hd
    rcases hd with rfl | rfl | rfl
    · trivial
    · exact D.fit_mono (by omega) (fit_ns (Nat.le_trans h0.len (by decide)))
    · exact D.fit_mono (by omega) a1
  | .tr x hs y, ⟨h1, hl, h2, h3⟩, hz => by
    have hz' : x.sz + hs.sz + y.sz + 1 ≤ 1000 := hz
    have a1 := fit_b h1 (by omega)
    have a2 := fit_h h2 (by omega)
    have a3 := fit_b h3 (by omega)
    refine D.fit_mono (m := 1 + (8 + 5 * max x.ht (max hs.ht y.ht)) + 1) (by show _ ≤ 6 + 5 * (max x.ht (max hs.ht y.ht) + 1); omega) (fit_tup (fun d hd => ?_) (by show 4 ≤ 1000; decide))
    simp only [List.mem_cons, List.not_mem_nil, or_false] at hd
    rcases hd with rfl | rfl | rfl | rfl
    · trivial
    · exact D.fit_mono (by omega) a1
    · refine ⟨by omega, by rw [TH.n_of]; omega, DL.fit_mono (by omega) a2⟩
    · exact D.fit_mono (by omega) a3
  | .wth f as g bs ks x, ⟨h1, h2, h3, h4, h5, h6⟩, hz => by
    have hz' : x.sz + 1 ≤ 1000 := hz
    have a1 := fit_b h6 (by omega)
    refine D.fit_mono (m := 1 + (6 + 5 * x.ht) + 1) (by show _ ≤ 6 + 5 * (x.ht + 1); omega) (fit_tup (fun d hd => ?_) (by show 5 ≤ 1000; decide))
    simp only [List.mem_cons, List.not_mem_nil, or_false] at hd
    rcases hd with rfl | rfl | rfl | rfl | rfl
    · trivial
    · exact D.fit_mono (by omega) (fit_call h2)
    · exact D.fit_mono (by omega) (fit_call h4)
    · exact D.fit_mono (by omega) (fit_ns (Nat.le_trans h5.len (by decide)))
    · exact D.fit_mono (by omega) a1
theorem fit_b : ∀ {x : TB}, x.Ok → x.sz ≤ 1000 → (D.tup (dB x)).fit (1 + (6 + 5 * x.ht))
  | .nil, _, _ => ⟨by omega, by show 0 ≤ 1000; decide, trivial⟩
  | .cons s r, ⟨h1, h2⟩, hz => by
    have hz' : s.sz + r.sz ≤ 1000 := hz
    have a1 := fit_s h1 (by omega)
    have a2 := (fit_b h2 (by omega)).2.2
    refine ⟨by omega, Nat.le_trans (TB.n_le (.cons s r)) hz, D.fit_mono ?_ a1, DL.fit_mono ?_ a2⟩
    · show _ ≤ 1 + (6 + 5 * max s.ht r.ht) - 1
      omega
    · show _ ≤ 1 + (6 + 5 * max s.ht r.ht) - 1
      omega
theorem fit_h : ∀ {x : TH}, x.Ok → x.sz ≤ 1000 → (dH x).fit (8 + 5 * x.ht)
  | .nil, _, _ => trivial
  | .cons ks x r, ⟨_, h0, h1, h2⟩, hz => by
    have hz' : x.sz + r.sz ≤ 1000 := hz
    have a1 := fit_b h1 (by omega)
    have a2 := fit_h h2 (by omega)
    refine ⟨D.fit_mono (m := 1 + (6 + 5 * x.ht) + 1) (by show _ ≤ 8 + 5 * max x.ht r.ht; omega) (fit_tup (fun d hd => ?_) (by show 2 ≤ 1000; decide)), DL.fit_mono (by show _ ≤ 8 + 5 * max x.ht r.ht; omega) a2⟩
    simp only [List.mem_cons, List.not_mem_nil, or_false] at hd
    rcases hd with rfl | rfl
    · exact D.fit_mono (by omega) (fit_ns (Nat.le_trans h0.len (by decide)))
    · exact a1
end
theorem fit_tree {t : Tree} (h : TreeOk t) : (dT t).fit 30 := by
  refine fit_tup (m := 29) (fun d hd => ?_) (by show 4 ≤ 1000; decide)
  simp only [List.mem_cons, List.not_mem_nil, or_false] at hd
  rcases hd with rfl | rfl | rfl | rfl
  · exact D.fit_mono (by decide) (fit_ns (Nat.le_trans h.gs.len (by decide)))
  · exact D.fit_mono (by decide) (fit_ns (Nat.le_trans h.ks.len (by decide)))
  · refine fit_tup (m := 28) (fun d hd => ?_) (by rw [List.length_map]; exact Nat.le_trans h.kl (by decide))
    obtain ⟨e, he, rfl⟩ := List.mem_map.mp hd
    exact D.fit_mono (by decide) (fit_ex (Nat.le_trans (h.kp e he).len (by decide)))
  · refine fit_tup (m := 28) (fun d hd => ?_) (by rw [List.length_map]; exact Nat.le_trans h.fl (by decide))
    obtain ⟨f, hf, rfl⟩ := List.mem_map.mp hd
    have fk := h.fs f hf
    have hsz : f.bk.sz ≤ 33 := Nat.le_trans (le_sum (List.mem_map.mpr ⟨f, hf, rfl⟩)) h.sz
    have := fk.ht
    refine fit_tup (m := 27) (fun d hd => ?_) (by show 3 ≤ 1000; decide)
    simp only [List.mem_cons, List.not_mem_nil, or_false] at hd
    rcases hd with rfl | rfl | rfl
    · trivial
    · refine fit_tup (m := 26) (fun d hd => ?_) (by rw [List.length_map]; exact Nat.le_trans fk.ps.len (by decide))
      obtain ⟨p, hp, rfl⟩ := List.mem_map.mp hd
      refine fit_tup (m := 25) (fun d hd => ?_) (by show 2 ≤ 1000; decide)
      simp only [List.mem_cons, List.not_mem_nil, or_false] at hd
      rcases hd with rfl | rfl <;> trivial
    · exact D.fit_mono (by omega) (fit_b fk.bk (by omega))
def spSame : Nat → Sp
  | 0 => fun _ _ _ _ => False
  | n + 1 => fun vs H Q _ => ∃ (x y : V) (d : D), vs = [x, y] ∧ d.fit n ∧ Dv H x d ∧ Dv H y d ∧ ∀ H', Same H H' → Q (.bl true) H'
section
variable {P : Program} {w : World} {K : PySem.W.Frag} {mg : Str → Option Value} {base : Heap} {a : Ads}
theorem sc__law_same : FnScope ["_law_actual", "_law_due", "_law_k"] ["_law_actual", "_law_due"] (defScope s__law_same) := ⟨rfl, rfl, rfl, by decide +kernel, rfl, by decide +kernel, by decide +kernel⟩
theorem ok__law_same1 (T : Txt K mg a) (n : Nat) (ih : FnOk P w K mg base CX0 n a.f__law_same a.f__law_same_d ["_law_actual", "_law_due"] (spSame n)) : FnOk P w K mg base CX0 (n + 1) a.f__law_same a.f__law_same_d ["_law_actual", "_law_due"] (spSame (n + 1)) := by
  refine T.F__law_same.ok sc__law_same (fun vs H Q E h => ?_) (fun cdv A outer s H vs Q E hr h => ?_)
  · obtain ⟨x, y, d, rfl, _⟩ := h
    rfl
  obtain ⟨x, y, d, rfl, hf, hx, hy, q⟩ := h
  refine ⟨_, (pss_cons (ps_if (pt_cmpR op_isN (pv 1) pe_non (nomark _))
      (pss_one (ps_ret (pe_cmpR op_isN (pv 0) pe_non (nomark _))))
      pss_nil)
    (pss_cons (ps_if (PW.pt (pw_or (pt_val (pe_callB call_isi (by rfl) T.isinstance (by decide +kernel) (pa_cons (pv 1) (pa_cons (pe_bltn (v := .ty "bool") (by rfl) T.bool (by decide +kernel) rfl) pa_nil)))) (pw_or1 (pt_val (pe_callB call_isi (by rfl) T.isinstance (by decide +kernel) (pa_cons (pv 0) (pa_cons (pe_bltn (v := .ty "bool") (by rfl) T.bool (by decide +kernel) rfl) pa_nil)))))))
      (pss_one (ps_ret (pe_and (pe_callB call_isi (by rfl) T.isinstance (by decide +kernel) (pa_cons (pv 1) (pa_cons (pe_bltn (v := .ty "bool") (by rfl) T.bool (by decide +kernel) rfl) pa_nil))) (pe_and (pe_callB call_isi (by rfl) T.isinstance (by decide +kernel) (pa_cons (pv 0) (pa_cons (pe_bltn (v := .ty "bool") (by rfl) T.bool (by decide +kernel) rfl) pa_nil))) (pe_one (pe_cmpR op_eq (pv 0) (pv 1) (nomark _)))))))
      pss_nil)
    (pss_cons (ps_if (PW.pt (pw_or (pt_val (pe_callB call_isi (by rfl) T.isinstance (by decide +kernel) (pa_cons (pv 1) (pa_cons (pe_bltn (v := .ty "int") (by rfl) T.int (by decide +kernel) rfl) pa_nil)))) (pw_or1 (pt_val (pe_callB call_isi (by rfl) T.isinstance (by decide +kernel) (pa_cons (pv 1) (pa_cons (pe_bltn (v := .ty "str") (by rfl) T.str (by decide +kernel) rfl) pa_nil)))))))
      (pss_one (ps_ret (pe_and (pe_cmpR op_eq (pe_callB call_isi (by rfl) T.isinstance (by decide +kernel) (pa_cons (pv 0) (pa_cons (pe_bltn (v := .ty "int") (by rfl) T.int (by decide +kernel) rfl) pa_nil))) (pe_callB call_isi (by rfl) T.isinstance (by decide +kernel) (pa_cons (pv 1) (pa_cons (pe_bltn (v := .ty "int") (by rfl) T.int (by decide +kernel) rfl) pa_nil))) (nomark _)) (pe_one (pe_cmpR op_eq (pv 0) (pv 1) (nomark _))))))
      pss_nil)
    (pss_cons (ps_if (PW.pt (pw_or (pt_cmpR op_ne (pe_callB call_isi (by rfl) T.isinstance (by decide +kernel) (pa_cons (pv 1) (pa_cons (pe_bltn (v := .ty "tuple") (by rfl) T.tuple (by decide +kernel) rfl) pa_nil))) (pe_callB call_isi (by rfl) T.isinstance (by decide +kernel) (pa_cons (pv 0) (pa_cons (pe_bltn (v := .ty "tuple") (by rfl) T.tuple (by decide +kernel) rfl) pa_nil))) (nomark _)) (pw_or1 (pt_cmpR op_ne (pe_callB call_isi (by rfl) T.isinstance (by decide +kernel) (pa_cons (pv 1) (pa_cons (pe_bltn (v := .ty "list") (by rfl) T.list (by decide +kernel) rfl) pa_nil))) (pe_callB call_isi (by rfl) T.isinstance (by decide +kernel) (pa_cons (pv 0) (pa_cons (pe_bltn (v := .ty "list") (by rfl) T.list (by decide +kernel) rfl) pa_nil))) (nomark _)))))
      (pss_one (ps_ret pe_bl))
      pss_nil)
    (pss_one (ps_ret (pe_and (pe_cmpR op_eq (pe_callB call_len_seq (by rfl) T.len PySem.boot_len (pa_cons (pv 0) pa_nil)) (pe_callB call_len_seq (by rfl) T.len PySem.boot_len (pa_cons (pv 1) pa_nil)) (nomark _)) (pe_one (pe_callB (cr_all rfl) (by rfl) T.all (by decide +kernel) (pa_cons (pe_lc (own := [("_law_k", 2)]) (g := gName 2) (tt := tYes) (by rfl) sc__law_same.nd (pi_range1 (by rfl) T.range (pa_cons (pe_callB call_len_seq (by rfl) T.len PySem.boot_len (pa_cons (pv 1) pa_nil)) pa_nil)) (blkOk_by (own := [("_law_k", 2)]) (N := ["_law_actual", "_law_due", "_law_k"]) (sc := defScope s__law_same) (by decide +kernel)) (fun _ _ _ _ _ => pg_name (i := 2) sc__law_same.nd rfl (Or.inl rfl)) (fun _ _ _ _ _ => pts_nil) (fun _ _ _ _ _ => (pe_call ih hr (by rfl) T.g__law_same T.F__law_same.kp T.b__law_same .nil pass0 (pa_cons (pe_ix (show IxR _ (rIxT K) from ix_tup) (pv 0) (pv 2) (fun _ _ => rfl)) (pa_cons (pe_ix (show IxR _ (rIxT K) from ix_tup) (pv 1) (pv 2) (fun _ _ => rfl)) pa_nil))))) pa_nil)))))))))), ?_⟩
  cases d with
  | non =>
    have hx : x = .non := hx
    have hy : y = .non := hy
    subst hx hy
    refine st_seq (st_yes (fun Q q => ⟨_, rfl, rfl, _, rfl, q⟩) ?_)
    exact ⟨_, rfl, rfl, q H (Same.refl H)⟩
  | bl b =>
    have hx : x = .bl b := hx
    have hy : y = .bl b := hy
    subst hx hy
    refine st_seq (st_no (fun Q q => ⟨_, rfl, rfl, _, rfl, q⟩) ?_)
    dsimp only [tNext]
    refine st_seq (st_yes (ans_or1 (ans_isi (i := 1) (x := .bl b) rfl (.base (.bl b)) (by decide +kernel))) ?_)
    refine val_isi (i := 1) (x := .bl b) (b := true) rfl (.base (.bl b)) (by decide +kernel) _ ⟨_, rfl, iteT ?_⟩
    refine val_isi (i := 0) (x := .bl b) (b := true) rfl (.base (.bl b)) (by decide +kernel) _ ⟨_, rfl, iteT ?_⟩
    refine ⟨_, rfl, _, rfl, rfl, ?_⟩
    rw [decide_eq_true rfl]
    exact q H (Same.refl H)
  | int i =>
    have hx : x = .int i := hx
    have hy : y = .int i := hy
    subst hx hy
    refine st_seq (st_no (fun Q q => ⟨_, rfl, rfl, _, rfl, q⟩) ?_)
    dsimp only [tNext]
    refine st_seq (st_no (ans_or (ans_isi (i := 1) (x := .int i) rfl (.base (.int i)) (by decide +kernel)) (ans_isi (i := 0) (x := .int i) rfl (.base (.int i)) (by decide +kernel))) ?_)
    dsimp only [tNext]
    refine st_seq (st_yes (ans_or1 (ans_isi (i := 1) (x := .int i) rfl (.base (.int i)) (by decide +kernel))) ?_)
    refine val_isi (i := 0) (x := .int i) (b := true) rfl (.base (.int i)) (by decide +kernel) _ (val_isi (i := 1) (x := .int i) (b := true) rfl (.base (.int i)) (by decide +kernel) _ ⟨rfl, _, rfl, ite2 (fun _ => ?_) (fun e => absurd (decide_eq_true rfl) e)⟩)
    refine ⟨_, rfl, _, rfl, rfl, ?_⟩
    rw [decide_eq_true rfl]
    exact q H (Same.refl H)
  | str z =>
    have hx : x = .str z := hx
    have hy : y = .str z := hy
    subst hx hy
    refine st_seq (st_no (fun Q q => ⟨_, rfl, rfl, _, rfl, q⟩) ?_)
    dsimp only [tNext]
    refine st_seq (st_no (ans_or (ans_isi (i := 1) (x := .str z) rfl (.base (.str z)) (by decide +kernel)) (ans_isi (i := 0) (x := .str z) rfl (.base (.str z)) (by decide +kernel))) ?_)
    dsimp only [tNext]
    refine st_seq (st_yes (ans_or (ans_isi (i := 1) (x := .str z) rfl (.base (.str z)) (by decide +kernel)) (ans_isi (i := 1) (x := .str z) rfl (.base (.str z)) (by decide +kernel))) ?_)
    refine val_isi (i := 0) (x := .str z) (b := false) rfl (.base (.str z)) (by decide +kernel) _ (val_isi (i := 1) (x := .str z) (b := false) rfl (.base (.str z)) (by decide +kernel) _ ⟨rfl, _, rfl, ite2 (fun _ => ?_) (fun e => absurd (decide_eq_true rfl) e)⟩)
    refine ⟨_, rfl, _, rfl, rfl, ?_⟩
    rw [decide_eq_true rfl]
    exact q H (Same.refl H)
  | tup l =>
    obtain ⟨p, xs, rfl, hp, hxs⟩ := hx
    obtain ⟨r, ys, rfl, hr2, hys⟩ := hy
    obtain ⟨m0, hl, hfl⟩ := hf
    have lx := hxs.lenN
    have ly := hys.lenN
    have hlen : xs.length = ys.length := by rw [lx, ly]
    obtain ⟨m, rfl⟩ : ∃ m, n = m + 1 := ⟨n - 1, by omega⟩
    have tx : TyX K H (.ref p) (.type "tuple") := .base (.tup hp)
    have ty : TyX K H (.ref r) (.type "tuple") := .base (.tup hr2)
    refine st_seq (st_no (fun Q q => ⟨_, rfl, rfl, _, rfl, q⟩) ?_)
    dsimp only [tNext]
    refine st_seq (st_no (ans_or (ans_isi (i := 1) rfl ty (by decide +kernel)) (ans_isi (i := 0) rfl tx (by decide +kernel))) ?_)
    dsimp only [tNext]
    refine st_seq (st_no (ans_or (ans_isi (i := 1) rfl ty (by decide +kernel)) (ans_isi (i := 1) rfl ty (by decide +kernel))) ?_)
    dsimp only [tNext]
    refine st_seq (st_no (ans_or (ans_ne (val_isi (i := 1) (b := true) rfl ty (by decide +kernel)) (val_isi (i := 0) (b := true) rfl tx (by decide +kernel)) rfl rfl) (ans_ne (val_isi (i := 1) (b := false) rfl ty (by decide +kernel)) (val_isi (i := 0) (b := false) rfl tx (by decide +kernel)) rfl rfl)) ?_)
    dsimp only [tNext]
    refine ⟨_, rfl, p, xs, rfl, .inr (.inl (.inl hp)), _, rfl, r, ys, rfl, .inr (.inl (.inl hr2)), rfl, _, rfl, ite2 (fun _ => ?_) (fun e => absurd (by rw [hlen]; exact decide_eq_true rfl) e)⟩
    refine ⟨_, rfl, r, ys, rfl, .inr (.inl (.inl hr2)), _, rfl, by omega, by omega, fun N nN => ?_⟩
    refine lc_range (lo := 0) (n := ((ys.length : Nat) : Int).toNat) (fun i H' => Same H H' ∧ H' N = some (.lst ((List.replicate i true).map V.bl))) ⟨same_upd nN, upd_same⟩ ?_ ?_
    · rintro i H' hi ⟨s2, hN2⟩
      have hi1 : i < ys.length := by omega
      have hi0 : i < xs.length := by omega
      obtain ⟨d, hdf, hd1, hd2⟩ := Dvs.both hfl (hxs.mono (TK.of s2)) (hys.mono (TK.of s2)) (List.getElem?_eq_getElem hi0) (List.getElem?_eq_getElem hi1)
      refine ⟨rfl, _, rfl, _, rfl, p, xs, _, xs[i], rfl, rfl, .inl (.inl (s2 _ _ hp)), at_of (j := i) (by omega) (List.getElem?_eq_getElem hi0), _, rfl, _, rfl, r, ys, _, ys[i], rfl, rfl, .inl (.inl (s2 _ _ hr2)), at_of (j := i) (by omega) (List.getElem?_eq_getElem hi1), ?_⟩
      refine ⟨_, _, d, rfl, hdf, hd1, hd2, fun H3 s3 => ⟨_, s3 _ _ hN2, ?_, same_mut (s2.trans s3) nN, ?_⟩⟩
      · rw [List.length_map, List.length_replicate]
        exact bigLine (by omega)
      · rw [upd_same, List.replicate_succ', List.map_append]
        rfl
    · rintro H' ⟨s2, hN2⟩
      refine ⟨N, _, rfl, SqL.of hN2, ?_⟩
      have e : (List.replicate ((ys.length : Nat) : Int).toNat true).all id = true := by
        rw [List.all_eq_true]
        intro b hb
        rw [List.eq_of_mem_replicate hb]
        rfl
      rw [e]
      exact q H' s2
theorem ok__law_same (T : Txt K mg a) : ∀ n : Nat, FnOk P w K mg base CX0 n a.f__law_same a.f__law_same_d ["_law_actual", "_law_due"] (spSame n)
  | 0 => ⟨fun _ _ _ _ h => h.elim, fun _ _ _ _ _ _ _ _ _ _ _ _ _ h => h.elim⟩
  | n + 1 => ok__law_same1 T n (ok__law_same T n)
end
end K3
namespace K3
open PySem PySem.Spec PyProof.Rows L2 TL
/-! ### what a store does, said twice -/
def Calm {α : Type} : Sem α → Prop
  | .pure _ => True
  | .raise _ => True
  | .unsupported _ => True
  | .rule _ k => Calm (k ())
  | .at _ k => Calm (k ())
  | .load _ _ k => ∀ o, Calm (k o)
  | .update _ _ _ k => Calm (k ())
  | .fresh k => ∀ t, Calm (k t)
  | .ask k => ∀ x, Calm (k x)
  | _ => False
theorem calm_bind {α β : Type} {f : α → Sem β} (hf : ∀ a, Calm (f a)) {t : Sem α} (h : Calm t) : Calm (t.bind f) := by
  induction t with
  | pure a => exact hf a
  | raise _ => exact trivial
  | unsupported _ => exact trivial
  | rule _ k ih => exact ih () h
  | «at» _ k ih => exact ih () h
  | load _ _ k ih => exact fun o => ih o (h o)
  | update _ _ _ k ih => exact ih () h
  | fresh k ih => exact fun x => ih x (h x)
  | ask k ih => exact fun x => ih x (h x)
  | finish => exact h.elim
  | loadIfAlive => exact h.elim
  | point => exact h.elim
  | register => exact h.elim
  | alloc => exact h.elim
  | choose => exact h.elim
  | os => exact h.elim
  | call => exact h.elim
  | handled => exact h.elim
  | newGen => exact h.elim
  | genState => exact h.elim
  | resume => exact h.elim
  | yield => exact h.elim
  | stack => exact h.elim
  | fork => exact h.elim
  | thread => exact h.elim
  | await => exact h.elim
theorem wp_both {α : Type} {M : Model} {Γ : PySem.Ctx} {Q1 Q2 : α → Pos → Shared → Prop} {E : Value → Pos → Shared → Prop} (t : Sem α) (h : Calm t) : ∀ (p : Pos) (s : Shared), Sem.wp M Γ t Q1 E p s → Sem.wp M Γ t Q2 E p s → Sem.wp M Γ t (fun a p s => Q1 a p s ∧ Q2 a p s) E p s := by
  induction t with
  | pure _ => exact fun p s h1 h2 => ⟨h1, h2⟩
  | raise _ => exact fun p s h1 _ => h1
  | unsupported _ => exact fun p s h1 _ => h1
  | rule _ k ih => exact fun p s h1 h2 => ih () h p s h1 h2
  | «at» p' k ih => exact fun p s h1 h2 => ih () h p' s h1 h2
  | load _ _ k ih =>
    intro p s h1 h2
    obtain ⟨o, e, h1⟩ := h1
    obtain ⟨o', e', h2⟩ := h2
    rw [e] at e'
    cases e'
    exact ⟨o, e, ih o (h o) p s h1 h2⟩
  | update _ _ _ k ih => exact fun p s h1 h2 => ⟨h1.1, ih () h p _ h1.2 h2.2⟩
  | fresh k ih => exact fun p s h1 h2 => ih s.toks (h _) p _ h1 h2
  | ask k ih => exact fun p s h1 h2 => ih _ (h _) p s h1 h2
  | finish => exact h.elim
  | loadIfAlive => exact h.elim
  | point => exact h.elim
  | register => exact h.elim
  | alloc => exact h.elim
  | choose => exact h.elim
  | os => exact h.elim
  | call => exact h.elim
  | handled => exact h.elim
  | newGen => exact h.elim
  | genState => exact h.elim
  | resume => exact h.elim
  | yield => exact h.elim
  | stack => exact h.elim
  | fork => exact h.elim
  | thread => exact h.elim
  | await => exact h.elim
theorem any_both {α : Type} {M : Model} {A : Around} {t : Sem α} {Q1 Q2 : α → Shared → Prop} {E : Value → Shared → Prop} {s : Shared} (c : Calm t) (h1 : wpAny M A t Q1 E s) (h2 : wpAny M A t Q2 E s) : wpAny M A t (fun a s => Q1 a s ∧ Q2 a s) E s :=
  fun Γ p hΓ => wp_both t c p s (h1 Γ p hΓ) (h2 Γ p hΓ)
theorem calm_nsSet (a : Addr) (x : Str) (v : Value) : Calm (nsSet a x v) := by
  unfold nsSet
  refine calm_bind ?_ ?_
  · intro h
    refine calm_bind ?_ ?_
    · intro k
      refine calm_bind ?_ ?_
      · intro o
        split
        · split
          · refine calm_bind ?_ ?_
            · intro _
              exact True.intro
            · exact True.intro
          · exact True.intro
        · exact True.intro
      · exact fun o => True.intro
    · unfold mkText
      refine calm_bind ?_ ?_
      · intro t
        exact True.intro
      · exact fun t => True.intro
  · unfold strHash
    refine calm_bind ?_ ?_
    · intro w
      exact True.intro
    · exact fun x => True.intro
section
variable {X : Cx} {pins : List (Addr × Obj)} {σ : L2.St} {H : Hp} {s : Shared}
/-- a name of the frame's own: what it holds then, and a token is out -/
theorem store_raw {M : Model} {A : Around} {E : Value → Shared → Prop} {i : Nat} {x : Str} {v : V} {u : Value} (I : Inv X pins σ H s) (hN : X.N.Nodup) (hi : X.N[i]? = some x) (hx : X.env.scope.names.lookup x = some .local) (hk : X.env.kindOf x = some .local) (r : RelV v u) :
    wpAny M A (storeName X.env x u) (fun _ s' => Inv X pins (σ.set i (some v)) H s' ∧ s'.toks = s.toks + 1 ∧ ∃ m, s'.heap.Ns X.env.locals m ∧ m x = some u) E s := by
  have h1 := store_ok (M := M) (A := A) (E := E) (Q := fun _ s' => Inv X pins (σ.set i (some v)) H s') I hN hi (.inl hx) r (fun s' I' => I') (.inr hx)
  obtain ⟨m, hn, _⟩ := I.loc
  have hcls : (X.env.scope.kind == .class || (X.env.scope.kind == .module && X.env.locals != X.env.globals)) = false := by
    rw [I.ok.kind]
    rfl
  have h2 := wpAny_storeName_local (M := M) (A := A) (E := E) (s := s) (v := u) (Q := fun _ s' => s'.toks = s.toks + 1 ∧ ∃ m, s'.heap.Ns X.env.locals m ∧ m x = some u) hk hn (fun h' hn' _ => ⟨rfl, _, hn', if_pos rfl⟩) hcls
  rw [storeName_local hk hcls] at h1 h2 ⊢
  exact any_both (calm_nsSet _ _ _) h1 h2
/-- name = value, a token is out behind it -/
theorem pss_setT {i : Nat} {x : Str} {e : Expr} {te : TE} {pos' pos : Pos} {rest : List Stmt} {u : L2.TS} (hN : X.N.Nodup) (hi : X.N[i]? = some x) (hx : X.env.scope.names.lookup x = some .local) (hk : X.env.kindOf x = some .local) (he : PE X e te) (h2 : PSsT X rest u)
    (hs : swapsWith e (some (.Name x pos')) pos.line X.env = pure false := by rfl) : PSs X (.Assign [.Name x pos'] e pos :: rest) (tSeq (tAsg te (gName i)) u) :=
  ⟨fun pins s σ H D I h => wpAny_execs_cons (wpAny_Assign_Name (thn (he.run pins s σ H _ I h) fun v s1 ⟨y, H1, I1, r1, q1⟩ => wpAny_mono (store_raw I1 hN hi hx hk r1) (fun _ s2 q => h2 pins s2 _ H1 D (by have := q.2.1; omega) q.1 q1) fun _ _ z => z) hs)⟩
theorem sum_raw {P : Program} {w : World} {A : Around} {E : Value → Shared → Prop} {s : Shared} {y z : Str} {t u : Tok} {Q : Value → Shared → Prop} (hy : (y.length == 0) = false) (hz : (z.length == 0) = false) (hl : (y ++ z).length ≤ sizeLine) (q : Q (.str (y ++ z) s.toks) { s with toks := s.toks + 1 }) :
    wpAny (model P w) A (binaryOp .Add (.str y t) (.str z u)) Q E s := PySem.P.add_str (by
  rw [if_neg (by rw [hy]; exact Bool.false_ne_true), if_neg (by rw [hz]; exact Bool.false_ne_true)]
  exact ⟨hl, q⟩)
/-- text = text.replace(sign, before + sign + behind), the sign's own object known -/
theorem run_wide {iw : Nat} {w x y1 y2 : Str} {c j1 j2 : Nat} {p1 p2 p3 p4 c1 c2 q1 q2 apos pos pos' : Pos} {D : Ends} {m : Str → Option Value} {t : Tok} {z : Str} (hN : X.N.Nodup) (hiw : X.N[iw]? = some w) (hlw : X.env.scope.names.lookup w = some .local) (hvw : Vis X.env.scope w)
    (hkx : X.env.kindOf x = some .local) (hdw : (w == ("__debug__" : Str)) = false) (hcw : (w == ("__classdict__" : Str)) = false) (hdx : (x == ("__debug__" : Str)) = false) (h1 : (y1.length == 0) = false) (h2 : (y2.length == 0) = false)
    (hst : starEach [.Name x p3, .BinOp (.BinOp (.Constant (.str y1) j1 c1) .Add (.Name x p4) q1) .Add (.Constant (.str y2) j2 c2) q2] X.env = [(false, eval (.Name x p3) X.env), (false, eval (.BinOp (.BinOp (.Constant (.str y1) j1 c1) .Add (.Name x p4) q1) .Add (.Constant (.str y2) j2 c2) q2) X.env)])
    (hbase : attributeBase (.Name w p2) "replace" X.env (eval (.Name w p2) X.env) = eval (.Name w p2) X.env) (hline : (apos.endLine == pos.line) = true)
    (hs : swapsWith (.Call (.Attribute (.Name w p2) "replace" apos) [.Name x p3, .BinOp (.BinOp (.Constant (.str y1) j1 c1) .Add (.Name x p4) q1) .Add (.Constant (.str y2) j2 c2) q2] [] pos) (some (.Name w p1)) pos'.line X.env = pure false)
    (I : Inv X pins σ H s) (hm : s.heap.Ns X.env.locals m) (hx : m x = some (.str ⟨#[c]⟩ t)) (t0 : t ≠ 0) (ts : t < s.toks) (hσ : σ[iw]? = some (some (.str z))) (hz : z.length + (z.length + 1) * (y1 ++ ⟨#[c]⟩ ++ y2).length ≤ 16777216) (hne : ((⟨#[c]⟩ : Str) == y1 ++ ⟨#[c]⟩ ++ y2) = false)
    (q : D.nx (σ.set iw (some (.str (Txt.replace z ⟨#[c]⟩ (y1 ++ ⟨#[c]⟩ ++ y2))))) H) :
    wpAny (model X.prog X.w) X.A (execs [.Assign [.Name w p1] (.Call (.Attribute (.Name w p2) "replace" apos) [.Name x p3, .BinOp (.BinOp (.Constant (.str y1) j1 c1) .Add (.Name x p4) q1) .Add (.Constant (.str y2) j2 c2) q2] [] pos) pos'] X.env) (SP X pins D) X.xe s := by
  have hsz : (y1 ++ ⟨#[c]⟩ ++ y2).length ≤ sizeLine := by
    have e : (2 : Nat) ^ 24 = 16777216 := by decide
    unfold sizeLine
    have : (y1 ++ ⟨#[c]⟩ ++ y2).length ≤ (z.length + 1) * (y1 ++ ⟨#[c]⟩ ++ y2).length := Nat.le_mul_of_pos_left _ (Nat.succ_pos _)
    omega
  have hsz1 : (y1 ++ ⟨#[c]⟩).length ≤ sizeLine := by
    rw [Str.length_append] at hsz
    omega
  have h3 : ((⟨#[c]⟩ : Str).length == 0) = false := rfl
  have h4 : ((y1 ++ ⟨#[c]⟩ : Str).length == 0) = false := by
    rw [Str.length_append]
    exact beq_eq_false_iff_ne.mpr (by show y1.length + 1 ≠ 0; omega)
  refine wpAny_execs_cons (wpAny_Assign_Name (PySem.Call_method2 hbase hst hline (raw_name hiw hvw I hσ (fun v r => ?_) hdw hcw)) hs)
  obtain ⟨tx, e⟩ := r
  subst e
  refine ⟨"str", _, PySem.F.plainAttrs_str, PySem.F.slot_str_replace, PySem.F.type_str_replace, typeIs_str _ _ _, (fun _ e => nomatch e), Calls.callWith_builtin rfl (Calls.evalArgs_plain (Calls.spliced_cons ?_))⟩
  refine wpAny_Name (wpAny_loadName_local I.ok.kind hkx hm hx ?_) hdx
  refine Calls.spliced_cons (wpAny_BinOp (wpAny_BinOp (Calls.Constant_str (wpAny_Name (wpAny_loadName_local I.ok.kind hkx hm hx (sum_raw h1 h3 hsz1 ?_)) hdx))))
  dsimp only
  refine Calls.Constant_str (sum_raw h4 h2 hsz (Calls.spliced_nil ?_))
  dsimp only
  refine PySem.SC.replace t0 (Nat.succ_ne_zero _) (Nat.ne_of_lt (Nat.lt_of_lt_of_le ts (by show s.toks ≤ s.toks + 1 + 1 + 1; exact Nat.le_add_right _ 3))) hne hz fun t' k => ?_
  dsimp only
  generalize Txt.replace z ⟨#[c]⟩ (y1 ++ ⟨#[c]⟩ ++ y2) = zz at q ⊢
  refine wpAny_mono (Q := fun _ s2 => Inv X pins (σ.set iw (some (.str zz))) H s2) ?_ (fun _ s2 I2 => wpAny_execs_nil ⟨_, H, I2, q⟩) (fun _ _ z => z)
  exact store_ok (I.tok k) hN hiw (.inl hlw) (show RelV (V.str zz) (Value.str zz t') from ⟨t', rfl⟩) (fun _ I2 => I2) (.inr hlw)
theorem set_self : ∀ {σ : L2.St} {i : Nat} {x : Option V}, σ[i]? = some x → σ.set i x = σ
  | [], _, _, h => by simp at h
  | y :: r, 0, x, h => by
    have : y = x := Option.some.inj h
    rw [this]
    rfl
  | y :: r, i + 1, x, h => by
    show y :: r.set i x = y :: r
    rw [set_self (σ := r) (i := i) h]
def wideL (y1 y2 z : Str) (cs : List Nat) : Str := cs.foldl (fun z c => Txt.replace z ⟨#[c]⟩ (y1 ++ ⟨#[c]⟩ ++ y2)) z
def tWide (l y1 y2 : Str) (iw ix : Nat) : L2.TS := fun D σ H => ∃ z, σ[iw]? = some (some (.str z)) ∧ (∀ k c, l.cps[k]? = some c → (wideL y1 y2 z (l.cps.toList.take k)).length + ((wideL y1 y2 z (l.cps.toList.take k)).length + 1) * (y1 ++ ⟨#[c]⟩ ++ y2).length ≤ 16777216) ∧ ∀ v, D.nx ((σ.set iw (some (.str (wideL y1 y2 z l.cps.toList)))).set ix v) H
/-- for sign in a written text: text = text.replace(sign, before + sign + behind) -/
theorem ps_wide {iw ix : Nat} {w x l y1 y2 : Str} {jl j1 j2 : Nat} {px cl p1 p2 p3 p4 c1 c2 q1 q2 apos pos pos' fpos : Pos} (hp : PassesOwn (model X.prog X.w) X.A X.env X.xe) (hc : X.calm = true) (hN : X.N.Nodup) (hiw : X.N[iw]? = some w) (hix : X.N[ix]? = some x) (hwx : iw ≠ ix)
    (hlw : X.env.scope.names.lookup w = some .local) (hvw : Vis X.env.scope w) (hlx : X.env.scope.names.lookup x = some .local) (hkx : X.env.kindOf x = some .local) (hasc : l.cps.all (· < 128) = true)
    (hdw : (w == ("__debug__" : Str)) = false) (hcw : (w == ("__classdict__" : Str)) = false) (hdx : (x == ("__debug__" : Str)) = false) (h1 : (y1.length == 0) = false) (h2 : (y2.length == 0) = false) (hne : ∀ c, ((⟨#[c]⟩ : Str) == y1 ++ ⟨#[c]⟩ ++ y2) = false)
    (hst : starEach [.Name x p3, .BinOp (.BinOp (.Constant (.str y1) j1 c1) .Add (.Name x p4) q1) .Add (.Constant (.str y2) j2 c2) q2] X.env = [(false, eval (.Name x p3) X.env), (false, eval (.BinOp (.BinOp (.Constant (.str y1) j1 c1) .Add (.Name x p4) q1) .Add (.Constant (.str y2) j2 c2) q2) X.env)])
    (hbase : attributeBase (.Name w p2) "replace" X.env (eval (.Name w p2) X.env) = eval (.Name w p2) X.env) (hline : (apos.endLine == pos.line) = true)
    (hs : swapsWith (.Call (.Attribute (.Name w p2) "replace" apos) [.Name x p3, .BinOp (.BinOp (.Constant (.str y1) j1 c1) .Add (.Name x p4) q1) .Add (.Constant (.str y2) j2 c2) q2] [] pos) (some (.Name w p1)) pos'.line X.env = pure false)
    (hfs : ∀ v, foldedSetIterable (.Constant (.str l) jl cl) X.env v = pure v) :
    PS X (.For (.Name x px) (.Constant (.str l) jl cl) [.Assign [.Name w p1] (.Call (.Attribute (.Name w p2) "replace" apos) [.Name x p3, .BinOp (.BinOp (.Constant (.str y1) j1 c1) .Add (.Name x p4) q1) .Add (.Constant (.str y2) j2 c2) q2] [] pos) pos'] [] fpos) (tWide l y1 y2 iw ix) := by
  refine ⟨fun pins s σ H D I h => ?_⟩
  obtain ⟨z, hσ, hz, q⟩ := h
  refine wpAny_For (Calls.Constant_str (wpAny_pyIter_ascii hasc ?_)) hfs
  have fp : FpOk X pins H s.heap.objs.size := I.fpOk (Nat.le_refl _) (I.hok.fresh (Nat.le_refl _))
  have T := turn_str (P := X.prog) (w := X.w) (K := X.K) (tg := .Name x px) s.heap.objs.size l s.toks "str_ascii_iterator" (.inl rfl)
  obtain ⟨f0, f1, f2, f3, f4, f5⟩ := id fp
  have hixl : ix < σ.length := by rw [I.len]; exact (List.getElem?_eq_some_iff.mp hix).1
  have hiwl : iw < σ.length := by rw [I.len]; exact (List.getElem?_eq_some_iff.mp hiw).1
  obtain ⟨v0, hv0⟩ : ∃ v0, σ[ix]? = some v0 := ⟨_, List.getElem?_eq_getElem hixl⟩
  have e0 : (σ.set iw (some (.str z))).set ix v0 = σ := by rw [set_self hσ, set_self hv0]
  have I2 : Inv X pins σ H { s with heap := s.heap.push { cls := .type "str_ascii_iterator", data := .fields #[.str l s.toks, .int 0 0] }, toks := s.toks + 1 } := I.kept fun b ob e => Heap.get?_push_of_some _ e
  refine codeAny_forLoop_any (fun n s' => ∃ i v, n = l.cps.size - i ∧ i ≤ l.cps.size ∧ Inv X pins ((σ.set iw (some (.str (wideL y1 y2 z (l.cps.toList.take i))))).set ix v) H s' ∧ s'.heap.IsStrIter s.heap.objs.size "str_ascii_iterator" l s.toks i ∧ 1 ≤ s'.toks) ?_ l.cps.size ⟨0, v0, rfl, Nat.zero_le _, by rw [List.take_zero]; show Inv X pins ((σ.set iw (some (.str z))).set ix v0) H _; rw [e0]; exact I2, ⟨_, Heap.get?_push_size _ rfl, rfl, rfl⟩, Nat.succ_le_succ (Nat.zero_le _)⟩
  rintro n s3 ⟨i, v, rfl, hi, I3, st3, tk3⟩
  by_cases hend : i = l.cps.size
  · have hx : l.cps[i]? = none := Array.getElem?_eq_none (by omega)
    refine wpAny_passesOwn hp (wpAny_pyNext_ascii_end (I3.ok.hd hc) st3 hx fun h' eb => ?_)
    have I4 := I3.turned (h' := h') (t' := s3.toks) (it := s.heap.objs.size) (fun b o hb e => eb b o hb e) f0 f1 f3 f4 f5
    refine wpAny_execs_nil ⟨_, H, I4, ?_⟩
    rw [hend, show l.cps.toList.take l.cps.size = l.cps.toList from List.take_of_length_le (by rw [Array.length_toList]; exact Nat.le_refl _)]
    exact q v
  · have hil : i < l.cps.size := by omega
    obtain ⟨c, hx⟩ : ∃ c, l.cps[i]? = some c := ⟨_, Array.getElem?_eq_getElem hil⟩
    refine wpAny_passesOwn hp (wpAny_pyNext_ascii_item st3 hx fun h' st4 sb => ?_)
    have I4 := I3.turned (h' := h') (t' := s3.toks + 1) (it := s.heap.objs.size) (fun b o hb e => sb.extBut b o hb e) f0 f1 f3 f4 f5
    obtain ⟨oi, ei, cc, dd⟩ := id st4
    refine wpAny_passesOwn hp (go_of (s := { s3 with heap := h', toks := s3.toks + 1 }) ei cc dd (by decide) ?_)
    have I5 := I4.pinned (fp := [s.heap.objs.size]) (fun b hb => by rw [List.mem_singleton.mp hb]; exact fp) (T.obj (i + 1) h' st4)
    refine wpAny_passesOwn hp (wpAny_assign_Name (wpAny_mono (store_raw (v := V.str ⟨#[c]⟩) (u := Value.str ⟨#[c]⟩ s3.toks) I5 hN hix hlx hkx ⟨s3.toks, rfl⟩) (fun _ s6 q6 => ?_) fun _ _ z => z))
    obtain ⟨I6, ht, m, hm, hmx⟩ := q6
    have ht' : s6.toks = s3.toks + 1 + 1 := ht
    have hσ6 : ((((σ.set iw (some (.str (wideL y1 y2 z (l.cps.toList.take i))))).set ix v)).set ix (some (.str ⟨#[c]⟩)))[iw]? = some (some (.str (wideL y1 y2 z (l.cps.toList.take i)))) := by
      rw [List.getElem?_set_ne (Ne.symm hwx), List.getElem?_set_ne (Ne.symm hwx), List.getElem?_set_self hiwl]
    have hcl : l.cps.toList[i]? = some c := by rw [Array.getElem?_toList]; exact hx
    have enext : wideL y1 y2 z (l.cps.toList.take (i + 1)) = Txt.replace (wideL y1 y2 z (l.cps.toList.take i)) ⟨#[c]⟩ (y1 ++ ⟨#[c]⟩ ++ y2) := by
      unfold wideL
      rw [List.take_add_one, hcl, List.foldl_append]
      rfl
    refine wpAny_passesOwn hp (wpAny_mono (PySem.wpAny_toks (run_wide (D := { nx := fun σ' H' => σ' = (σ.set iw (some (.str (wideL y1 y2 z (l.cps.toList.take (i + 1)))))).set ix (some (.str ⟨#[c]⟩)) ∧ H' = H, rt := fun _ _ => False, bk := fun _ _ => False, ct := fun _ _ => False }) hN hiw hlw hvw hkx hdw hcw hdx h1 h2 hst hbase hline hs I6 hm hmx (Nat.ne_of_gt tk3) (by rw [ht']; exact Nat.lt_succ_of_lt (Nat.lt_succ_self _)) hσ6 (hz i c hx) (hne c) ⟨?_, rfl⟩)) (fun f s7 q7 => ?_) fun _ _ z => z.2)
    · rw [enext, List.set_set, List.set_comm _ _ (Ne.symm hwx), List.set_set]
    · obtain ⟨hk7, q7⟩ := q7
      cases f with
      | next =>
        obtain ⟨σ7, H7, I7, e7, eH⟩ := q7
        subst e7 eH
        refine ⟨l.cps.size - (i + 1), by omega, i + 1, _, rfl, by omega, I7.unpinned, T.keep (i + 1) h' _ st4 fun b hb o e => (I7.pin (b, o) (List.mem_append_right _ (List.mem_append_right _ (mem_pinsAt hb e)))).1, by omega⟩
      | cont => obtain ⟨_, _, _, z⟩ := q7; exact z.elim
      | brk => obtain ⟨_, _, _, z⟩ := q7; exact z.elim
      | ret v => obtain ⟨_, _, _, _, _, z⟩ := q7; exact z.elim
end
end K3
namespace K3
open PySem PySem.Spec PyProof.Rows L2 TL
/-! ### the parser's trees of the law's -/
def itm (p : Str × Int) : Item := (decide (p.2 < 0), if ab p.2 = 1 then .nm p.1 else .pr (numT (ab p.2)) (ab p.2) p.1)
def itc (c : Int) : Item := (decide (c < 0), .nu (numT (ab c)) (ab c))
def nfI (e : Ex) : List Item := e.2.map itm ++ if ((!decide (V.int e.1 = V.int 0)) || e.2.isEmpty) = true then [itc e.1] else []
def hdI (e : Ex) : Item := (nfI e).headD (itc 0)
def tlI (e : Ex) : List Item := (nfI e).tail
theorem nfI_ne (e : Ex) : nfI e ≠ [] := by
  intro h
  unfold nfI at h
  have h1 := (List.append_eq_nil_iff.mp h).1
  have h2 := (List.append_eq_nil_iff.mp h).2
  have hl : e.2 = [] := List.map_eq_nil_iff.mp h1
  rw [hl, if_pos (by simp)] at h2
  cases h2
theorem nfI_is (e : Ex) : nfI e = ((hdI e).1, (hdI e).2) :: tlI e := by
  unfold hdI tlI
  cases h : nfI e with
  | nil => exact absurd h (nfI_ne e)
  | cons x r => rfl
theorem nfI_len {e : Ex} (h : ExOk e) : (nfI e).length ≤ 7 := by
  have := h.len
  unfold nfI
  rw [List.length_append, List.length_map]
  split
  · show _ + 1 ≤ 7
    omega
  · show _ + 0 ≤ 7
    omega
theorem ab_cast (i : Int) : ∃ k : Nat, ab i = (k : Int) := ⟨i.natAbs, ab_nat i⟩
theorem nfI_ok {e : Ex} (h : ExOk e) : ∀ x ∈ nfI e, TmOk x.2 := by
  intro x hx
  unfold nfI at hx
  rcases List.mem_append.mp hx with hx | hx
  · obtain ⟨p, hp, rfl⟩ := List.mem_map.mp hx
    obtain ⟨h1, _, h3⟩ := h.nm p hp
    have ha := ab_small h3
    show TmOk (if ab p.2 = 1 then .nm p.1 else .pr (numT (ab p.2)) (ab p.2) p.1)
    split
    · exact h1
    · obtain ⟨k, hk⟩ := ab_cast p.2
      exact ⟨⟨k, hk, rfl, by omega⟩, h1⟩
  · split at hx
    · rw [List.mem_singleton.mp hx]
      obtain ⟨k, hk⟩ := ab_cast e.1
      have ha := ab_small h.c
      exact ⟨k, hk, rfl, by omega⟩
    · cases hx
def toA : Ar → El
  | .pla v => .pla v
  | .val e => .val (hdI e).1 (hdI e).2 (tlI e)
def toP : P0 → Pl
  | .set v e => .set v (hdI e).1 (hdI e).2 (tlI e)
  | .inp v => .inp v
  | .call t f as => .call t f (as.map toA)
  | .risk ks => .risk ks
  | .rse k => .rse k
  | .ret e => .ret (hdI e).1 (hdI e).2 (tlI e)
mutual
def toS : TS → Stm
  | .pl p => .pl (toP p)
  | .iff x y => .iff (toB x) (!y.L.isEmpty) (toB y)
  | .whl x => .whl (toB x)
  | .undo vs x => .undo vs (toB x)
  | .tr x hs y => .tr (toB x) (toH hs) (!y.L.isEmpty || hs.L.isEmpty) (toB y)
  | .wth f as g bs ks x => .wth f (as.map toA) g (bs.map toA) (!ks.isEmpty) ks (toB x)
def toB : TB → Blk
  | .nil => .nil
  | .cons s r => .cons (toS s) (toB r)
def toH : TH → Hds
  | .nil => .nil
  | .cons ks x r => .cons ks (toB x) (toH r)
end
def toF (f : FnT) : Fn := ⟨f.nm, f.ps.map fun p => .par p.1 p.2, toB f.bk⟩
/-! ### their tokens -/
abbrev Tk := Str × Str
abbrev kw (s : Str) : Tk := tk s s
def jTk : List (List Tk) → List Tk
  | [] => []
  | [x] => x
  | x :: r => x ++ kw "," :: jTk r
def eTk (e : Ex) : List Tk := exprToks (nfI e)
def aTk : Ar → List Tk
  | .pla v => [kw "&", tk "NAME" v]
  | .val e => eTk e
def paTk (p : Str × Bool) : List Tk := if p.2 = true then [kw "&", tk "NAME" p.1] else [tk "NAME" p.1]
def nsTk (ns : List Str) : List Tk := jTk (ns.map fun v => [tk "NAME" v])
def lsTk (l : List (List Tk)) : List Tk := kw "(" :: (jTk l ++ [kw ")"])
def callTk (f : Str) (as : List Ar) : List Tk := tk "NAME" f :: lsTk (as.map aTk)
def pTk : P0 → List Tk
  | .set v e => tk "NAME" v :: kw "=" :: eTk e
  | .inp v => [tk "NAME" v, kw "=", kw "?"]
  | .call none f as => callTk f as
  | .call (some t) f as => tk "NAME" t :: kw "=" :: callTk f as
  | .risk ks => kw "risk" :: nsTk ks
  | .rse k => [kw "raise", tk "NAME" k]
  | .ret e => kw "return" :: eTk e
mutual
def sTk : TS → List Tk
  | .pl p => pTk p
  | .iff x y => kw "if" :: kw "{" :: (bTk x ++ if y.L.isEmpty = true then [] else kw "else" :: kw "{" :: bTk y)
  | .whl x => kw "while" :: kw "{" :: bTk x
  | .undo vs x => kw "undo" :: (nsTk vs ++ kw "{" :: bTk x)
  | .tr x hs y => kw "try" :: kw "{" :: (bTk x ++ (hTk hs ++ if (!y.L.isEmpty || hs.L.isEmpty) = true then kw "finally" :: kw "{" :: bTk y else []))
  | .wth f as g bs ks x => kw "with" :: (callTk f as ++ kw "," :: (callTk g bs ++ ((if ks.isEmpty = true then [] else kw "swallow" :: nsTk ks) ++ kw "{" :: bTk x)))
def bTk : TB → List Tk
  | .nil => [kw "}"]
  | .cons s r => sTk s ++ bTk r
def hTk : TH → List Tk
  | .nil => []
  | .cons ks x r => kw "except" :: (nsTk ks ++ kw "{" :: (bTk x ++ hTk r))
end
/-! ### where they stand -/
/-- the tokens X stand at i, post behind them -/
def Std (ts : List Tok3) (i : Nat) (X post : List Tk) : Prop := ∃ pre : List Tk, pre.length = i ∧ ts.map kp = pre ++ (X ++ post)
theorem Std.skip {ts : List Tok3} {i : Nat} {X Y post : List Tk} (h : Std ts i (X ++ Y) post) : Std ts (i + X.length) Y post := by
  obtain ⟨pre, rfl, e⟩ := h
  exact ⟨pre ++ X, by rw [List.length_append], by rw [e]; simp only [List.append_assoc]⟩
theorem Std.left {ts : List Tok3} {i : Nat} {X Y post : List Tk} (h : Std ts i (X ++ Y) post) : Std ts i X (Y ++ post) := by
  obtain ⟨pre, rfl, e⟩ := h
  exact ⟨pre, rfl, by rw [e]; simp only [List.append_assoc]⟩
theorem Std.tail {ts : List Tok3} {i : Nat} {x : Tk} {Y post : List Tk} (h : Std ts i (x :: Y) post) : Std ts (i + 1) Y post := Std.skip (X := [x]) h
theorem Std.head {ts : List Tok3} {i : Nat} {k p : Str} {Y post : List Tk} (h : Std ts i ((k, p) :: Y) post) : At ts i k p := by
  obtain ⟨pre, rfl, e⟩ := h
  exact at_pre e rfl
theorem Std.post {ts : List Tok3} {i : Nat} {X : List Tk} {k p : Str} {post : List Tk} (h : Std ts i X ((k, p) :: post)) : At ts (i + X.length) k p := by
  have : Std ts i (X ++ [(k, p)]) post := by
    obtain ⟨pre, rfl, e⟩ := h
    exact ⟨pre, rfl, by rw [e]; simp⟩
  exact this.skip.head
theorem ex_at {ts : List Tok3} {i : Nat} {e : Ex} {k p : Str} {post : List Tk} (h : ExOk e) (hk : EndTok k) (hs : Std ts i (eTk e) ((k, p) :: post)) : ExprAt ts i (hdI e).1 (hdI e).2 (tlI e) ∧ endE i (hdI e).1 (hdI e).2 (tlI e) = i + (eTk e).length ∧ (tlI e).length < 60 := by
  obtain ⟨pre, rfl, e1⟩ := hs
  have hn := nfI_ok h
  have hl := nfI_len h
  unfold eTk at e1 ⊢
  rw [nfI_is e] at hn e1 hl ⊢
  have := expr_at hn hk e1
  rw [List.length_cons] at hl
  exact ⟨this.1, this.2, by omega⟩
theorem co_ok : EndTok "," := ⟨by decide +kernel, by decide +kernel, by decide +kernel⟩
theorem br_ok : EndTok ")" := ⟨by decide +kernel, by decide +kernel, by decide +kernel⟩
/-- one of a list -/
def ElStd (x : El) (X : List Tk) : Prop := ∀ (ts : List Tok3) (i : Nat) (k p : Str) (post : List Tk), EndTok k → Std ts i X ((k, p) :: post) → ElAt ts i x ∧ endEl i x = i + X.length
theorem ar_std {x : Ar} (h : ArOk x) : ElStd (toA x) (aTk x) := by
  intro ts i k p post hk hs
  cases x with
  | pla v => exact ⟨⟨⟨_, hs.head⟩, hs.tail.head⟩, rfl⟩
  | val e =>
    obtain ⟨a, b, c⟩ := ex_at h hk hs
    exact ⟨⟨a, c⟩, b⟩
theorem pa_std {p : Str × Bool} : ElStd (.par p.1 p.2) (paTk p) := by
  intro ts i k q post hk hs
  obtain ⟨v, b⟩ := p
  cases b with
  | true => exact ⟨⟨⟨_, hs.head⟩, hs.tail.head⟩, rfl⟩
  | false => exact ⟨hs.head, rfl⟩
def tailTk (l : List (List Tk)) : List Tk := (l.map fun x => kw "," :: x).flatten
theorem jTk_cons (x : List Tk) : ∀ r : List (List Tk), jTk (x :: r) = x ++ tailTk r
  | [] => by show x = x ++ []; rw [List.append_nil]
  | y :: r => by
    show x ++ kw "," :: jTk (y :: r) = x ++ (kw "," :: y ++ tailTk r)
    rw [jTk_cons y r]
    rfl
theorem tail_at {ts : List Tok3} : ∀ (l : List (El × List Tk)) {i : Nat} {post : List Tk}, (∀ q ∈ l, ElStd q.1 q.2) → Std ts i (tailTk (l.map (·.2)) ++ [kw ")"]) post → TailAt ts i (l.map (·.1)) ∧ endT i (l.map (·.1)) = i + (tailTk (l.map (·.2))).length + 1
  | [], i, post, _, h => ⟨⟨_, Std.head h⟩, rfl⟩
  | (x, X) :: r, i, post, hq, h => by
    have h' : Std ts i ((kw "," :: X) ++ (tailTk (r.map (·.2)) ++ [kw ")"])) post := by
      rw [← List.append_assoc]
      exact h
    have hx : Std ts (i + 1) X ((tailTk (r.map (·.2)) ++ [kw ")"]) ++ post) := Std.tail (x := kw ",") (Y := X) h'.left
    obtain ⟨k, p, post', e, hk⟩ : ∃ k p post', (tailTk (r.map (·.2)) ++ [kw ")"]) ++ post = (k, p) :: post' ∧ EndTok k := by
      cases r with
      | nil => exact ⟨_, _, _, rfl, br_ok⟩
      | cons y r => exact ⟨_, _, _, rfl, co_ok⟩
    rw [e] at hx
    obtain ⟨a1, a2⟩ := hq (x, X) List.mem_cons_self ts (i + 1) k p post' hk hx
    have h2 : Std ts (i + 1 + X.length) (tailTk (r.map (·.2)) ++ [kw ")"]) post := by
      have := h'.skip
      rw [List.length_cons] at this
      rw [show i + 1 + X.length = i + (X.length + 1) by omega]
      exact this
    obtain ⟨b1, b2⟩ := tail_at r (fun q hq' => hq q (List.mem_cons_of_mem _ hq')) h2
    have a2 : endEl (i + 1) x = i + 1 + X.length := a2
    refine ⟨⟨⟨_, Std.head h⟩, a1, by rw [a2]; exact b1⟩, ?_⟩
    show endT (endEl (i + 1) x) (r.map (·.1)) = i + ((kw "," :: X) ++ tailTk (r.map (·.2))).length + 1
    rw [a2, b2, List.length_append, List.length_cons]
    omega
theorem listed_at {ts : List Tok3} {l : List (El × List Tk)} {i : Nat} {post : List Tk} (hq : ∀ q ∈ l, ElStd q.1 q.2) (h : Std ts i (lsTk (l.map (·.2))) post) : ListedAt ts i (l.map (·.1)) ∧ endListed i (l.map (·.1)) = i + (lsTk (l.map (·.2))).length := by
  cases l with
  | nil => exact ⟨⟨⟨_, h.head⟩, _, h.tail.head⟩, rfl⟩
  | cons q r =>
    obtain ⟨x, X⟩ := q
    have e : lsTk (((x, X) :: r).map (·.2)) = kw "(" :: (X ++ (tailTk (r.map (·.2)) ++ [kw ")"])) := by
      show kw "(" :: (jTk (X :: r.map (·.2)) ++ [kw ")"]) = _
      rw [jTk_cons, List.append_assoc]
    rw [e] at h ⊢
    have hx := h.tail.left
    obtain ⟨k, p, post', e', hk⟩ : ∃ k p post', (tailTk (r.map (·.2)) ++ [kw ")"]) ++ post = (k, p) :: post' ∧ EndTok k := by
      cases r with
      | nil => exact ⟨_, _, _, rfl, br_ok⟩
      | cons y r => exact ⟨_, _, _, rfl, co_ok⟩
    rw [e'] at hx
    obtain ⟨a1, a2⟩ := hq (x, X) List.mem_cons_self ts (i + 1) k p post' hk hx
    have a2 : endEl (i + 1) x = i + 1 + X.length := a2
    obtain ⟨b1, b2⟩ := tail_at r (fun q hq' => hq q (List.mem_cons_of_mem _ hq')) h.tail.skip
    refine ⟨⟨⟨_, h.head⟩, a1, by rw [a2]; exact b1⟩, ?_⟩
    show endT (endEl (i + 1) x) (r.map (·.1)) = _
    rw [a2, b2, List.length_cons, List.length_append, List.length_append, List.length_singleton]
    omega
theorem call_at {ts : List Tok3} {f : Str} {as : List Ar} {i : Nat} {post : List Tk} (ha : ArsOk as) (h : Std ts i (callTk f as) post) : CallAt ts i f (as.map toA) ∧ endListed (i + 1) (as.map toA) = i + (callTk f as).length := by
  have e1 : (as.map fun x => (toA x, aTk x)).map (·.1) = as.map toA := by rw [List.map_map]; rfl
  have e2 : (as.map fun x => (toA x, aTk x)).map (·.2) = as.map aTk := by rw [List.map_map]; rfl
  have := listed_at (ts := ts) (l := as.map fun x => (toA x, aTk x)) (i := i + 1) (post := post) (fun q hq => by
    obtain ⟨x, hx, rfl⟩ := List.mem_map.mp hq
    exact ar_std (ha.ok x hx)) (by rw [e2]; exact h.tail)
  rw [e1, e2] at this
  refine ⟨⟨h.head, this.1, fun e he => ?_, by rw [List.length_map]; exact Nat.le_trans ha.len (by decide)⟩, ?_⟩
  · obtain ⟨x, _, rfl⟩ := List.mem_map.mp he
    cases x <;> rfl
  · rw [this.2]
    show _ = i + (lsTk (as.map aTk)).length.succ
    omega
theorem names_get : ∀ (ns : List Str) (j : Nat), (∀ v, ns[j]? = some v → (nsTk ns)[2 * j]? = some (tk "NAME" v)) ∧ (j + 1 < ns.length → (nsTk ns)[2 * j + 1]? = some (kw ","))
  | [], j => ⟨fun v h => by simp at h, fun h => by simp at h⟩
  | [x], 0 => ⟨fun v h => by cases h; rfl, fun h => by simp at h⟩
  | [x], j + 1 => ⟨fun v h => by simp at h, fun h => by simp at h⟩
  | x :: y :: r, 0 => ⟨fun v h => by cases h; rfl, fun _ => rfl⟩
  | x :: y :: r, j + 1 => by
    have ih := names_get (y :: r) j
    have e : nsTk (x :: y :: r) = tk "NAME" x :: kw "," :: nsTk (y :: r) := rfl
    refine ⟨fun v h => ?_, fun h => ?_⟩
    · rw [e, show 2 * (j + 1) = 2 * j + 1 + 1 by omega, List.getElem?_cons_succ, List.getElem?_cons_succ]
      exact ih.1 v h
    · rw [e, show 2 * (j + 1) + 1 = 2 * j + 1 + 1 + 1 by omega, List.getElem?_cons_succ, List.getElem?_cons_succ]
      exact ih.2 (by rw [List.length_cons] at h; omega)
theorem ns_num : ∀ {ns : List Str}, ns ≠ [] → (nsTk ns).length = 2 * ns.length - 1
  | [], h => absurd rfl h
  | [_], _ => rfl
  | x :: y :: r, _ => by
    have ih := ns_num (ns := y :: r) (List.cons_ne_nil _ _)
    show (nsTk (y :: r)).length + 1 + 1 = _
    rw [ih, List.length_cons (a := x)]
    rw [List.length_cons]
    omega
theorem names_at {ts : List Tok3} {ns : List Str} {i : Nat} {k p : Str} {post : List Tk} (h0 : ns ≠ []) (hn : NsOk ns) (hk : k ≠ ",") (h : Std ts i (nsTk ns) ((k, p) :: post)) : NamesAt ts i ns ∧ i + (nsTk ns).length = i + 2 * ns.length - 1 := by
  have hp := pos_len h0
  have hl := ns_num h0
  have get : ∀ {j : Nat} {q : Tk}, (nsTk ns)[j]? = some q → At ts (i + j) q.1 q.2 := fun {j q} e => by
    obtain ⟨pre, rfl, e1⟩ := h
    have hj := (List.getElem?_eq_some_iff.mp e).1
    apply at_kp
    rw [e1, List.getElem?_append_right (Nat.le_add_right _ _), Nat.add_sub_cancel_left, List.getElem?_append_left hj]
    exact e
  refine ⟨⟨fun j v hv => get ((names_get ns j).1 v hv), fun j hj => ⟨_, get ((names_get ns j).2 hj)⟩, hp, Nat.le_trans hn.len (by decide), k, p, ?_, hk⟩, by omega⟩
  have := h.post
  rw [hl] at this
  rw [show i + 2 * ns.length - 1 = i + (2 * ns.length - 1) by omega]
  exact this
end K3
namespace K3
open PySem PySem.Spec PyProof.Rows L2 TL
/-! ### statements, blocks, handlers -/
structure Nx (k : Str) : Prop where
  e : EndTok k
  c : ¬ k = ","
  b : ¬ k = "("
structure Fol (k : Str) : Prop where
  nx : Nx k
  el : ¬ k = "else"
  fi : ¬ k = "finally"
  ex : ¬ k = "except"
theorem nx_of {k : Str} (h : ((!decide (k = "+")) && (!decide (k = "-")) && (!decide (k = "*")) && (!decide (k = ",")) && (!decide (k = "("))) = true) : Nx k := by
  simp only [Bool.and_eq_true, Bool.not_eq_true', decide_eq_false_iff_not] at h
  obtain ⟨⟨⟨⟨a, b⟩, c⟩, d⟩, e⟩ := h
  exact ⟨⟨a, b, c⟩, d, e⟩
theorem fol_of {k : Str} (h : Nx k) (h2 : ((!decide (k = "else")) && (!decide (k = "finally")) && (!decide (k = "except"))) = true) : Fol k := by
  simp only [Bool.and_eq_true, Bool.not_eq_true', decide_eq_false_iff_not] at h2
  obtain ⟨⟨a, b⟩, c⟩ := h2
  exact ⟨h, a, b, c⟩
theorem fol_name : Fol "NAME" := fol_of (nx_of (by decide +kernel)) (by decide +kernel)
theorem fol_close : Fol "}" := fol_of (nx_of (by decide +kernel)) (by decide +kernel)
theorem fol_if : Fol "if" := fol_of (nx_of (by decide +kernel)) (by decide +kernel)
theorem fol_while : Fol "while" := fol_of (nx_of (by decide +kernel)) (by decide +kernel)
theorem fol_undo : Fol "undo" := fol_of (nx_of (by decide +kernel)) (by decide +kernel)
theorem fol_try : Fol "try" := fol_of (nx_of (by decide +kernel)) (by decide +kernel)
theorem fol_with : Fol "with" := fol_of (nx_of (by decide +kernel)) (by decide +kernel)
theorem fol_risk : Fol "risk" := fol_of (nx_of (by decide +kernel)) (by decide +kernel)
theorem fol_raise : Fol "raise" := fol_of (nx_of (by decide +kernel)) (by decide +kernel)
theorem fol_ret : Fol "return" := fol_of (nx_of (by decide +kernel)) (by decide +kernel)
theorem nb_name : ¬ ("NAME" : Str) = "(" := by decide +kernel
theorem nb_num : ¬ ("NUMBER" : Str) = "(" := by decide +kernel
theorem nb_star : ¬ ("*" : Str) = "(" := by decide +kernel
theorem nb_plus : ¬ ("+" : Str) = "(" := by decide +kernel
theorem nb_minus : ¬ ("-" : Str) = "(" := by decide +kernel
theorem tm_nb (t : Tm3) : ∀ x ∈ tmToks t, ¬ x.1 = "(" := by
  intro x hx
  cases t with
  | nm v =>
    rw [List.mem_singleton.mp hx]
    exact nb_name
  | nu d n =>
    rw [List.mem_singleton.mp hx]
    exact nb_num
  | pr d n v =>
    have hx' : x ∈ [tk "NUMBER" d, tk "*" "*", tk "NAME" v] := hx
    simp only [List.mem_cons, List.not_mem_nil, or_false] at hx'
    rcases hx' with rfl | rfl | rfl
    · exact nb_num
    · exact nb_star
    · exact nb_name
theorem rest_nb : ∀ (r : List Item), ∀ x ∈ restToks r, ¬ x.1 = "("
  | [], x, hx => by cases hx
  | (b, t) :: r, x, hx => by
    rcases List.mem_cons.mp hx with rfl | hx
    · cases b
      · exact nb_plus
      · exact nb_minus
    · rcases List.mem_append.mp hx with hx | hx
      · exact tm_nb t x hx
      · exact rest_nb r x hx
theorem tm_pos (t : Tm3) : 0 < (tmToks t).length := by
  cases t with
  | nm _ => exact (by decide : 0 < 1)
  | nu _ _ => exact (by decide : 0 < 1)
  | pr _ _ _ => exact (by decide : 0 < 3)
theorem ex_nb : ∀ (its : List Item), ∀ x ∈ exprToks its, ¬ x.1 = "("
  | [], x, hx => by cases hx
  | (b, t) :: r, x, hx => by
    rcases List.mem_append.mp hx with hx | hx
    · split at hx
      · rw [List.mem_singleton.mp hx]
        exact nb_minus
      · cases hx
    · rcases List.mem_append.mp hx with hx | hx
      · exact tm_nb t x hx
      · exact rest_nb r x hx
theorem eTk_pos (e : Ex) : 0 < (eTk e).length := by
  unfold eTk
  rw [nfI_is]
  show 0 < (_ ++ (tmToks _ ++ _)).length
  have := tm_pos (hdI e).2
  rw [List.length_append, List.length_append]
  omega
/-- the token behind the first of a sum -/
theorem ex_second {ts : List Tok3} {i : Nat} {e : Ex} {k p : Str} {post : List Tk} (hk : ¬ k = "(") (hs : Std ts i (eTk e) ((k, p) :: post)) : ∃ k p, At ts (i + 1) k p ∧ ¬ k = "(" := by
  have hp := eTk_pos e
  cases h : eTk e with
  | nil => rw [h] at hp; cases hp
  | cons x r =>
    rw [h] at hs
    cases r with
    | nil => exact ⟨k, p, hs.post, hk⟩
    | cons y r =>
      refine ⟨y.1, y.2, hs.tail.head, ex_nb (nfI e) y ?_⟩
      show y ∈ eTk e
      rw [h]
      exact List.mem_cons_of_mem _ List.mem_cons_self
theorem pl_at {ts : List Tok3} {s : P0} {i : Nat} {k p : Str} {post : List Tk} (ok : P0Ok s) (hk : Nx k) (h : Std ts i (pTk s) ((k, p) :: post)) : PlAt ts i (toP s) ∧ endPlS i (toP s) = i + (pTk s).length := by
  cases s with
  | set v e =>
    have h2 : Std ts (i + 1 + 1) (eTk e) ((k, p) :: post) := h.tail.tail
    obtain ⟨a, b, c⟩ := ex_at ok.2 hk.e h2
    refine ⟨⟨h.head, h.tail.head, a, c, ex_second hk.b h2⟩, ?_⟩
    show endE (i + 2) _ _ _ = i + ((eTk e).length + 1 + 1)
    rw [b]
    omega
  | inp v => exact ⟨⟨h.head, h.tail.head, h.tail.tail.head⟩, rfl⟩
  | call t f as =>
    cases t with
    | none => exact call_at ok.2.2 h
    | some t =>
      obtain ⟨a, b⟩ := call_at ok.2.2 (show Std ts (i + 1 + 1) (callTk f as) ((k, p) :: post) from h.tail.tail)
      refine ⟨⟨h.head, h.tail.head, a⟩, ?_⟩
      show endListed (i + 3) _ = i + ((callTk f as).length + 1 + 1)
      rw [show i + 3 = i + 1 + 1 + 1 from rfl, b]
      omega
  | risk ks =>
    obtain ⟨a, b⟩ := names_at ok.1 ok.2 hk.c h.tail
    refine ⟨⟨⟨_, h.head⟩, a⟩, ?_⟩
    show i + 1 + 2 * ks.length - 1 = i + ((nsTk ks).length + 1)
    omega
  | rse k => exact ⟨⟨⟨_, h.head⟩, h.tail.head⟩, rfl⟩
  | ret e =>
    obtain ⟨a, b, c⟩ := ex_at ok hk.e h.tail
    refine ⟨⟨⟨_, h.head⟩, a, c⟩, ?_⟩
    show endE (i + 1) _ _ _ = i + ((eTk e).length + 1)
    rw [b]
    omega
theorem pTk_first (p : P0) : ∃ k q r, pTk p = (k, q) :: r ∧ Fol k := by
  cases p with
  | set v e => exact ⟨_, _, _, rfl, fol_name⟩
  | inp v => exact ⟨_, _, _, rfl, fol_name⟩
  | call t f as =>
    cases t with
    | none => exact ⟨_, _, _, rfl, fol_name⟩
    | some t => exact ⟨_, _, _, rfl, fol_name⟩
  | risk ks => exact ⟨_, _, _, rfl, fol_risk⟩
  | rse k => exact ⟨_, _, _, rfl, fol_raise⟩
  | ret e => exact ⟨_, _, _, rfl, fol_ret⟩
theorem sTk_first (s : TS) : ∃ k q r, sTk s = (k, q) :: r ∧ Fol k := by
  cases s with
  | pl p => exact pTk_first p
  | iff x y => exact ⟨_, _, _, rfl, fol_if⟩
  | whl x => exact ⟨_, _, _, rfl, fol_while⟩
  | undo vs x => exact ⟨_, _, _, rfl, fol_undo⟩
  | tr x hs y => exact ⟨_, _, _, rfl, fol_try⟩
  | wth f as g bs ks x => exact ⟨_, _, _, rfl, fol_with⟩
theorem bTk_first (x : TB) : ∃ k q r, bTk x = (k, q) :: r ∧ Fol k := by
  cases x with
  | nil => exact ⟨_, _, _, rfl, fol_close⟩
  | cons s r =>
    obtain ⟨k, q, r', e, h⟩ := sTk_first s
    exact ⟨k, q, r' ++ bTk r, by show sTk s ++ bTk r = _; rw [e]; rfl, h⟩
theorem blk_len2 : ∀ x : TB, (toB x).len = x.L.length
  | .nil => rfl
  | .cons s r => by show (toB r).len + 1 = _; rw [blk_len2 r]; rfl
theorem hds_len2 : ∀ x : TH, (toH x).len = x.L.length
  | .nil => rfl
  | .cons ks x r => by show (toH r).len + 1 = _; rw [hds_len2 r]; rfl
theorem L_sz (x : TB) : x.L.length ≤ x.sz := by
  have h := TB.n_le x
  rw [dB_of, DL.n_of, List.length_map] at h
  exact h
theorem nil_of {x : TB} (h : x.L.isEmpty = true) : x = .nil := by
  cases x with
  | nil => rfl
  | cons _ _ => cases h
theorem hnil_of {x : TH} (h : x.L.isEmpty = true) : x = .nil := by
  cases x with
  | nil => rfl
  | cons _ _ _ => cases h
theorem op_co : ("{" : Str) ≠ "," := by decide +kernel
mutual
theorem s_at : ∀ {s : TS} {ts : List Tok3} {i : Nat} {k p : Str} {post : List Tk}, s.Ok → s.sz ≤ 1000 → Fol k → Std ts i (sTk s) ((k, p) :: post) → StmAt ts i (toS s) ∧ endStm i (toS s) = i + (sTk s).length
  | .pl s, ts, i, k, p, post, ok, _, hk, h => pl_at ok hk.nx h
  | .iff x y, ts, i, k, p, post, ⟨o1, o2⟩, hz, hk, h => by
    have hz' : x.sz + y.sz + 1 ≤ 1000 := hz
    have h2 := h.tail.tail
    obtain ⟨a1, a2⟩ := b_at o1 (by omega) h2.left
    have l1 := L_sz x
    have l2 := L_sz y
    cases hy : y.L.isEmpty with
    | true =>
      have : y = .nil := nil_of hy
      subst this
      have h3 : Std ts (i + 1 + 1) (bTk x) ((k, p) :: post) := by
        have := h2
        rw [if_pos hy, List.append_nil] at this
        exact this
      refine ⟨⟨⟨_, h.head⟩, ⟨_, h.tail.head⟩, by rw [blk_len2]; omega, a1, rfl, k, p, ?_, hk.el⟩, ?_⟩
      · rw [show i + 2 = i + 1 + 1 from rfl, a2]
        exact h3.post
      · show endBody (i + 2) (toB x) = i + (kw "if" :: kw "{" :: (bTk x ++ [])).length
        rw [show i + 2 = i + 1 + 1 from rfl, a2, List.append_nil, List.length_cons, List.length_cons]
        omega
    | false =>
      have ey : ¬ y.L.isEmpty = true := by rw [hy]; exact Bool.false_ne_true
      have h3 : Std ts (i + 1 + 1 + (bTk x).length) (kw "else" :: kw "{" :: bTk y) ((k, p) :: post) := by
        have := h2.skip
        rw [if_neg ey] at this
        exact this
      obtain ⟨b1, b2⟩ := b_at o2 (by omega) h3.tail.tail
      have e1 : toS (.iff x y) = .iff (toB x) true (toB y) := by
        show Stm.iff (toB x) (!y.L.isEmpty) (toB y) = _
        rw [hy]
        rfl
      rw [e1]
      refine ⟨⟨⟨_, h.head⟩, ⟨_, h.tail.head⟩, by rw [blk_len2]; omega, a1, ?_, ?_, by rw [blk_len2]; omega, ?_⟩, ?_⟩
      · rw [show i + 2 = i + 1 + 1 from rfl, a2]
        exact ⟨_, h3.head⟩
      · rw [show i + 2 = i + 1 + 1 from rfl, a2]
        exact ⟨_, h3.tail.head⟩
      · rw [show i + 2 = i + 1 + 1 from rfl, a2]
        exact b1
      · show endBody (endBody (i + 2) (toB x) + 2) (toB y) = i + (kw "if" :: kw "{" :: (bTk x ++ if y.L.isEmpty = true then [] else kw "else" :: kw "{" :: bTk y)).length
        rw [if_neg ey, show i + 2 = i + 1 + 1 from rfl, a2, show i + 1 + 1 + (bTk x).length + 2 = i + 1 + 1 + (bTk x).length + 1 + 1 from rfl, b2]
        simp only [List.length_cons, List.length_append]
        omega
  | .whl x, ts, i, k, p, post, o1, hz, hk, h => by
    have hz' : x.sz + 1 ≤ 1000 := hz
    obtain ⟨a1, a2⟩ := b_at o1 (by omega) h.tail.tail
    have l1 := L_sz x
    refine ⟨⟨⟨_, h.head⟩, ⟨_, h.tail.head⟩, by rw [blk_len2]; omega, a1⟩, ?_⟩
    show endBody (i + 1 + 1) (toB x) = i + (kw "while" :: kw "{" :: bTk x).length
    rw [a2, List.length_cons, List.length_cons]
    omega
  | .undo vs x, ts, i, k, p, post, ⟨o0, o1, o2⟩, hz, hk, h => by
    have hz' : x.sz + 1 ≤ 1000 := hz
    have h2 := h.tail
    obtain ⟨n1, n2⟩ := names_at o0 o1 op_co h2.left
    have h3 := h2.skip
    obtain ⟨a1, a2⟩ := b_at o2 (by omega) h3.tail
    have l1 := L_sz x
    rw [n2] at h3 a1 a2
    refine ⟨⟨⟨_, h.head⟩, n1, ⟨_, h3.head⟩, by rw [blk_len2]; omega, a1⟩, ?_⟩
    show endBody (i + 1 + 2 * vs.length - 1 + 1) (toB x) = i + (kw "undo" :: (nsTk vs ++ kw "{" :: bTk x)).length
    rw [a2]
    simp only [List.length_cons, List.length_append]
    omega
  | .tr x hs y, ts, i, k, p, post, ⟨o1, ol, o2, o3⟩, hz, hk, h => by
    have hz' : x.sz + hs.sz + y.sz + 1 ≤ 1000 := hz
    have h2 := h.tail.tail
    obtain ⟨a1, a2⟩ := b_at o1 (by omega) h2.left
    have h3 := h2.skip
    obtain ⟨c1, c2⟩ := h_at o2 (by omega) h3.left
    have l1 := L_sz x
    have l2 := L_sz y
    cases hy : (!y.L.isEmpty || hs.L.isEmpty) with
    | true =>
      have h4 : Std ts (i + 1 + 1 + (bTk x).length + (hTk hs).length) (kw "finally" :: kw "{" :: bTk y) ((k, p) :: post) := by
        have := h3.skip
        rw [if_pos hy] at this
        exact this
      obtain ⟨b1, b2⟩ := b_at o3 (by omega) h4.tail.tail
      have e1 : toS (.tr x hs y) = .tr (toB x) (toH hs) true (toB y) := by
        show Stm.tr (toB x) (toH hs) (!y.L.isEmpty || hs.L.isEmpty) (toB y) = _
        rw [hy]
      rw [e1]
      have ea : endHds (endBody (i + 2) (toB x)) (toH hs) = i + 1 + 1 + (bTk x).length + (hTk hs).length := by rw [show i + 2 = i + 1 + 1 from rfl, a2, c2]
      refine ⟨⟨⟨_, h.head⟩, ⟨_, h.tail.head⟩, by rw [blk_len2]; omega, a1, by rw [hds_len2]; omega, ?_, ?_, ?_, by rw [blk_len2]; omega, ?_⟩, ?_⟩
      · rw [show i + 2 = i + 1 + 1 from rfl, a2]
        exact c1
      · rw [ea]
        exact ⟨_, h4.head⟩
      · rw [ea]
        exact ⟨_, h4.tail.head⟩
      · rw [ea]
        exact b1
      · show endBody (endHds (endBody (i + 2) (toB x)) (toH hs) + 2) (toB y) = i + (kw "try" :: kw "{" :: (bTk x ++ (hTk hs ++ if (!y.L.isEmpty || hs.L.isEmpty) = true then kw "finally" :: kw "{" :: bTk y else []))).length
        rw [if_pos hy, ea, show i + 1 + 1 + (bTk x).length + (hTk hs).length + 2 = i + 1 + 1 + (bTk x).length + (hTk hs).length + 1 + 1 from rfl, b2]
        simp only [List.length_cons, List.length_append]
        omega
    | false =>
      rw [Bool.or_eq_false_iff] at hy
      have ey : y = .nil := nil_of (by
        cases z : y.L.isEmpty with
        | true => rfl
        | false => rw [z] at hy; cases hy.1)
      subst ey
      have eh : toH hs ≠ .nil := by
        cases hs with
        | nil => cases hy.2
        | cons _ _ _ => exact fun z => by cases z
      have en : ¬ (!TB.nil.L.isEmpty || hs.L.isEmpty) = true := by
        rw [hy.2]
        exact Bool.false_ne_true
      have h4 : Std ts (i + 1 + 1 + (bTk x).length) (hTk hs) ((k, p) :: post) := by
        have := h3
        rw [if_neg en, List.append_nil] at this
        exact this
      have e1 : toS (.tr x hs .nil) = .tr (toB x) (toH hs) false .nil := by
        show Stm.tr (toB x) (toH hs) (!TB.nil.L.isEmpty || hs.L.isEmpty) .nil = _
        rw [hy.2]
        rfl
      rw [e1]
      have ea : endHds (endBody (i + 2) (toB x)) (toH hs) = i + 1 + 1 + (bTk x).length + (hTk hs).length := by rw [show i + 2 = i + 1 + 1 from rfl, a2, c2]
      refine ⟨⟨⟨_, h.head⟩, ⟨_, h.tail.head⟩, by rw [blk_len2]; omega, a1, by rw [hds_len2]; omega, ?_, eh, rfl, k, p, ?_, hk.fi, hk.ex⟩, ?_⟩
      · rw [show i + 2 = i + 1 + 1 from rfl, a2]
        exact c1
      · rw [ea]
        exact h4.post
      · show endHds (endBody (i + 2) (toB x)) (toH hs) = i + (kw "try" :: kw "{" :: (bTk x ++ (hTk hs ++ if (!TB.nil.L.isEmpty || hs.L.isEmpty) = true then kw "finally" :: kw "{" :: bTk .nil else []))).length
        rw [if_neg en, ea, List.append_nil]
        simp only [List.length_cons, List.length_append]
        omega
  | .wth f as g bs ks x, ts, i, k, p, post, ⟨o1, o2, o3, o4, o5, o6⟩, hz, hk, h => by
    have hz' : x.sz + 1 ≤ 1000 := hz
    have l1 := L_sz x
    have h2 := h.tail
    obtain ⟨a1, a2⟩ := call_at o2 h2.left
    have h3 := h2.skip
    obtain ⟨b1, b2⟩ := call_at o4 h3.tail.left
    have h4 := h3.tail.skip
    have a2 : endListed (i + 2) (as.map toA) = i + 1 + (callTk f as).length := a2
    have b2 : endListed (i + 1 + (callTk f as).length + 2) (bs.map toA) = i + 1 + (callTk f as).length + 1 + (callTk g bs).length := b2
    cases hks : ks.isEmpty with
    | true =>
      have ek : ks = [] := List.isEmpty_iff.mp hks
      subst ek
      have h5 : Std ts (i + 1 + (callTk f as).length + 1 + (callTk g bs).length) (kw "{" :: bTk x) ((k, p) :: post) := h4
      obtain ⟨c1, c2⟩ := b_at o6 (by omega) h5.tail
      refine ⟨⟨⟨_, h.head⟩, a1, ?_, ?_, rfl, ?_, by rw [blk_len2]; omega, ?_⟩, ?_⟩
      · rw [a2]
        exact ⟨_, h3.head⟩
      · rw [a2]
        exact b1
      · rw [a2, b2]
        exact ⟨_, h5.head⟩
      · rw [a2, b2]
        exact c1
      · show endBody (endListed (endListed (i + 2) (as.map toA) + 2) (bs.map toA) + 1) (toB x) = i + (kw "with" :: (callTk f as ++ kw "," :: (callTk g bs ++ ([] ++ kw "{" :: bTk x)))).length
        rw [a2, b2, c2]
        simp only [List.length_cons, List.length_append, List.length_nil]
        omega
    | false =>
      have ek : ks ≠ [] := fun z => by rw [z] at hks; cases hks
      have en : ¬ ks.isEmpty = true := by rw [hks]; exact Bool.false_ne_true
      have h5 : Std ts (i + 1 + (callTk f as).length + 1 + (callTk g bs).length) (kw "swallow" :: (nsTk ks ++ kw "{" :: bTk x)) ((k, p) :: post) := by
        have := h4
        rw [if_neg en] at this
        exact this
      obtain ⟨n1, n2⟩ := names_at ek o5 op_co h5.tail.left
      have h6 := h5.tail.skip
      obtain ⟨c1, c2⟩ := b_at o6 (by omega) h6.tail
      rw [n2] at h6 c1 c2
      have e1 : toS (.wth f as g bs ks x) = .wth f (as.map toA) g (bs.map toA) true ks (toB x) := by
        show Stm.wth f (as.map toA) g (bs.map toA) (!ks.isEmpty) ks (toB x) = _
        rw [hks]
        rfl
      rw [e1]
      refine ⟨⟨⟨_, h.head⟩, a1, ?_, ?_, ?_, ?_, ?_, by rw [blk_len2]; omega, ?_⟩, ?_⟩
      · rw [a2]
        exact ⟨_, h3.head⟩
      · rw [a2]
        exact b1
      · rw [a2, b2]
        exact ⟨_, h5.head⟩
      · rw [a2, b2]
        exact n1
      · rw [a2, b2]
        exact ⟨_, h6.head⟩
      · rw [a2, b2]
        exact c1
      · show endBody (endListed (endListed (i + 2) (as.map toA) + 2) (bs.map toA) + 1 + 2 * ks.length - 1 + 1) (toB x) = i + (kw "with" :: (callTk f as ++ kw "," :: (callTk g bs ++ ((if ks.isEmpty = true then [] else kw "swallow" :: nsTk ks) ++ kw "{" :: bTk x)))).length
        rw [if_neg en, a2, b2, c2]
        simp only [List.length_cons, List.length_append]
        omega
theorem b_at : ∀ {x : TB} {ts : List Tok3} {i : Nat} {post : List Tk}, x.Ok → x.sz ≤ 1000 → Std ts i (bTk x) post → BodyAt ts i (toB x) ∧ endBody i (toB x) = i + (bTk x).length
  | .nil, ts, i, post, _, _, h => ⟨⟨_, h.head⟩, rfl⟩
  | .cons s r, ts, i, post, ⟨o1, o2⟩, hz, h => by
    have hz' : s.sz + r.sz ≤ 1000 := hz
    have h1 : Std ts i (sTk s) (bTk r ++ post) := Std.left (X := sTk s) (Y := bTk r) h
    obtain ⟨k, q, r', e, hk⟩ := bTk_first r
    have h2 : Std ts (i + (sTk s).length) (bTk r) post := Std.skip (X := sTk s) (Y := bTk r) h
    rw [e] at h1
    obtain ⟨a1, a2⟩ := s_at o1 (by omega) hk h1
    obtain ⟨b1, b2⟩ := b_at o2 (by omega) h2
    refine ⟨⟨a1, by rw [a2]; exact b1⟩, ?_⟩
    show endBody (endStm i (toS s)) (toB r) = i + (sTk s ++ bTk r).length
    rw [a2, b2, List.length_append]
    omega
theorem h_at : ∀ {x : TH} {ts : List Tok3} {i : Nat} {post : List Tk}, x.Ok → x.sz ≤ 1000 → Std ts i (hTk x) post → HdsAt ts i (toH x) ∧ endHds i (toH x) = i + (hTk x).length
  | .nil, ts, i, post, _, _, h => ⟨trivial, rfl⟩
  | .cons ks x r, ts, i, post, ⟨o0, o1, o2, o3⟩, hz, h => by
    have hz' : x.sz + r.sz ≤ 1000 := hz
    have l1 := L_sz x
    have h0 : Std ts i (kw "except" :: (nsTk ks ++ kw "{" :: (bTk x ++ hTk r))) post := h
    have h2 := h0.tail
    obtain ⟨n1, n2⟩ := names_at o0 o1 op_co h2.left
    have h3 := h2.skip
    obtain ⟨a1, a2⟩ := b_at o2 (by omega) h3.tail.left
    obtain ⟨b1, b2⟩ := h_at o3 (by omega) h3.tail.skip
    rw [n2] at h3 a1 a2 b1 b2
    refine ⟨⟨⟨_, h0.head⟩, n1, ⟨_, h3.head⟩, by rw [blk_len2]; omega, a1, by rw [a2]; exact b1⟩, ?_⟩
    show endHds (endBody (i + 1 + 2 * ks.length - 1 + 1) (toB x)) (toH r) = i + (kw "except" :: (nsTk ks ++ kw "{" :: (bTk x ++ hTk r))).length
    rw [a2, b2]
    simp only [List.length_cons, List.length_append]
    omega
end
end K3
namespace K3
open PySem PySem.Spec PyProof.Rows L2 TL
/-! ### what was read is the law's data -/
theorem contrib_itm {p : Str × Int} (h : p.2 ≠ 0) : contrib (itm p) = p.2 ∧ (itm p).2.name = some p.1 := by
  obtain ⟨v, f⟩ := p
  unfold itm contrib sgn ab
  dsimp only at h ⊢
  by_cases h0 : f < 0
  · rw [decide_eq_true h0, if_pos rfl, if_pos h0]
    split
    · refine ⟨?_, rfl⟩
      show (-1) * (1 : Int) = f
      omega
    · refine ⟨?_, rfl⟩
      show (-1) * (-f) = f
      omega
  · rw [decide_eq_false h0, if_neg Bool.false_ne_true, if_neg h0]
    split
    · refine ⟨?_, rfl⟩
      show 1 * (1 : Int) = f
      omega
    · refine ⟨?_, rfl⟩
      show 1 * f = f
      omega
theorem contrib_itc (c : Int) : contrib (itc c) = c ∧ (itc c).2.name = none := by
  refine ⟨?_, rfl⟩
  unfold itc contrib sgn ab
  dsimp only
  by_cases h0 : c < 0
  · rw [decide_eq_true h0, if_pos rfl, if_pos h0]
    show (-1) * (-c) = c
    omega
  · rw [decide_eq_false h0, if_neg Bool.false_ne_true, if_neg h0]
    show 1 * c = c
    omega
theorem nsum_nil (o : Option Str) : nsum o [] = 0 := rfl
theorem nsum_cons (o : Option Str) (x : Item) (l : List Item) : nsum o (x :: l) = (if x.2.name = o then contrib x else 0) + nsum o l := by
  unfold nsum
  rw [List.map_cons, List.sum_cons]
theorem nsum_append (o : Option Str) : ∀ (l m : List Item), nsum o (l ++ m) = nsum o l + nsum o m
  | [], m => by rw [List.nil_append, nsum_nil, Int.zero_add]
  | x :: l, m => by rw [List.cons_append, nsum_cons, nsum_cons, nsum_append o l m, Int.add_assoc]
theorem nsum_itms_none : ∀ {l : List (Str × Int)}, (∀ p ∈ l, p.2 ≠ 0) → nsum none (l.map itm) = 0
  | [], _ => rfl
  | p :: l, h => by
    have h1 := contrib_itm (h p List.mem_cons_self)
    rw [List.map_cons, nsum_cons, h1.2, if_neg (by simp), nsum_itms_none fun q hq => h q (List.mem_cons_of_mem _ hq)]
    rfl
theorem nsum_itms_no {v : Str} : ∀ {l : List (Str × Int)}, (∀ p ∈ l, p.2 ≠ 0 ∧ p.1 ≠ v) → nsum (some v) (l.map itm) = 0
  | [], _ => rfl
  | p :: l, h => by
    have h1 := contrib_itm (h p List.mem_cons_self).1
    rw [List.map_cons, nsum_cons, h1.2, if_neg (fun z => (h p List.mem_cons_self).2 (Option.some.inj z)), nsum_itms_no fun q hq => h q (List.mem_cons_of_mem _ hq)]
    rfl
theorem nsum_itms : ∀ {l : List (Str × Int)}, (∀ p ∈ l, p.2 ≠ 0) → (l.map (·.1)).Nodup → ∀ q ∈ l, nsum (some q.1) (l.map itm) = q.2
  | [], _, _, q, hq => by cases hq
  | p :: l, h, hn, q, hq => by
    obtain ⟨n1, n2⟩ := List.nodup_cons.mp hn
    have h1 := contrib_itm (h p List.mem_cons_self)
    rw [List.map_cons, nsum_cons, h1.2]
    rcases List.mem_cons.mp hq with rfl | hq
    · rw [if_pos rfl, h1.1, nsum_itms_no fun r hr => ⟨h r (List.mem_cons_of_mem _ hr), fun z => n1 (List.mem_map.mpr ⟨r, hr, z⟩)⟩, Int.add_zero]
    · rw [if_neg (fun z => n1 (List.mem_map.mpr ⟨q, hq, (Option.some.inj z).symm⟩)), nsum_itms (fun r hr => h r (List.mem_cons_of_mem _ hr)) n2 q hq, Int.zero_add]
theorem lt_ne {a b : Str} (h : Lt a b) : a ≠ b := fun z => lt_irr a (by rw [← z] at h; exact h)
theorem rising_of : ∀ {l : List Str} {p : Str}, (∀ x ∈ l, Lt p x) → l.Pairwise Lt → risingS p l = true
  | [], _, _, _ => rfl
  | x :: r, p, h, hp => by
    obtain ⟨p1, p2⟩ := List.pairwise_cons.mp hp
    show (!ltCps x.cps.toList p.cps.toList && risingS x r) = true
    rw [rising_of p1 p2, ltCps_eq, decide_eq_false (show ¬ (x.cps.toList < p.cps.toList) from fun z => lt_asy _ _ (h x List.mem_cons_self) z)]
    rfl
theorem sorted_of {l : List Str} (h : l.Pairwise Lt) : sortedS l = true := by
  cases l with
  | nil => rfl
  | cons x r =>
    obtain ⟨p1, p2⟩ := List.pairwise_cons.mp h
    exact rising_of p1 p2
theorem nfI_sums {e : Ex} (h : ExOk e) : nsum none (nfI e) = e.1 ∧ termsOf (e.2.map (·.1)) (nfI e) = e.2 ∧ (∀ x ∈ nfI e, ∀ v, x.2.name = some v → v ∈ e.2.map (·.1)) := by
  have hz : ∀ p ∈ e.2, p.2 ≠ 0 := fun p hp => (h.nm p hp).2.1
  have hs : (e.2.map (·.1)).Pairwise Lt := by
    rw [List.pairwise_map]
    exact h.srt
  have hnd : (e.2.map (·.1)).Nodup := List.nodup_iff_pairwise_ne.mpr (hs.imp lt_ne)
  have tail : ∀ o, nsum o (if ((!decide (V.int e.1 = V.int 0)) || e.2.isEmpty) = true then [itc e.1] else []) = if o = none then (if ((!decide (V.int e.1 = V.int 0)) || e.2.isEmpty) = true then e.1 else 0) else 0 := by
    intro o
    split
    · rw [nsum_cons, nsum_nil, (contrib_itc e.1).2, (contrib_itc e.1).1, Int.add_zero]
      cases o with
      | none => rfl
      | some v => rw [if_neg (by simp), if_neg (by simp)]
    · rw [nsum_nil]
      split <;> rfl
  refine ⟨?_, ?_, ?_⟩
  · unfold nfI
    rw [nsum_append, nsum_itms_none hz, tail, if_pos rfl, Int.zero_add]
    split
    · rfl
    · rename_i hc
      have : V.int e.1 = V.int 0 := by
        cases z : decide (V.int e.1 = V.int 0) with
        | true => exact of_decide_eq_true z
        | false => rw [z] at hc; exact absurd rfl hc
      exact (V.int.inj this).symm
  · have e1 : ∀ q ∈ e.2, nsum (some q.1) (nfI e) = q.2 := fun q hq => by
      unfold nfI
      rw [nsum_append, nsum_itms hz hnd q hq, tail, if_neg (by simp), Int.add_zero]
    unfold termsOf
    rw [keep_all fun y hy => by
      obtain ⟨q, hq, rfl⟩ := List.mem_map.mp hy
      rw [e1 q hq, decide_eq_false fun z => hz q hq (V.int.inj z)]
      rfl]
    rw [List.map_map]
    conv => rhs; rw [← List.map_id e.2]
    refine List.map_congr_left fun q hq => ?_
    show (q.1, nsum (some q.1) (nfI e)) = q
    rw [e1 q hq]
  · intro x hx v hv
    unfold nfI at hx
    rcases List.mem_append.mp hx with hx | hx
    · obtain ⟨p, hp, rfl⟩ := List.mem_map.mp hx
      rw [(contrib_itm (hz p hp)).2] at hv
      exact List.mem_map.mpr ⟨p, hp, Option.some.inj hv⟩
    · split at hx
      · rw [List.mem_singleton.mp hx, (contrib_itc e.1).2] at hv
        cases hv
      · cases hx
theorem sum_dv {H : Hp} {pe : Addr} {e : Ex} (h : ExOk e) (hs : SumAt H pe (((hdI e).1, (hdI e).2) :: tlI e)) : Dv H (.ref pe) (dE e) := by
  rw [← nfI_is] at hs
  obtain ⟨pt, as, ks, ys, h1, h2, h3, h4, h5, h6, h7⟩ := hs
  obtain ⟨n1, n2, n3⟩ := nfI_sums h
  have hs : (e.2.map (·.1)).Pairwise Lt := by
    rw [List.pairwise_map]
    exact h.srt
  have hnd : (e.2.map (·.1)).Nodup := List.nodup_iff_pairwise_ne.mpr (hs.imp lt_ne)
  rw [terms_one h4 h5 h6 h7 (List.Perm.refl _) (sorted_of hs) hnd n3, n2] at h3
  rw [n1] at h1
  exact Dv.of_ex h1 h2 h3
theorem el_dv {H : Hp} {q : Addr} {x : Ar} (ok : ArOk x) (h : ElRep H q (toA x)) : Dv H (.ref q) (dA x) := by
  cases x with
  | pla v => exact ⟨q, _, rfl, h, _, _, rfl, rfl, _, _, rfl, rfl, rfl⟩
  | val e =>
    obtain ⟨pe, h1, h2⟩ := h
    exact ⟨q, _, rfl, h1, _, _, rfl, rfl, _, _, rfl, sum_dv ok h2, rfl⟩
theorem els_dv {H : Hp} : ∀ {as : List Ar} {qs : List Addr}, (∀ x ∈ as, ArOk x) → ElsRep H qs (as.map toA) → Dvs H (qs.map V.ref) (DL.of (as.map dA))
  | [], [], _, _ => rfl
  | [], _ :: _, _, h => h.elim
  | _ :: _, [], _, h => h.elim
  | x :: r, q :: qs, ok, h => ⟨_, _, rfl, el_dv (ok x List.mem_cons_self) h.1, els_dv (fun y hy => ok y (List.mem_cons_of_mem _ hy)) h.2⟩
theorem pas_dv {H : Hp} : ∀ {ps : List (Str × Bool)} {qs : List Addr}, ElsRep H qs (ps.map fun p => El.par p.1 p.2) → Dvs H (qs.map V.ref) (DL.of (ps.map dPa))
  | [], [], _ => rfl
  | [], _ :: _, h => h.elim
  | _ :: _, [], h => h.elim
  | p :: r, q :: qs, h => ⟨_, _, rfl, ⟨q, _, rfl, h.1, _, _, rfl, rfl, _, _, rfl, rfl, rfl⟩, pas_dv h.2⟩
theorem call_dv {H : Hp} {q : Addr} {f : Str} {as : List Ar} (ok : ArsOk as) (h : CallRep H q f (as.map toA)) : Dv H (.ref q) (dCall f as) := by
  obtain ⟨p, qs, h1, h2, h3⟩ := h
  exact ⟨q, _, rfl, h1, _, _, rfl, rfl, .ref p, _, rfl, ⟨p, _, rfl, h2, els_dv ok.ok h3⟩, rfl⟩
theorem pl_dv {H : Hp} {q : Addr} {p : P0} (ok : P0Ok p) (h : PlRep H q (toP p)) : Dv H (.ref q) (dP p) := by
  cases p with
  | set v e =>
    obtain ⟨pe, h1, h2⟩ := h
    exact ⟨q, _, rfl, h1, _, _, rfl, rfl, _, _, rfl, rfl, _, _, rfl, sum_dv ok.2 h2, rfl⟩
  | inp v => exact ⟨q, _, rfl, h, _, _, rfl, rfl, _, _, rfl, rfl, rfl⟩
  | call t f as =>
    obtain ⟨p, qs, h1, h2, h3⟩ := h
    have hd : Dv H (.ref p) (.tup (DL.of (as.map dA))) := ⟨p, _, rfl, h2, els_dv ok.2.2.ok h3⟩
    cases t with
    | none => exact ⟨q, _, rfl, h1, _, _, rfl, rfl, _, _, rfl, rfl, _, _, rfl, rfl, .ref p, _, rfl, hd, rfl⟩
    | some t => exact ⟨q, _, rfl, h1, _, _, rfl, rfl, _, _, rfl, rfl, _, _, rfl, rfl, .ref p, _, rfl, hd, rfl⟩
  | risk ks =>
    obtain ⟨p, h1, h2⟩ := h
    exact ⟨q, _, rfl, h1, _, _, rfl, rfl, .ref p, _, rfl, Dv.of_strs h2, rfl⟩
  | rse k => exact ⟨q, _, rfl, h, _, _, rfl, rfl, _, _, rfl, rfl, rfl⟩
  | ret e =>
    obtain ⟨pe, h1, h2⟩ := h
    exact ⟨q, _, rfl, h1, _, _, rfl, rfl, _, _, rfl, sum_dv ok h2, rfl⟩
mutual
theorem s_dv {H : Hp} : ∀ {s : TS} {q : Addr}, s.Ok → StmRep H q (toS s) → Dv H (.ref q) (dS s)
  | .pl p, q, ok, h => pl_dv ok h
  | .iff x y, q, ⟨o1, o2⟩, h => by
    obtain ⟨p1, p2, q1, q2, h0, ⟨a1, b1⟩, ⟨a2, b2⟩⟩ := h
    exact ⟨q, _, rfl, h0, _, _, rfl, rfl, .ref p1, _, rfl, ⟨p1, _, rfl, a1, b_dv o1 b1⟩, .ref p2, _, rfl, ⟨p2, _, rfl, a2, b_dv o2 b2⟩, rfl⟩
  | .whl x, q, o1, h => by
    obtain ⟨p1, q1, h0, ⟨a1, b1⟩⟩ := h
    exact ⟨q, _, rfl, h0, _, _, rfl, rfl, .ref p1, _, rfl, ⟨p1, _, rfl, a1, b_dv o1 b1⟩, rfl⟩
  | .undo vs x, q, ⟨_, _, o1⟩, h => by
    obtain ⟨p0, p1, q1, h0, hv, ⟨a1, b1⟩⟩ := h
    exact ⟨q, _, rfl, h0, _, _, rfl, rfl, .ref p0, _, rfl, Dv.of_strs hv, .ref p1, _, rfl, ⟨p1, _, rfl, a1, b_dv o1 b1⟩, rfl⟩
  | .tr x hs y, q, ⟨o1, _, o2, o3⟩, h => by
    obtain ⟨p1, p2, p3, q1, q2, q3, h0, ⟨a1, b1⟩, ⟨a2, b2⟩, ⟨a3, b3⟩⟩ := h
    exact ⟨q, _, rfl, h0, _, _, rfl, rfl, .ref p1, _, rfl, ⟨p1, _, rfl, a1, b_dv o1 b1⟩, .ref p2, _, rfl, ⟨p2, _, rfl, a2, h_dv o2 b2⟩, .ref p3, _, rfl, ⟨p3, _, rfl, a3, b_dv o3 b3⟩, rfl⟩
  | .wth f as g bs ks x, q, ⟨_, o1, _, o2, _, o3⟩, h => by
    obtain ⟨p1, p2, p3, p4, q4, h0, c1, c2, a3, ⟨a4, b4⟩⟩ := h
    exact ⟨q, _, rfl, h0, _, _, rfl, rfl, .ref p1, _, rfl, call_dv o1 c1, .ref p2, _, rfl, call_dv o2 c2, .ref p3, _, rfl, Dv.of_strs a3, .ref p4, _, rfl, ⟨p4, _, rfl, a4, b_dv o3 b4⟩, rfl⟩
theorem b_dv {H : Hp} : ∀ {x : TB} {qs : List Addr}, x.Ok → BodyRep H qs (toB x) → Dvs H (qs.map V.ref) (dB x)
  | .nil, qs, _, h => by rw [show qs = [] from h]; rfl
  | .cons s r, qs, ⟨o1, o2⟩, h => by
    obtain ⟨q, qs', e, h1, h2⟩ := h
    subst e
    exact ⟨_, _, rfl, s_dv o1 h1, b_dv o2 h2⟩
theorem h_dv {H : Hp} : ∀ {x : TH} {qs : List Addr}, x.Ok → HdsRep H qs (toH x) → Dvs H (qs.map V.ref) (dH x)
  | .nil, qs, _, h => by rw [show qs = [] from h]; rfl
  | .cons ks x r, qs, ⟨_, _, o1, o2⟩, h => by
    obtain ⟨q, qs', p0, p1, q1, e, h0, hk, ⟨a1, b1⟩, h2⟩ := h
    subst e
    exact ⟨_, _, rfl, ⟨q, _, rfl, h0, .ref p0, _, rfl, Dv.of_strs hk, .ref p1, _, rfl, ⟨p1, _, rfl, a1, b_dv o1 b1⟩, rfl⟩, h_dv o2 h2⟩
end
theorem fns_dv {H : Hp} : ∀ {fs : List FnT} {qs : List Addr}, (∀ f ∈ fs, FnOk3 f) → FnsRep H qs (fs.map toF) → Dvs H (qs.map V.ref) (DL.of (fs.map dFn))
  | [], [], _, _ => rfl
  | [], _ :: _, _, h => h.elim
  | _ :: _, [], _, h => h.elim
  | f :: r, q :: qs, ok, h => by
    obtain ⟨⟨p, p2, ps, h1, h2, h3, ⟨bs, h4, h5⟩⟩, hr⟩ := h
    exact ⟨_, _, rfl, ⟨q, _, rfl, h1, _, _, rfl, rfl, .ref p, _, rfl, ⟨p, _, rfl, h2, pas_dv h3⟩, .ref p2, _, rfl, ⟨p2, _, rfl, h4, b_dv (ok f List.mem_cons_self).bk h5⟩, rfl⟩, fns_dv (fun y hy => ok y (List.mem_cons_of_mem _ hy)) hr⟩
def toK (e : Ex) : Kp := ((hdI e).1, (hdI e).2, tlI e)
theorem keeps_dv {H : Hp} : ∀ {l : List Ex} {qs : List Addr}, (∀ e ∈ l, ExOk e) → SumsRep H qs (l.map toK) → Dvs H (qs.map V.ref) (DL.of (l.map dE))
  | [], [], _, _ => rfl
  | [], _ :: _, _, h => h.elim
  | _ :: _, [], _, h => h.elim
  | e :: r, q :: qs, ok, h => ⟨_, _, rfl, sum_dv (ok e List.mem_cons_self) h.1, keeps_dv (fun y hy => ok y (List.mem_cons_of_mem _ hy)) h.2⟩
theorem tree_dv {H : Hp} {p : Addr} {t : Tree} (ok : TreeOk t) (h : ProgRep H p t.gs t.ks (t.kp.map toK) (t.fs.map toF)) : Dv H (.ref p) (dT t) := by
  obtain ⟨pv, pk, ps, pf, qs, qf, h0, h1, h2, h3, h4, h5, h6⟩ := h
  exact ⟨p, _, rfl, h0, .ref pv, _, rfl, Dv.of_strs h1, .ref pk, _, rfl, Dv.of_strs h2, .ref ps, _, rfl, ⟨ps, _, rfl, h3, keeps_dv ok.kp h4⟩, .ref pf, _, rfl, ⟨pf, _, rfl, h5, fns_dv ok.fs h6⟩, rfl⟩
/-! ### whole texts -/
mutual
theorem s_ht : ∀ s : TS, (toS s).ht = s.ht
  | .pl _ => rfl
  | .iff x y => by show max (toB x).ht (toB y).ht + 1 = max x.ht y.ht + 1; rw [b_ht x, b_ht y]
  | .whl x => by show (toB x).ht + 1 = x.ht + 1; rw [b_ht x]
  | .undo _ x => by show (toB x).ht + 1 = x.ht + 1; rw [b_ht x]
  | .tr x hs y => by show max (toB x).ht (max (toH hs).ht (toB y).ht) + 1 = max x.ht (max hs.ht y.ht) + 1; rw [b_ht x, h_ht hs, b_ht y]
  | .wth _ _ _ _ _ x => by show (toB x).ht + 1 = x.ht + 1; rw [b_ht x]
theorem b_ht : ∀ x : TB, (toB x).ht = x.ht
  | .nil => rfl
  | .cons s r => by show max (toS s).ht (toB r).ht = max s.ht r.ht; rw [s_ht s, b_ht r]
theorem h_ht : ∀ x : TH, (toH x).ht = x.ht
  | .nil => rfl
  | .cons _ x r => by show max (toB x).ht (toH r).ht = max x.ht r.ht; rw [b_ht x, h_ht r]
end
def fTk (f : FnT) : List Tk := tk "NAME" f.nm :: (lsTk (f.ps.map paTk) ++ kw "{" :: bTk f.bk)
def fnsTk (fs : List FnT) : List Tk := (fs.map fun f => kw "def" :: fTk f).flatten
def keepsTk (l : List Ex) : List Tk := (l.map fun e => kw "keep" :: eTk e).flatten
def declTk (k : Str) (ns : List Str) : List Tk := if ns.isEmpty = true then [] else kw k :: ns.map fun v => tk "NAME" v
def treeTk (t : Tree) : List Tk := declTk "globals" t.gs ++ (declTk "kinds" t.ks ++ (keepsTk t.kp ++ (fnsTk t.fs)))
theorem fn_at {ts : List Tok3} {f : FnT} {i : Nat} {post : List Tk} (ok : FnOk3 f) (hz : f.bk.sz ≤ 1000) (h : Std ts i (fTk f) post) : FnAt ts i (toF f) ∧ endFn i (toF f) = i + (fTk f).length := by
  have e1 : (f.ps.map fun p => (El.par p.1 p.2, paTk p)).map (·.1) = f.ps.map fun p => El.par p.1 p.2 := by rw [List.map_map]; rfl
  have e2 : (f.ps.map fun p => (El.par p.1 p.2, paTk p)).map (·.2) = f.ps.map paTk := by rw [List.map_map]; rfl
  have h1 := h.tail
  have hl := listed_at (ts := ts) (l := f.ps.map fun p => (El.par p.1 p.2, paTk p)) (i := i + 1) (post := kw "{" :: bTk f.bk ++ post) (fun q hq => by
    obtain ⟨p, _, rfl⟩ := List.mem_map.mp hq
    exact pa_std) (by rw [e2]; exact h1.left)
  rw [e1, e2] at hl
  obtain ⟨a1, a2⟩ := hl
  have h2 := h1.skip
  obtain ⟨b1, b2⟩ := b_at ok.bk hz h2.tail
  have l1 := L_sz f.bk
  refine ⟨⟨h.head, a1, fun e he => ?_, ?_, ?_, ?_, ?_⟩, ?_⟩
  · obtain ⟨p, _, rfl⟩ := List.mem_map.mp he
    rfl
  · show (f.ps.map _).length ≤ 1000
    rw [List.length_map]
    exact Nat.le_trans ok.ps.len (by decide)
  · show ∃ p, At ts (endListed (i + 1) (f.ps.map fun p => El.par p.1 p.2)) "{" p
    rw [a2]
    exact ⟨_, h2.head⟩
  · show (toB f.bk).len ≤ 1000
    rw [blk_len2]
    omega
  · show BodyAt ts (endListed (i + 1) (f.ps.map fun p => El.par p.1 p.2) + 1) (toB f.bk)
    rw [a2]
    exact b1
  · show endBody (endListed (i + 1) (f.ps.map fun p => El.par p.1 p.2) + 1) (toB f.bk) = i + (fTk f).length
    rw [a2, b2]
    unfold fTk
    simp only [List.length_cons, List.length_append]
    omega
theorem fns_at {ts : List Tok3} : ∀ {fs : List FnT} {i : Nat}, (∀ f ∈ fs, FnOk3 f ∧ f.bk.sz ≤ 1000) → Std ts i (fnsTk fs) [tk "END" ""] → FnsAt ts 3 i (fs.map toF)
  | [], i, _, h => ⟨_, h.post⟩
  | f :: r, i, ok, h => by
    have h' : Std ts i ((kw "def" :: fTk f) ++ fnsTk r) [tk "END" ""] := h
    obtain ⟨o1, o2⟩ := ok f List.mem_cons_self
    obtain ⟨a1, a2⟩ := fn_at o1 o2 (Std.tail (x := kw "def") (Y := fTk f) h'.left)
    refine ⟨⟨_, Std.head h⟩, a1, by show (toB f.bk).ht ≤ 3; rw [b_ht]; exact o1.ht, ?_⟩
    rw [a2]
    have := h'.skip
    rw [List.length_cons] at this
    rw [show i + 1 + (fTk f).length = i + ((fTk f).length + 1) by omega]
    exact fns_at (fun y hy => ok y (List.mem_cons_of_mem _ hy)) this
/-- the first token of what follows is of these -/
def Lead (ks : List Str) (X : List Tk) : Prop := ∃ k p r, X = (k, p) :: r ∧ k ∈ ks
theorem lead_fns (fs : List FnT) : Lead ["def", "END"] (fnsTk fs ++ [tk "END" ""]) := by
  cases fs with
  | nil => exact ⟨_, _, _, rfl, List.mem_cons_of_mem _ List.mem_cons_self⟩
  | cons f r => exact ⟨_, _, _, rfl, List.mem_cons_self⟩
theorem lead_keeps (l : List Ex) {X : List Tk} (h : Lead ["def", "END"] X) : Lead ["keep", "def", "END"] (keepsTk l ++ X) := by
  cases l with
  | nil =>
    obtain ⟨k, p, r, e, hk⟩ := h
    exact ⟨k, p, r, e, List.mem_cons_of_mem _ hk⟩
  | cons e r => exact ⟨_, _, _, rfl, List.mem_cons_self⟩
theorem lead_decl (k0 : Str) (ns : List Str) {ks : List Str} {X : List Tk} (h : Lead ks X) : Lead (k0 :: ks) (declTk k0 ns ++ X) := by
  unfold declTk
  split
  · obtain ⟨k, p, r, e, hk⟩ := h
    exact ⟨k, p, r, e, List.mem_cons_of_mem _ hk⟩
  · exact ⟨_, _, _, rfl, List.mem_cons_self⟩
theorem keeps_at {ts : List Tok3} : ∀ {l : List Ex} {i : Nat} {post : List Tk}, (∀ e ∈ l, ExOk e) → Lead ["def", "END"] post → Std ts i (keepsTk l) post → KeepsAt ts i (l.map toK) ∧ endKeeps i (l.map toK) = i + (keepsTk l).length
  | [], i, post, _, hl, h => by
    obtain ⟨k, p, r, rfl, hk⟩ := hl
    refine ⟨⟨k, p, h.post, fun z => ?_⟩, rfl⟩
    subst z
    exact absurd hk (by decide +kernel)
  | e :: r, i, post, ok, hl, h => by
    have h' : Std ts i ((kw "keep" :: eTk e) ++ keepsTk r) post := h
    obtain ⟨k, p, r', e1, hk⟩ := lead_keeps r hl
    have hx : Std ts (i + 1) (eTk e) (keepsTk r ++ post) := Std.tail (x := kw "keep") (Y := eTk e) h'.left
    rw [e1] at hx
    have hend : EndTok k := by
      simp only [List.mem_cons, List.not_mem_nil, or_false] at hk
      rcases hk with rfl | rfl | rfl
      · exact ⟨by decide +kernel, by decide +kernel, by decide +kernel⟩
      · exact ⟨by decide +kernel, by decide +kernel, by decide +kernel⟩
      · exact ⟨by decide +kernel, by decide +kernel, by decide +kernel⟩
    obtain ⟨a1, a2, a3⟩ := ex_at (ok e List.mem_cons_self) hend hx
    have h2 := h'.skip
    rw [List.length_cons] at h2
    obtain ⟨b1, b2⟩ := keeps_at (fun y hy => ok y (List.mem_cons_of_mem _ hy)) hl h2
    have ea : i + 1 + (eTk e).length = i + ((eTk e).length + 1) := by omega
    refine ⟨⟨⟨_, Std.head h⟩, a1, a3, by rw [a2, ea]; exact b1⟩, ?_⟩
    show endKeeps (endE (i + 1) (hdI e).1 (hdI e).2 (tlI e)) (r.map toK) = i + ((kw "keep" :: eTk e) ++ keepsTk r).length
    rw [a2, ea, b2, List.length_append, List.length_cons]
    omega
theorem decl_at {ts : List Tok3} {k0 : Str} {ns : List Str} {i : Nat} {ks : List Str} {post : List Tk} (hn : ns.length ≤ 1000) (hl : Lead ks post) (h1 : k0 ∉ ks) (h2 : ("NAME" : Str) ∉ ks) (h : Std ts i (declTk k0 ns) post) : DeclAt ts i k0 ns (i + (declTk k0 ns).length) := by
  obtain ⟨k, p, r, rfl, hk⟩ := hl
  cases ns with
  | nil => exact .inl ⟨rfl, rfl, k, p, h.post, fun z => h1 (z ▸ hk)⟩
  | cons x r' =>
    have e : declTk k0 (x :: r') = kw k0 :: (x :: r').map fun v => tk "NAME" v := rfl
    rw [e] at h ⊢
    have hp := h.post
    rw [List.length_cons, List.length_map] at hp
    refine .inr ⟨by rw [List.length_cons, List.length_map]; omega, by rw [List.length_cons]; omega, hn, ⟨_, h.head⟩, fun j v hv => ?_, k, p, ?_, fun z => h2 (z ▸ hk)⟩
    · obtain ⟨pre, epre, e1⟩ := h.tail
      apply at_kp
      have hj := (List.getElem?_eq_some_iff.mp hv).1
      rw [e1, List.getElem?_append_right (by omega), show i + 1 + j - pre.length = j by omega, List.getElem?_append_left (by rw [List.length_map]; exact hj), List.getElem?_map, hv]
      rfl
    · rw [show i + 1 + (x :: r').length = i + ((x :: r').length + 1) by omega]
      exact hp
theorem parse_at {z : Str} {t : Tree} (ok : TreeOk t) (h : (toks z).map kp = treeTk t ++ [tk "END" ""]) :
    ∃ i1 i2, DeclAt (toks z) 0 "globals" t.gs i1 ∧ DeclAt (toks z) i1 "kinds" t.ks i2 ∧ KeepsAt (toks z) i2 (t.kp.map toK) ∧ FnsAt (toks z) 3 (endKeeps i2 (t.kp.map toK)) (t.fs.map toF) := by
  have h0 : Std (toks z) 0 (treeTk t) [tk "END" ""] := ⟨[], rfl, h⟩
  have l1 := lead_fns t.fs
  have l2 := lead_keeps t.kp l1
  have l3 := lead_decl "kinds" t.ks l2
  have hf : ∀ f ∈ t.fs, FnOk3 f ∧ f.bk.sz ≤ 1000 := fun f hf => ⟨ok.fs f hf, Nat.le_trans (Nat.le_trans (le_sum (List.mem_map.mpr ⟨f, hf, rfl⟩)) ok.sz) (by decide)⟩
  unfold treeTk at h0
  have a1 := decl_at (Nat.le_trans ok.gs.len (by decide)) (by rw [List.append_assoc, List.append_assoc]; exact l3) (by decide +kernel) (by decide +kernel) h0.left
  have h1 := h0.skip
  have a2 := decl_at (Nat.le_trans ok.ks.len (by decide)) (by rw [List.append_assoc]; exact l2) (by decide +kernel) (by decide +kernel) h1.left
  have h2 := h1.skip
  obtain ⟨a3, a4⟩ := keeps_at ok.kp l1 h2.left
  have a5 := fns_at hf h2.skip
  exact ⟨_, _, a1, a2, a3, by rw [a4]; exact a5⟩
end K3
namespace K3
open PySem PySem.Spec PyProof.Rows L2 TL
/-! ### a text in another form: each sign of it becomes a few -/
def SGS : List Nat := [61, 43, 45, 42, 38, 63, 40, 41, 123, 125, 44]
structure Form (φ : Nat → List Nat) : Prop where
  al : ∀ c, alnum c = true → φ c = [c]
  bl : ∀ c, c = 32 ∨ c = 10 → φ c ≠ [] ∧ ∀ d ∈ φ c, d = 32 ∨ d = 10
  sg : ∀ c ∈ SGS, ∃ a b : List Nat, φ c = a ++ c :: b ∧ (∀ d ∈ a, d = 32 ∨ d = 10) ∧ ∀ d ∈ b, d = 32 ∨ d = 10
theorem blank_two {c : Nat} (h : c = 32 ∨ c = 10) : blank c = true ∧ alnum c = false := by
  rcases h with rfl | rfl <;> exact ⟨by decide +kernel, by decide +kernel⟩
theorem kt_blank {c : Nat} {r : List Nat} (h : blank c = true) : kt (c :: r) = kt r := by
  unfold kt
  rw [toksL_blank h]
  exact kt_at r 1
theorem kt_blanks : ∀ {b : List Nat} {r : List Nat}, (∀ d ∈ b, d = 32 ∨ d = 10) → kt (b ++ r) = kt r
  | [], _, _ => rfl
  | c :: b, r, h => by
    rw [List.cons_append, kt_blank (blank_two (h c List.mem_cons_self)).1]
    exact kt_blanks fun d hd => h d (List.mem_cons_of_mem _ hd)
theorem sgs_are : ∀ c ∈ SGS, alnum c = false ∧ blank c = false ∧ kindOf ⟨#[c]⟩ = ⟨#[c]⟩ := by
  have h : SGS.all (fun c => !alnum c && !blank c && decide (kindOf ⟨#[c]⟩ = ⟨#[c]⟩)) = true := by decide +kernel
  intro c hc
  have := List.all_eq_true.mp h c hc
  rw [Bool.and_eq_true, Bool.and_eq_true] at this
  exact ⟨by simpa using this.1.1, by simpa using this.1.2, of_decide_eq_true this.2⟩
def sgTk1 (c : Nat) : Tk := kw ⟨#[c]⟩
section
variable {φ : Nat → List Nat}
/-- reads as these tokens, whatever follows -/
def RdA (φ : Nat → List Nat) (cs : List Nat) (ts : List Tk) : Prop := ∀ rest, kt (cs.flatMap φ ++ rest) = ts ++ kt rest
/-- where no letter or digit follows -/
def RdS (φ : Nat → List Nat) (cs : List Nat) (ts : List Tk) : Prop := ∀ rest, Stop rest → kt (cs.flatMap φ ++ rest) = ts ++ kt rest
/-- begins with no letter or digit -/
def Opn (φ : Nat → List Nat) (cs : List Nat) : Prop := ∀ rest, Stop (cs.flatMap φ ++ rest)
theorem RdA.s {cs : List Nat} {ts : List Tk} (h : RdA φ cs ts) : RdS φ cs ts := fun rest _ => h rest
theorem RdA.nil : RdA φ [] [] := fun _ => rfl
theorem RdA.app {A B : List Nat} {a b : List Tk} (ha : RdA φ A a) (hb : RdA φ B b) : RdA φ (A ++ B) (a ++ b) := fun rest => by
  rw [List.flatMap_append, List.append_assoc, ha, hb, List.append_assoc]
theorem RdA.appS {A B : List Nat} {a b : List Tk} (ha : RdA φ A a) (hb : RdS φ B b) : RdS φ (A ++ B) (a ++ b) := fun rest hs => by
  rw [List.flatMap_append, List.append_assoc, ha, hb rest hs, List.append_assoc]
theorem RdS.app {A B : List Nat} {a b : List Tk} (ha : RdS φ A a) (o : Opn φ B) (hb : RdS φ B b) : RdS φ (A ++ B) (a ++ b) := fun rest hs => by
  rw [List.flatMap_append, List.append_assoc, ha _ (o rest), hb rest hs, List.append_assoc]
theorem RdS.appA {A B : List Nat} {a b : List Tk} (ha : RdS φ A a) (o : Opn φ B) (hb : RdA φ B b) : RdA φ (A ++ B) (a ++ b) := fun rest => by
  rw [List.flatMap_append, List.append_assoc, ha _ (o rest), hb rest, List.append_assoc]
theorem Opn.app {A B : List Nat} (h : Opn φ A) : Opn φ (A ++ B) := fun rest => by
  rw [List.flatMap_append, List.append_assoc]
  exact h _
theorem stop_blank {d : List Nat} {r : List Nat} (h0 : d ≠ []) (h : ∀ x ∈ d, x = 32 ∨ x = 10) : Stop (d ++ r) := by
  cases d with
  | nil => exact absurd rfl h0
  | cons c d => exact stop_sign (blank_two (h c List.mem_cons_self)).2
theorem rd_bl (F : Form φ) {c : Nat} (h : c = 32 ∨ c = 10) : RdA φ [c] [] ∧ Opn φ [c] := by
  obtain ⟨h0, hb⟩ := F.bl c h
  constructor
  · intro rest
    rw [List.flatMap_cons, List.flatMap_nil, List.append_nil, kt_blanks hb]
    rfl
  · intro rest
    rw [List.flatMap_cons, List.flatMap_nil, List.append_nil]
    exact stop_blank h0 hb
theorem rd_sg (F : Form φ) {c : Nat} (h : c ∈ SGS) : RdA φ [c] [sgTk1 c] ∧ Opn φ [c] := by
  obtain ⟨a, b, e, ha, hb⟩ := F.sg c h
  obtain ⟨s1, s2, s3⟩ := sgs_are c h
  constructor
  · intro rest
    rw [List.flatMap_cons, List.flatMap_nil, List.append_nil, e, List.append_assoc, kt_blanks ha, List.cons_append, kt_sign s1 s2, kt_blanks hb, s3]
    rfl
  · intro rest
    rw [List.flatMap_cons, List.flatMap_nil, List.append_nil, e, List.append_assoc]
    cases a with
    | nil => exact stop_sign s1
    | cons d a => exact stop_blank (List.cons_ne_nil _ _) ha
/-- a text of blanks and signs -/
def litTk : List Nat → List Tk
  | [] => []
  | c :: r => if c ∈ SGS then sgTk1 c :: litTk r else litTk r
def litOk (cs : List Nat) : Bool := cs.all fun c => decide (c ∈ SGS) || decide (c = 32 ∨ c = 10)
theorem rd_lit (F : Form φ) : ∀ {cs : List Nat}, litOk cs = true → RdA φ cs (litTk cs)
  | [], _ => RdA.nil
  | c :: r, h => by
    have h' : ((decide (c ∈ SGS) || decide (c = 32 ∨ c = 10)) && litOk r) = true := h
    rw [Bool.and_eq_true, Bool.or_eq_true] at h'
    have ih := rd_lit F h'.2
    show RdA φ ([c] ++ r) (if c ∈ SGS then sgTk1 c :: litTk r else litTk r)
    by_cases hc : c ∈ SGS
    · rw [if_pos hc]
      exact (rd_sg F hc).1.app ih
    · rw [if_neg hc]
      rcases h'.1 with h1 | h1
      · exact absurd (of_decide_eq_true h1) hc
      · exact (rd_bl F (of_decide_eq_true h1)).1.app ih
theorem op_lit (F : Form φ) {c : Nat} {r : List Nat} (h : litOk (c :: r) = true) : Opn φ (c :: r) := by
  have h' : ((decide (c ∈ SGS) || decide (c = 32 ∨ c = 10)) && litOk r) = true := h
  rw [Bool.and_eq_true, Bool.or_eq_true] at h'
  show Opn φ ([c] ++ r)
  rcases h'.1 with h1 | h1
  · exact (rd_sg F (of_decide_eq_true h1)).2.app
  · exact (rd_bl F (of_decide_eq_true h1)).2.app
theorem flat_run (F : Form φ) : ∀ {cs : List Nat}, cs.all alnum = true → cs.flatMap φ = cs
  | [], _ => rfl
  | c :: r, h => by
    have h' : (alnum c && r.all alnum) = true := h
    rw [Bool.and_eq_true] at h'
    rw [List.flatMap_cons, F.al c h'.1, flat_run F h'.2]
    rfl
/-! over texts -/
def RA (φ : Nat → List Nat) (x : Str) (ts : List Tk) : Prop := RdA φ (tl x) ts
def RS (φ : Nat → List Nat) (x : Str) (ts : List Tk) : Prop := RdS φ (tl x) ts
def Op (φ : Nat → List Nat) (x : Str) : Prop := Opn φ (tl x)
theorem RA.s {x : Str} {a : List Tk} (h : RA φ x a) : RS φ x a := RdA.s h
theorem RA.app {x y : Str} {a b : List Tk} (h1 : RA φ x a) (h2 : RA φ y b) : RA φ (x ++ y) (a ++ b) := by
  unfold RA
  rw [tl_append]
  exact RdA.app h1 h2
theorem RA.appS {x y : Str} {a b : List Tk} (h1 : RA φ x a) (h2 : RS φ y b) : RS φ (x ++ y) (a ++ b) := by
  unfold RS
  rw [tl_append]
  exact RdA.appS h1 h2
theorem RS.app {x y : Str} {a b : List Tk} (h1 : RS φ x a) (o : Op φ y) (h2 : RS φ y b) : RS φ (x ++ y) (a ++ b) := by
  unfold RS
  rw [tl_append]
  exact RdS.app h1 o h2
theorem RS.appA {x y : Str} {a b : List Tk} (h1 : RS φ x a) (o : Op φ y) (h2 : RA φ y b) : RA φ (x ++ y) (a ++ b) := by
  unfold RA
  rw [tl_append]
  exact RdS.appA h1 o h2
theorem Op.app {x y : Str} (h : Op φ x) : Op φ (x ++ y) := by
  unfold Op
  rw [tl_append]
  exact Opn.app h
theorem ra_nil : RA φ (Str.ofString "") [] := by
  unfold RA
  rw [tl_empty]
  exact RdA.nil
theorem ra_lit (F : Form φ) {x : Str} {cs : List Nat} {ts : List Tk} (e : tl x = cs) (h : litOk cs = true) (et : litTk cs = ts) : RA φ x ts := by
  unfold RA
  rw [e, ← et]
  exact rd_lit F h
theorem opl (F : Form φ) {x : Str} {c : Nat} {cs : List Nat} (e : tl x = c :: cs) (h : litOk (c :: cs) = true) : Op φ x := by
  unfold Op
  rw [e]
  exact op_lit F h
theorem rs_run (F : Form φ) {x k : Str} (h0 : tl x ≠ []) (h : (tl x).all alnum = true) (hk : kindOf x = k) : RS φ x [tk k x] := fun rest hs => by
  rw [flat_run F h, kt_run h0 h hs, show (⟨(tl x).toArray⟩ : Str) = x from rfl, hk]
  rfl
theorem rs_name (F : Form φ) {v : Str} (h : NameOk v) : RS φ v [tk "NAME" v] := rs_run F h.ne h.run h.kind
theorem rs_num (F : Form φ) (k : Nat) : RS φ (numT (k : Int)) [tk "NUMBER" (numT (k : Int))] := rs_run F (by rw [numT_tl]; exact numL_ne k) (by rw [numT_tl]; exact num_run k) (num_kind k)
/-- a word of the language and a blank -/
theorem ra_kw (F : Form φ) {x k : Str} (e : tl x = tl k ++ [32]) (h0 : tl k ≠ []) (h : (tl k).all alnum = true) (hk : kindOf k = k) : RA φ x [kw k] := by
  have h1 : RS φ k [tk k k] := rs_run F h0 h hk
  have h2 := rd_bl F (c := 32) (.inl rfl)
  unfold RA
  rw [e]
  exact RdS.appA h1 h2.2 h2.1
theorem rs_kw (F : Form φ) {k : Str} (h0 : tl k ≠ []) (h : (tl k).all alnum = true) (hk : kindOf k = k) : RS φ k [kw k] := rs_run F h0 h hk
theorem rs_join (F : Form φ) : ∀ (l : List (Str × List Tk)), (∀ q ∈ l, RS φ q.1 q.2) → RS φ (Txt.join (Str.ofString ", ") (l.map (·.1))) (jTk (l.map (·.2))) := by
  have hc : RdA φ [44, 32] [kw ","] := rd_lit F (cs := [44, 32]) (by decide +kernel)
  have ho : Opn φ [44, 32] := op_lit F (by decide +kernel)
  have hl : ∀ (l : List (Str × List Tk)), (∀ q ∈ l, RS φ q.1 q.2) → RdS φ (joinL [44, 32] ((l.map (·.1)).map tl)) (jTk (l.map (·.2)))
    := by
    intro l
    induction l with
    | nil => exact fun _ => RdA.nil.s
    | cons x r ih =>
      intro h
      cases r with
      | nil => exact h x List.mem_cons_self
      | cons y r =>
        have h1 := h x List.mem_cons_self
        have h2 := ih fun q hq => h q (List.mem_cons_of_mem _ hq)
        show RdS φ (tl x.1 ++ ([44, 32] ++ joinL [44, 32] (((y :: r).map (·.1)).map tl))) (x.2 ++ ([kw ","] ++ jTk ((y :: r).map (·.2))))
        exact RdS.app h1 ho.app (hc.appS h2)
  intro l h
  unfold RS
  rw [join_eq, tl_join, show tl (Str.ofString ", ") = [44, 32] from by decide +kernel]
  exact hl l h
/-! sums -/
def PI (φ : Nat → List Nat) (p : Int × Str) (x : Item) : Prop := x.1 = decide (p.1 < 0) ∧ RS φ p.2 (tmToks x.2)
theorem sep_is (F : Form φ) (n : Int) : RA φ (sepT n) [sgTok (decide (n < 0))] ∧ Op φ (sepT n) := by
  unfold sepT
  cases decide (n < 0)
  · rw [if_neg Bool.false_ne_true]
    exact ⟨ra_lit F (cs := [32, 43, 32]) (by decide +kernel) (by decide +kernel) (by decide +kernel), opl F (c := 32) (cs := [43, 32]) (by decide +kernel) (by decide +kernel)⟩
  · rw [if_pos rfl]
    exact ⟨ra_lit F (cs := [32, 45, 32]) (by decide +kernel) (by decide +kernel) (by decide +kernel), opl F (c := 32) (cs := [45, 32]) (by decide +kernel) (by decide +kernel)⟩
theorem rs_fold (F : Form φ) : ∀ (Q : List ((Int × Str) × Item)) {x : Str} {tx : List Tk}, (∀ q ∈ Q, PI φ q.1 q.2) → RS φ x tx → RS φ ((Q.map (·.1)).foldl app x) (tx ++ restToks (Q.map (·.2)))
  | [], x, tx, _, h => by
    show RS φ x (tx ++ [])
    rw [List.append_nil]
    exact h
  | (p, y) :: Q, x, tx, hq, h => by
    obtain ⟨b, t⟩ := y
    obtain ⟨e, h2⟩ : b = decide (p.1 < 0) ∧ RS φ p.2 (tmToks t) := hq _ List.mem_cons_self
    obtain ⟨s1, s2⟩ := sep_is F p.1
    have h3 : RS φ (app x p) (tx ++ [sgTok b] ++ tmToks t) := by
      rw [e]
      exact (RS.appA h s2 s1).appS h2
    have := rs_fold F Q (fun q hq' => hq q (List.mem_cons_of_mem _ hq')) h3
    show RS φ ((Q.map (·.1)).foldl app (app x p)) (tx ++ (sgTok b :: (tmToks t ++ restToks (Q.map (·.2)))))
    rw [List.append_assoc, List.append_assoc] at this
    exact this
theorem rs_term (F : Form φ) {p : Str × Int} (h : NameOk p.1) : PI φ (p.2, termT p.1 p.2) (itm p) := by
  refine ⟨rfl, ?_⟩
  show RS φ (termT p.1 p.2) (tmToks (if ab p.2 = 1 then .nm p.1 else .pr (numT (ab p.2)) (ab p.2) p.1))
  unfold termT
  by_cases e : ab p.2 = 1
  · rw [if_pos (by rw [e]; exact decide_eq_true rfl), if_pos e]
    exact rs_name F h
  · rw [if_neg (by rw [decide_eq_false fun z => e (V.int.inj z)]; exact Bool.false_ne_true), if_neg e]
    obtain ⟨k, hk⟩ := ab_cast p.2
    rw [hk]
    have h1 := rs_num F k
    have h2 : RA φ "*" [kw "*"] := ra_lit F (x := "*") (cs := [42]) (by decide +kernel) (by decide +kernel) (by decide +kernel)
    have h3 : Op φ "*" := opl F (c := 42) (cs := []) (by decide +kernel) (by decide +kernel)
    exact (RS.appA h1 h3 h2).appS (rs_name F h)
theorem rs_const (F : Form φ) (c : Int) : PI φ (c, numT (ab c)) (itc c) := by
  refine ⟨rfl, ?_⟩
  show RS φ (numT (ab c)) [tk "NUMBER" (numT (ab c))]
  obtain ⟨k, hk⟩ := ab_cast c
  rw [hk]
  exact rs_num F k
theorem rs_ex (F : Form φ) {e : Ex} (h : ExOk e) : RS φ (eT e) (eTk e) := by
  have hq : ∃ Q : List ((Int × Str) × Item), partsOf e.1 e.2 = Q.map (·.1) ∧ nfI e = Q.map (·.2) ∧ ∀ q ∈ Q, PI φ q.1 q.2 := by
    refine ⟨e.2.map (fun p => ((p.2, termT p.1 p.2), itm p)) ++ (if ((!decide (V.int e.1 = V.int 0)) || e.2.isEmpty) = true then [((e.1, numT (ab e.1)), itc e.1)] else []), ?_, ?_, ?_⟩
    · unfold partsOf
      rw [List.map_append, List.map_map]
      congr 1
      split <;> rfl
    · unfold nfI
      rw [List.map_append, List.map_map]
      congr 1
      split <;> rfl
    · intro q hq
      rcases List.mem_append.mp hq with hq | hq
      · obtain ⟨p, hp, rfl⟩ := List.mem_map.mp hq
        exact rs_term F (h.nm p hp).1
      · split at hq
        · rw [List.mem_singleton.mp hq]
          exact rs_const F e.1
        · cases hq
  obtain ⟨Q, e1, e2, hq⟩ := hq
  have hne := parts_ne (c := e.1) h.real
  have h0 := nfI_ne e
  unfold eT eTk sumT
  rw [e1] at hne ⊢
  rw [e2] at h0 ⊢
  cases Q with
  | nil => exact absurd rfl h0
  | cons q r =>
    obtain ⟨⟨n, s⟩, b, t⟩ := q
    obtain ⟨eb, ht⟩ : b = decide (n < 0) ∧ RS φ s (tmToks t) := hq _ List.mem_cons_self
    rw [show (((n, s), (b, t)) :: r).map (·.1) = (n, s) :: r.map (·.1) from rfl, (both_ways hne).2, eb]
    have hf := rs_fold F r (fun q hq' => hq q (List.mem_cons_of_mem _ hq')) ht
    show RS φ _ ((if decide (n < 0) = true then [tk "-" "-"] else []) ++ (tmToks t ++ restToks (r.map (·.2))))
    by_cases hn : decide (n < 0) = true
    · rw [if_pos hn, if_pos hn]
      exact (ra_lit F (cs := [45]) (by decide +kernel) (by decide +kernel) (by decide +kernel) : RA φ (Str.ofString "-") [tk "-" "-"]).appS hf
    · rw [if_neg hn, if_neg hn]
      exact hf
/-! calls and heads -/
theorem ra_amp (F : Form φ) : RA φ (Str.ofString "&") [kw "&"] := ra_lit F (cs := [38]) (by decide +kernel) (by decide +kernel) (by decide +kernel)
theorem rs_ar (F : Form φ) {x : Ar} (h : ArOk x) : RS φ (arT x) (aTk x) := by
  cases x with
  | pla v => exact (ra_amp F).appS (rs_name F h)
  | val e => exact rs_ex F h
theorem ra_open (F : Form φ) : RA φ (Str.ofString "(") [kw "("] ∧ Op φ (Str.ofString "(") := ⟨ra_lit F (cs := [40]) (by decide +kernel) (by decide +kernel) (by decide +kernel), opl F (c := 40) (cs := []) (by decide +kernel) (by decide +kernel)⟩
theorem ra_shut (F : Form φ) : RA φ (Str.ofString ")") [kw ")"] ∧ Op φ (Str.ofString ")") := ⟨ra_lit F (cs := [41]) (by decide +kernel) (by decide +kernel) (by decide +kernel), opl F (c := 41) (cs := []) (by decide +kernel) (by decide +kernel)⟩
theorem ra_eq (F : Form φ) : RA φ (Str.ofString " = ") [kw "="] ∧ Op φ (Str.ofString " = ") := ⟨ra_lit F (cs := [32, 61, 32]) (by decide +kernel) (by decide +kernel) (by decide +kernel), opl F (c := 32) (cs := [61, 32]) (by decide +kernel) (by decide +kernel)⟩
theorem ra_inp (F : Form φ) : RA φ (Str.ofString " = ?") [kw "=", kw "?"] ∧ Op φ (Str.ofString " = ?") := ⟨ra_lit F (cs := [32, 61, 32, 63]) (by decide +kernel) (by decide +kernel) (by decide +kernel), opl F (c := 32) (cs := [61, 32, 63]) (by decide +kernel) (by decide +kernel)⟩
theorem ra_co (F : Form φ) : RA φ (Str.ofString ", ") [kw ","] ∧ Op φ (Str.ofString ", ") := ⟨ra_lit F (cs := [44, 32]) (by decide +kernel) (by decide +kernel) (by decide +kernel), opl F (c := 44) (cs := [32]) (by decide +kernel) (by decide +kernel)⟩
theorem ra_br (F : Form φ) : RA φ (Str.ofString " {") [kw "{"] ∧ Op φ (Str.ofString " {") := ⟨ra_lit F (cs := [32, 123]) (by decide +kernel) (by decide +kernel) (by decide +kernel), opl F (c := 32) (cs := [123]) (by decide +kernel) (by decide +kernel)⟩
theorem ra_end (F : Form φ) : RA φ (Str.ofString "}") [kw "}"] := ra_lit F (cs := [125]) (by decide +kernel) (by decide +kernel) (by decide +kernel)
theorem ra_end2 (F : Form φ) : RA φ (Str.ofString "} ") [kw "}"] := ra_lit F (cs := [125, 32]) (by decide +kernel) (by decide +kernel) (by decide +kernel)
theorem ra_ind (F : Form φ) : RA φ (Str.ofString "  ") [] := ra_lit F (cs := [32, 32]) (by decide +kernel) (by decide +kernel) (by decide +kernel)
theorem rs_ns (F : Form φ) {ns : List Str} (h : ∀ v ∈ ns, NameOk v) : RS φ (Txt.join (Str.ofString ", ") ns) (nsTk ns) := by
  have := rs_join F (ns.map fun v => (v, [tk "NAME" v])) fun q hq => by
    obtain ⟨v, hv, rfl⟩ := List.mem_map.mp hq
    exact rs_name F (h v hv)
  rw [List.map_map, List.map_map] at this
  rw [show ns.map ((fun q : Str × List Tk => q.1) ∘ fun v => (v, [tk "NAME" v])) = ns from List.map_id ns] at this
  exact this
theorem ra_call (F : Form φ) {f : Str} {as : List Ar} (hf : NameOk f) (h : ArsOk as) : RA φ (callT f as) (callTk f as) := by
  have := rs_join F (as.map fun x => (arT x, aTk x)) fun q hq => by
    obtain ⟨x, hx, rfl⟩ := List.mem_map.mp hq
    exact rs_ar F (h.ok x hx)
  rw [List.map_map, List.map_map] at this
  have h2 := (((rs_name F hf).appA (ra_open F).2 (ra_open F).1).appS this).appA (ra_shut F).2 (ra_shut F).1
  show RA φ _ (tk "NAME" f :: (kw "(" :: (jTk (as.map aTk) ++ [kw ")"])))
  exact h2
theorem ra_risk (F : Form φ) : RA φ (Str.ofString "risk ") [kw "risk"] := ra_kw F (k := "risk") (by decide +kernel) (by decide +kernel) (by decide +kernel) (by decide +kernel)
theorem ra_raise (F : Form φ) : RA φ (Str.ofString "raise ") [kw "raise"] := ra_kw F (k := "raise") (by decide +kernel) (by decide +kernel) (by decide +kernel) (by decide +kernel)
theorem ra_ret (F : Form φ) : RA φ (Str.ofString "return ") [kw "return"] := ra_kw F (k := "return") (by decide +kernel) (by decide +kernel) (by decide +kernel) (by decide +kernel)
theorem ra_with (F : Form φ) : RA φ (Str.ofString "with ") [kw "with"] := ra_kw F (k := "with") (by decide +kernel) (by decide +kernel) (by decide +kernel) (by decide +kernel)
theorem ra_exc (F : Form φ) : RA φ (Str.ofString "except ") [kw "except"] := ra_kw F (k := "except") (by decide +kernel) (by decide +kernel) (by decide +kernel) (by decide +kernel)
theorem ra_undo (F : Form φ) : RA φ (Str.ofString "undo ") [kw "undo"] := ra_kw F (k := "undo") (by decide +kernel) (by decide +kernel) (by decide +kernel) (by decide +kernel)
theorem ra_glo (F : Form φ) : RA φ (Str.ofString "globals ") [kw "globals"] := ra_kw F (k := "globals") (by decide +kernel) (by decide +kernel) (by decide +kernel) (by decide +kernel)
theorem ra_kin (F : Form φ) : RA φ (Str.ofString "kinds ") [kw "kinds"] := ra_kw F (k := "kinds") (by decide +kernel) (by decide +kernel) (by decide +kernel) (by decide +kernel)
theorem ra_kee (F : Form φ) : RA φ (Str.ofString "keep ") [kw "keep"] := ra_kw F (k := "keep") (by decide +kernel) (by decide +kernel) (by decide +kernel) (by decide +kernel)
theorem ra_def (F : Form φ) : RA φ (Str.ofString "def ") [kw "def"] := ra_kw F (k := "def") (by decide +kernel) (by decide +kernel) (by decide +kernel) (by decide +kernel)
theorem ra_swa (F : Form φ) : RA φ (Str.ofString " swallow ") [kw "swallow"] ∧ Op φ (Str.ofString " swallow ") := by
  have e : tl (Str.ofString " swallow ") = [32] ++ (tl (Str.ofString "swallow") ++ [32]) := by decide +kernel
  have h1 : RS φ (Str.ofString "swallow") [kw "swallow"] := rs_kw F (k := "swallow") (by decide +kernel) (by decide +kernel) (by decide +kernel)
  have h2 := rd_bl F (c := 32) (.inl rfl)
  unfold RA Op
  rw [e]
  exact ⟨h2.1.app (RdS.appA h1 h2.2 h2.1), h2.2.app⟩
theorem rs_pl (F : Form φ) {p : P0} (h : P0Ok p) : RS φ (plT p) (pTk p) := by
  cases p with
  | set v e => exact ((rs_name F h.1).appA (ra_eq F).2 (ra_eq F).1).appS (rs_ex F h.2)
  | inp v => exact ((rs_name F h).appA (ra_inp F).2 (ra_inp F).1).s
  | call t f as =>
    cases t with
    | none => exact (ra_call F h.2.1 h.2.2).s
    | some t => exact (((rs_name F (h.1 t rfl)).appA (ra_eq F).2 (ra_eq F).1).app (ra_call F h.2.1 h.2.2)).s
  | risk ks => exact (ra_risk F).appS (rs_ns F h.2.nm)
  | rse k => exact (ra_raise F).appS (rs_name F h)
  | ret e => exact (ra_ret F).appS (rs_ex F h)
theorem rs_wth (F : Form φ) {f g : Str} {as bs : List Ar} {ks : List Str} (h1 : NameOk f) (h2 : ArsOk as) (h3 : NameOk g) (h4 : ArsOk bs) (h5 : NsOk ks) : RS φ (wthT f as g bs ks) (kw "with" :: (callTk f as ++ kw "," :: (callTk g bs ++ (if ks.isEmpty = true then [] else kw "swallow" :: nsTk ks)))) := by
  have h0 := (((ra_with F).app (ra_call F h1 h2)).app (ra_co F).1).app (ra_call F h3 h4)
  unfold wthT
  by_cases e : ks.isEmpty = true
  · rw [if_pos e, if_pos e, List.append_nil]
    have := h0.s
    rw [List.append_assoc, List.append_assoc] at this
    exact this
  · rw [if_neg e, if_neg e]
    have := (h0.app (ra_swa F).1).appS (rs_ns F h5.nm)
    rw [List.append_assoc, List.append_assoc, List.append_assoc, List.append_assoc] at this
    exact this
end
end K3
namespace K3
open PySem PySem.Spec PyProof.Rows L2 TL
section
variable {φ : Nat → List Nat}
/-! ### lines -/
def lnC (ls : List Str) : List Nat := (ls.map fun z => tl z ++ [10]).flatten
def RL (φ : Nat → List Nat) (ls : List Str) (ts : List Tk) : Prop := RdA φ (lnC ls) ts
theorem RL.nil : RL φ [] [] := RdA.nil
theorem RL.app {A B : List Str} {a b : List Tk} (h1 : RL φ A a) (h2 : RL φ B b) : RL φ (A ++ B) (a ++ b) := by
  unfold RL lnC
  rw [List.map_append, List.flatten_append]
  exact RdA.app h1 h2
theorem RL.one (F : Form φ) {z : Str} {ts : List Tk} (h : RS φ z ts) : RL φ [z] ts := by
  have h2 := rd_bl F (c := 10) (.inr rfl)
  unfold RL lnC
  rw [List.map_singleton, List.flatten_singleton]
  have := RdS.appA h h2.2 h2.1
  rw [List.append_nil] at this
  exact this
theorem RL.cons (F : Form φ) {z : Str} {ls : List Str} {a b : List Tk} (h1 : RS φ z a) (h2 : RL φ ls b) : RL φ (z :: ls) (a ++ b) := RL.app (RL.one F h1) h2
/-- the tokens of statements -/
def ssTk (l : List TS) : List Tk := (l.map sTk).flatten
theorem bTk_is : ∀ x : TB, bTk x = ssTk x.L ++ [kw "}"]
  | .nil => rfl
  | .cons s r => by
    show sTk s ++ bTk r = (sTk s ++ ssTk r.L) ++ [kw "}"]
    rw [bTk_is r, List.append_assoc]
theorem rl_flat {g : TS → List Str} : ∀ {l : List TS}, (∀ s ∈ l, RL φ (g s) (sTk s)) → RL φ ((l.map g).flatten) (ssTk l)
  | [], _ => RL.nil
  | s :: r, h => RL.app (h s List.mem_cons_self) (rl_flat fun t ht => h t (List.mem_cons_of_mem _ ht))
abbrev Part := (Str × TB) × List Tk
def ptTk : List Part → List Tk
  | [] => []
  | q :: r => q.2 ++ (kw "{" :: bTk q.1.2) ++ ptTk r
theorem rl_blk (F : Form φ) {ln : Str → TS → List Str} {ind : Str} (hi : RA φ ind []) : ∀ {Q : List Part} {bf : Str} {β : List Tk}, (∀ q ∈ Q, RS φ q.1.1 q.2 ∧ ∀ s ∈ q.1.2.L, RL φ (ln (ind ++ Str.ofString "  ") s) (sTk s)) → RA φ bf β →
    (Q = [] → RL φ (blkL ln ind bf (Q.map (·.1))) [kw "}"]) ∧ (Q ≠ [] → RL φ (blkL ln ind bf (Q.map (·.1))) (β ++ ptTk Q))
  | [], bf, β, _, _ => ⟨fun _ => RL.one F (hi.app (ra_end F)).s, fun h => absurd rfl h⟩
  | ((h, x), X) :: r, bf, β, hq, hb => by
    refine ⟨fun z => absurd z (List.cons_ne_nil _ _), fun _ => ?_⟩
    obtain ⟨h1, h2⟩ := hq _ List.mem_cons_self
    have hd : RS φ (bf ++ h ++ Str.ofString " {") (β ++ X ++ [kw "{"]) := ((hb.appS h1).appA (ra_br F).2 (ra_br F).1).s
    have hs : RL φ ((x.L.map (ln (ind ++ Str.ofString "  "))).flatten) (ssTk x.L) := rl_flat h2
    have hn : RA φ (ind ++ Str.ofString "} ") [kw "}"] := hi.app (ra_end2 F)
    obtain ⟨i1, i2⟩ := rl_blk F hi (Q := r) (bf := ind ++ Str.ofString "} ") (β := [kw "}"]) (fun q hq' => hq q (List.mem_cons_of_mem _ hq')) hn
    have hr : RL φ (blkL ln ind (ind ++ Str.ofString "} ") (r.map (·.1))) ([kw "}"] ++ ptTk r) := by
      cases r with
      | nil => exact i1 rfl
      | cons q r => exact i2 (List.cons_ne_nil _ _)
    have := RL.cons F hd (hs.app hr)
    show RL φ ((bf ++ h ++ Str.ofString " {") :: ((x.L.map (ln (ind ++ Str.ofString "  "))).flatten ++ blkL ln ind (ind ++ Str.ofString "} ") (r.map (·.1)))) (β ++ (X ++ (kw "{" :: bTk x) ++ ptTk r))
    rw [bTk_is x]
    have e : β ++ X ++ [kw "{"] ++ (ssTk x.L ++ ([kw "}"] ++ ptTk r)) = β ++ (X ++ (kw "{" :: (ssTk x.L ++ [kw "}"])) ++ ptTk r) := by simp
    rw [← e]
    exact this
theorem rs_if (F : Form φ) : RS φ (Str.ofString "if") [kw "if"] := rs_kw F (k := "if") (by decide +kernel) (by decide +kernel) (by decide +kernel)
theorem rs_else (F : Form φ) : RS φ (Str.ofString "else") [kw "else"] := rs_kw F (k := "else") (by decide +kernel) (by decide +kernel) (by decide +kernel)
theorem rs_while (F : Form φ) : RS φ (Str.ofString "while") [kw "while"] := rs_kw F (k := "while") (by decide +kernel) (by decide +kernel) (by decide +kernel)
theorem rs_try (F : Form φ) : RS φ (Str.ofString "try") [kw "try"] := rs_kw F (k := "try") (by decide +kernel) (by decide +kernel) (by decide +kernel)
theorem rs_fin (F : Form φ) : RS φ (Str.ofString "finally") [kw "finally"] := rs_kw F (k := "finally") (by decide +kernel) (by decide +kernel) (by decide +kernel)
def hsQ (hs : List (List Str × TB)) : List Part := hs.map fun h => (hdT h, kw "except" :: nsTk h.1)
theorem hTk_is : ∀ x : TH, hTk x = ptTk (hsQ x.L)
  | .nil => rfl
  | .cons ks x r => by
    show kw "except" :: (nsTk ks ++ kw "{" :: (bTk x ++ hTk r)) = (kw "except" :: nsTk ks) ++ (kw "{" :: bTk x) ++ ptTk (hsQ r.L)
    rw [hTk_is r]
    simp
theorem ptTk_app : ∀ (A B : List Part), ptTk (A ++ B) = ptTk A ++ ptTk B
  | [], _ => rfl
  | q :: r, B => by
    show q.2 ++ (kw "{" :: bTk q.1.2) ++ ptTk (r ++ B) = q.2 ++ (kw "{" :: bTk q.1.2) ++ ptTk r ++ ptTk B
    rw [ptTk_app r B, List.append_assoc (q.2 ++ (kw "{" :: bTk q.1.2))]
/-- the parts of a statement with their heads' tokens -/
theorem parts_of (F : Form φ) {s : TS} (ok : s.Ok) (h : prS s ≠ []) : ∃ Q : List Part, prS s = Q.map (·.1) ∧ sTk s = ptTk Q ∧ ∀ q ∈ Q, RS φ q.1.1 q.2 := by
  cases s with
  | pl p => exact absurd rfl h
  | iff x y =>
    refine ⟨((Str.ofString "if", x), [kw "if"]) :: (if y.L.isEmpty = true then [] else [((Str.ofString "else", y), [kw "else"])]), ?_, ?_, ?_⟩
    · show _ :: (if y.L.isEmpty = true then [] else [(Str.ofString "else", y)]) = _
      rw [List.map_cons]
      congr 1
      split <;> rfl
    · show kw "if" :: kw "{" :: (bTk x ++ if y.L.isEmpty = true then [] else kw "else" :: kw "{" :: bTk y) = _
      split
      · rfl
      · show _ = kw "if" :: kw "{" :: (bTk x ++ (kw "else" :: kw "{" :: (bTk y ++ [])))
        rw [List.append_nil]
    · intro q hq
      rcases List.mem_cons.mp hq with rfl | hq
      · exact rs_if F
      · split at hq
        · cases hq
        · rw [List.mem_singleton.mp hq]
          exact rs_else F
  | whl x =>
    refine ⟨[((Str.ofString "while", x), [kw "while"])], rfl, ?_, fun q hq => ?_⟩
    · show kw "while" :: kw "{" :: bTk x = kw "while" :: kw "{" :: (bTk x ++ [])
      rw [List.append_nil]
    · rw [List.mem_singleton.mp hq]
      exact rs_while F
  | undo vs x =>
    refine ⟨[((Str.ofString "undo " ++ Txt.join (Str.ofString ", ") vs, x), kw "undo" :: nsTk vs)], rfl, ?_, fun q hq => ?_⟩
    · show kw "undo" :: (nsTk vs ++ kw "{" :: bTk x) = (kw "undo" :: nsTk vs) ++ (kw "{" :: bTk x) ++ []
      rw [List.append_nil]
      rfl
    · rw [List.mem_singleton.mp hq]
      exact (ra_undo F).appS (rs_ns F ok.2.1.nm)
  | tr x hs y =>
    obtain ⟨_, _, ok2, _⟩ := ok
    refine ⟨((Str.ofString "try", x), [kw "try"]) :: (hsQ hs.L ++ (if (!y.L.isEmpty || hs.L.isEmpty) = true then [((Str.ofString "finally", y), [kw "finally"])] else [])), ?_, ?_, ?_⟩
    · show (Str.ofString "try", x) :: hs.L.map hdT ++ (if (!y.L.isEmpty || hs.L.isEmpty) = true then [(Str.ofString "finally", y)] else []) = _
      rw [List.map_cons, List.map_append, List.cons_append]
      unfold hsQ
      rw [List.map_map]
      congr 2
      split <;> rfl
    · show kw "try" :: kw "{" :: (bTk x ++ (hTk hs ++ if (!y.L.isEmpty || hs.L.isEmpty) = true then kw "finally" :: kw "{" :: bTk y else [])) = kw "try" :: kw "{" :: (bTk x ++ ptTk _)
      rw [ptTk_app, hTk_is]
      congr 4
      split
      · show kw "finally" :: kw "{" :: bTk y = kw "finally" :: kw "{" :: (bTk y ++ [])
        rw [List.append_nil]
      · rfl
    · intro q hq
      rcases List.mem_cons.mp hq with rfl | hq
      · exact rs_try F
      · rcases List.mem_append.mp hq with hq | hq
        · obtain ⟨h, hh, rfl⟩ := List.mem_map.mp hq
          exact (ra_exc F).appS (rs_ns F (TH.ok_mem ok2 hh).2.1.nm)
        · split at hq
          · rw [List.mem_singleton.mp hq]
            exact rs_fin F
          · cases hq
  | wth f as g bs ks x =>
    obtain ⟨o1, o2, o3, o4, o5, _⟩ := ok
    refine ⟨[((wthT f as g bs ks, x), kw "with" :: (callTk f as ++ kw "," :: (callTk g bs ++ (if ks.isEmpty = true then [] else kw "swallow" :: nsTk ks))))], rfl, ?_, fun q hq => ?_⟩
    · show kw "with" :: (callTk f as ++ kw "," :: (callTk g bs ++ ((if ks.isEmpty = true then [] else kw "swallow" :: nsTk ks) ++ kw "{" :: bTk x))) = _ ++ (kw "{" :: bTk x) ++ []
      rw [List.append_nil]
      simp
    · rw [List.mem_singleton.mp hq]
      exact rs_wth F o1 o2 o3 o4 o5
theorem parts_ok {s : TS} (ok : s.Ok) : ∀ q ∈ prS s, q.2.Ok := by
  cases s with
  | pl p => exact fun q hq => by cases hq
  | iff x y =>
    intro q hq
    rcases List.mem_cons.mp hq with rfl | hq
    · exact ok.1
    · split at hq
      · cases hq
      · rw [List.mem_singleton.mp hq]
        exact ok.2
  | whl x =>
    intro q hq
    rw [List.mem_singleton.mp hq]
    exact ok
  | undo vs x =>
    intro q hq
    rw [List.mem_singleton.mp hq]
    exact ok.2.2
  | tr x hs y =>
    obtain ⟨o1, _, o2, o3⟩ := ok
    intro q hq
    have hq : q ∈ (Str.ofString "try", x) :: hs.L.map hdT ++ (if (!y.L.isEmpty || hs.L.isEmpty) = true then [(Str.ofString "finally", y)] else []) := hq
    rcases List.mem_append.mp hq with hq | hq
    · rcases List.mem_cons.mp hq with rfl | hq
      · exact o1
      · obtain ⟨h, hh, rfl⟩ := List.mem_map.mp hq
        exact (TH.ok_mem o2 hh).2.2
    · split at hq
      · rw [List.mem_singleton.mp hq]
        exact o3
      · cases hq
  | wth f as g bs ks x =>
    intro q hq
    rw [List.mem_singleton.mp hq]
    exact ok.2.2.2.2.2
theorem parts_ht {s : TS} {n : Nat} (h : s.ht ≤ n + 1) : ∀ q ∈ prS s, q.2.ht ≤ n := by
  cases s with
  | pl p => exact fun q hq => by cases hq
  | iff x y =>
    have h : max x.ht y.ht + 1 ≤ n + 1 := h
    intro q hq
    rcases List.mem_cons.mp hq with rfl | hq
    · show x.ht ≤ n
      omega
    · split at hq
      · cases hq
      · rw [List.mem_singleton.mp hq]
        show y.ht ≤ n
        omega
  | whl x =>
    intro q hq
    rw [List.mem_singleton.mp hq]
    exact Nat.le_of_succ_le_succ h
  | undo vs x =>
    intro q hq
    rw [List.mem_singleton.mp hq]
    exact Nat.le_of_succ_le_succ h
  | tr x hs y =>
    have h : max x.ht (max hs.ht y.ht) + 1 ≤ n + 1 := h
    intro q hq
    have hq : q ∈ (Str.ofString "try", x) :: hs.L.map hdT ++ (if (!y.L.isEmpty || hs.L.isEmpty) = true then [(Str.ofString "finally", y)] else []) := hq
    rcases List.mem_append.mp hq with hq | hq
    · rcases List.mem_cons.mp hq with rfl | hq
      · show x.ht ≤ n
        omega
      · obtain ⟨w, hw, rfl⟩ := List.mem_map.mp hq
        have := TH.ht_mem hw
        show w.2.ht ≤ n
        omega
    · split at hq
      · rw [List.mem_singleton.mp hq]
        show y.ht ≤ n
        omega
      · cases hq
  | wth f as g bs ks x =>
    intro q hq
    rw [List.mem_singleton.mp hq]
    exact Nat.le_of_succ_le_succ h
theorem no_parts {s : TS} (h : prS s = []) : ∃ p, s = .pl p := by
  cases s with
  | pl p => exact ⟨p, rfl⟩
  | iff x y => cases h
  | whl x => cases h
  | undo vs x => cases h
  | tr x hs y => cases h
  | wth f as g bs ks x => cases h
theorem ht_zero {s : TS} (h : s.ht ≤ 0) : ∃ p, s = .pl p := by
  cases s with
  | pl p => exact ⟨p, rfl⟩
  | iff x y => exact absurd h (Nat.not_succ_le_zero _)
  | whl x => exact absurd h (Nat.not_succ_le_zero _)
  | undo vs x => exact absurd h (Nat.not_succ_le_zero _)
  | tr x hs y => exact absurd h (Nat.not_succ_le_zero _)
  | wth f as g bs ks x => exact absurd h (Nat.not_succ_le_zero _)
theorem rl_plain (F : Form φ) {ind : Str} (hi : RA φ ind []) {p : P0} (ok : P0Ok p) : RL φ [ind ++ plS (.pl p)] (sTk (.pl p)) := RL.one F (hi.appS (rs_pl F ok))
theorem rl_stm (F : Form φ) : ∀ {n : Nat} {ind : Str} {s : TS}, RA φ ind [] → s.Ok → s.ht ≤ n → RL φ (lnS n ind s) (sTk s)
  | 0, ind, s, hi, ok, h => by
    obtain ⟨p, rfl⟩ := ht_zero h
    exact rl_plain F hi ok
  | n + 1, ind, s, hi, ok, h => by
    show RL φ (if (prS s).isEmpty = true then [ind ++ plS s] else blkL (lnS n) ind ind (prS s)) (sTk s)
    by_cases e : (prS s).isEmpty = true
    · rw [if_pos e]
      obtain ⟨p, rfl⟩ := no_parts (List.isEmpty_iff.mp e)
      exact rl_plain F hi ok
    · rw [if_neg e]
      have h0 : prS s ≠ [] := fun z => e (List.isEmpty_iff.mpr z)
      obtain ⟨Q, e1, e2, hq⟩ := parts_of F ok h0
      have hok := parts_ok ok
      have hht := parts_ht h
      rw [e1] at h0 hok hht ⊢
      rw [e2]
      have h1 : Q ≠ [] := fun z => h0 (by rw [z]; rfl)
      have hi2 : RA φ (ind ++ Str.ofString "  ") [] := hi.app (ra_ind F)
      exact (rl_blk F hi (ln := lnS n) (bf := ind) (β := []) (fun q hq' => ⟨hq q hq', fun t ht => rl_stm F hi2 (TB.ok_mem (hok _ (List.mem_map.mpr ⟨q, hq', rfl⟩)) ht) (Nat.le_trans (TB.ht_mem ht) (hht _ (List.mem_map.mpr ⟨q, hq', rfl⟩)))⟩) hi).2 h1
/-! whole trees -/
theorem rs_pa (F : Form φ) {p : Str × Bool} (h : NameOk p.1) : RS φ (paW p) (paTk p) := by
  obtain ⟨v, b⟩ := p
  cases b with
  | true => exact (ra_amp F).appS (rs_name F h)
  | false => exact rs_name F h
theorem ra_pas (F : Form φ) {ps : List (Str × Bool)} (h : ∀ p ∈ ps, NameOk p.1) : RA φ (paT ps) (lsTk (ps.map paTk)) := by
  have := rs_join F (ps.map fun x => (paW x, paTk x)) fun q hq => by
    obtain ⟨x, hx, rfl⟩ := List.mem_map.mp hq
    exact rs_pa F (h x hx)
  rw [List.map_map, List.map_map] at this
  exact ((ra_open F).1.appS this).appA (ra_shut F).2 (ra_shut F).1
theorem rl_fn (F : Form φ) {f : FnT} (ok : FnOk3 f) : RL φ (fnL f) (kw "def" :: fTk f) := by
  have h1 : RS φ (fnH f) (kw "def" :: tk "NAME" f.nm :: lsTk (f.ps.map paTk)) := by
    have := (((ra_def F).appS (rs_name F ok.nm)).appA (by exact (ra_open F).2.app.app) (ra_pas F ok.ps.nm)).s
    exact this
  have hi : RA φ (Str.ofString "") [] := ra_nil
  have := (rl_blk F hi (ln := lnS 3) (bf := Str.ofString "") (β := []) (Q := [((fnH f, f.bk), kw "def" :: tk "NAME" f.nm :: lsTk (f.ps.map paTk))]) (fun q hq => by
    rw [List.mem_singleton.mp hq]
    exact ⟨h1, fun s hs => rl_stm F (hi.app (ra_ind F)) (TB.ok_mem ok.bk hs) (Nat.le_trans (TB.ht_mem hs) ok.ht)⟩) hi).2 (List.cons_ne_nil _ _)
  have e : ([] : List Tk) ++ ptTk [((fnH f, f.bk), kw "def" :: tk "NAME" f.nm :: lsTk (f.ps.map paTk))] = kw "def" :: fTk f := by
    show kw "def" :: tk "NAME" f.nm :: (lsTk (f.ps.map paTk) ++ (kw "{" :: bTk f.bk) ++ []) = kw "def" :: tk "NAME" f.nm :: (lsTk (f.ps.map paTk) ++ kw "{" :: bTk f.bk)
    rw [List.append_nil]
  rw [← e]
  exact this
theorem rl_fns (F : Form φ) : ∀ {fs : List FnT}, (∀ f ∈ fs, FnOk3 f) → RL φ (fs.map fnL).flatten (fnsTk fs)
  | [], _ => RL.nil
  | f :: r, h => RL.app (rl_fn F (h f List.mem_cons_self)) (rl_fns F fun g hg => h g (List.mem_cons_of_mem _ hg))
theorem rl_keeps (F : Form φ) : ∀ {l : List Ex}, (∀ e ∈ l, ExOk e) → RL φ (l.map fun e => Str.ofString "keep " ++ eT e) (keepsTk l)
  | [], _ => RL.nil
  | e :: r, h => RL.cons F ((ra_kee F).appS (rs_ex F (h e List.mem_cons_self))) (rl_keeps F fun g hg => h g (List.mem_cons_of_mem _ hg))
theorem rs_words (F : Form φ) : ∀ {ns : List Str}, (∀ v ∈ ns, NameOk v) → RS φ (Txt.join (Str.ofString " ") ns) (ns.map fun v => tk "NAME" v) := by
  have h32 := rd_bl F (c := 32) (.inl rfl)
  have hl : ∀ (ns : List Str), (∀ v ∈ ns, NameOk v) → RdS φ (joinL [32] (ns.map tl)) (ns.map fun v => tk "NAME" v) := by
    intro l
    induction l with
    | nil => exact fun _ => RdA.nil.s
    | cons x r ih =>
      intro h
      cases r with
      | nil => exact rs_name F (h x List.mem_cons_self)
      | cons y r =>
        have h1 := rs_name F (h x List.mem_cons_self)
        have h2 := ih fun q hq => h q (List.mem_cons_of_mem _ hq)
        show RdS φ (tl x ++ ([32] ++ joinL [32] ((y :: r).map tl))) ([tk "NAME" x] ++ ([] ++ (y :: r).map fun v => tk "NAME" v))
        exact RdS.app h1 h32.2.app (h32.1.appS h2)
  intro ns h
  unfold RS
  rw [join_eq, tl_join, show tl (Str.ofString " ") = [32] from by decide +kernel]
  exact hl ns h
theorem rl_wd (F : Form φ) {x k : Str} {ns : List Str} (hk : RA φ x [kw k]) (h : ∀ v ∈ ns, NameOk v) : RL φ (wdL x ns) (declTk k ns) := by
  unfold wdL declTk
  split
  · exact RL.nil
  · exact RL.one F (hk.appS (rs_words F h))
theorem rl_tree (F : Form φ) {t : Tree} (ok : TreeOk t) : RL φ (treeL t) (treeTk t) := by
  have := (((rl_wd F (ra_glo F) ok.gs.nm).app (rl_wd F (ra_kin F) ok.ks.nm)).app (rl_keeps F ok.kp)).app (rl_fns F ok.fs)
  rw [show treeTk t = declTk "globals" t.gs ++ declTk "kinds" t.ks ++ keepsTk t.kp ++ fnsTk t.fs by
    unfold treeTk
    simp only [List.append_assoc]]
  exact this
theorem joinL_nil : ∀ l : List (List Nat), joinL [] l = l.flatten
  | [] => rfl
  | [x] => by
    show x = x ++ []
    rw [List.append_nil]
  | x :: y :: r => by
    show x ++ ([] ++ joinL [] (y :: r)) = x ++ (y :: r).flatten
    rw [List.nil_append, joinL_nil (y :: r)]
theorem showX_tl (t : Tree) : tl (showX t) = lnC (treeL t) := by
  unfold showX lnC
  rw [join_eq, tl_join, tl_empty, joinL_nil, List.map_map]
  congr 1
  refine List.map_congr_left fun z _ => ?_
  show tl (z ++ Str.ofString "\n") = _
  rw [tl_append]
  congr 1
/-- a tree's text in any form gives its tokens -/
theorem show_kt (F : Form φ) {t : Tree} (ok : TreeOk t) : ∀ rest, kt ((tl (showX t)).flatMap φ ++ rest) = treeTk t ++ kt rest := by
  rw [showX_tl]
  exact rl_tree F ok
end
end K3
namespace K3
open PySem PySem.Spec PyProof.Rows L2 TL
/-! ### one sign replaced -/
theorem repl_one {c : Nat} {z : List Nat} : ∀ {l : List Nat}, StrLaws.replL [c] z l = l.flatMap fun d => if d = c then z else [d]
  | [] => StrLaws.replL_nil
  | d :: r => by
    rw [List.flatMap_cons, ← repl_one (l := r)]
    by_cases h : d = c
    · subst h
      rw [StrLaws.replL_hit (List.cons_ne_nil _ _) rfl, if_pos rfl]
      rfl
    · rw [StrLaws.replL_miss (y := [c]) (c := d) (fun e => h (List.cons.inj (show [d] = [c] from e)).1), if_neg h]
      rfl
theorem tl_repl {x y z : Str} {c : Nat} (hy : tl y = [c]) : tl (Txt.replace x y z) = (tl x).flatMap fun d => if d = c then tl z else [d] := by
  have h1 : 1 ≤ y.length := by
    rw [len_tl, hy]
    exact Nat.le_refl _
  have := StrLaws.replace_list (x := x) (y := y) (z := z) h1
  rw [show y.cps.toList = [c] from hy] at this
  exact this.trans repl_one
def φI (d : Nat) : List Nat := [d]
def φN (d : Nat) : List Nat := if d = 10 then [32] else [d]
def φC (cs : List Nat) (d : Nat) : List Nat := if d ∈ cs then [32, d, 32, 10] else [d]
theorem flat_I (l : List Nat) : l.flatMap φI = l := by
  induction l with
  | nil => rfl
  | cons c r ih =>
    rw [List.flatMap_cons, ih]
    rfl
theorem no_mem : ∀ d ∈ ([] : List Nat), d = 32 ∨ d = 10 := fun _ h => by cases h
theorem sgs_two : ∀ c ∈ SGS, c ≠ 32 ∧ c ≠ 10 := by decide
theorem alnum_sgs {c : Nat} (h : alnum c = true) : c ∉ SGS ∧ c ≠ 32 ∧ c ≠ 10 := by
  refine ⟨fun z => ?_, fun z => ?_, fun z => ?_⟩
  · rw [(sgs_are c z).1] at h
    cases h
  · rw [(blank_two (.inl z)).2] at h
    cases h
  · rw [(blank_two (.inr z)).2] at h
    cases h
theorem form_I : Form φI := ⟨fun _ _ => rfl, fun c h => ⟨List.cons_ne_nil _ _, fun d hd => by rw [List.mem_singleton.mp hd]; exact h⟩, fun c _ => ⟨[], [], rfl, no_mem, no_mem⟩⟩
theorem form_N : Form φN := by
  refine ⟨fun c h => if_neg (alnum_sgs h).2.2, fun c h => ?_, fun c h => ⟨[], [], if_neg (sgs_two c h).2, no_mem, no_mem⟩⟩
  rcases h with rfl | rfl
  · exact ⟨by decide, by decide⟩
  · exact ⟨by decide, by decide⟩
theorem form_C : Form (φC SGS) := by
  refine ⟨fun c h => if_neg (alnum_sgs h).1, fun c h => ?_, fun c h => ⟨[32], [32, 10], if_pos h, by decide, by decide⟩⟩
  rcases h with rfl | rfl
  · exact ⟨by decide, by decide⟩
  · exact ⟨by decide, by decide⟩
theorem wide_tl {y1 y2 : Str} (e1 : tl y1 = [32]) (e2 : tl y2 = [32, 10]) : ∀ {cs : List Nat} {z : Str}, cs.Nodup → 32 ∉ cs → 10 ∉ cs → tl (wideL y1 y2 z cs) = (tl z).flatMap (φC cs)
  | [], z, _, _, _ => by
    show tl z = _
    rw [show φC [] = φI from rfl, flat_I]
  | c :: cs, z, hn, h1, h2 => by
    obtain ⟨n1, n2⟩ := List.nodup_cons.mp hn
    have m1 : 32 ∉ cs := fun m => h1 (List.mem_cons_of_mem _ m)
    have m2 : 10 ∉ cs := fun m => h2 (List.mem_cons_of_mem _ m)
    have ih := wide_tl e1 e2 (cs := cs) (z := Txt.replace z ⟨#[c]⟩ (y1 ++ ⟨#[c]⟩ ++ y2)) n2 m1 m2
    show tl (wideL y1 y2 (Txt.replace z ⟨#[c]⟩ (y1 ++ ⟨#[c]⟩ ++ y2)) cs) = _
    rw [ih, tl_repl (c := c) rfl, List.flatMap_assoc]
    congr 1
    funext d
    have ey : tl (y1 ++ ⟨#[c]⟩ ++ y2) = [32, c, 32, 10] := by
      rw [tl_append, tl_append, e1, e2]
      rfl
    rw [ey]
    by_cases h : d = c
    · subst h
      rw [if_pos rfl]
      unfold φC
      rw [if_pos List.mem_cons_self]
      simp only [List.flatMap_cons, List.flatMap_nil, if_neg n1, if_neg m1, if_neg m2]
      rfl
    · rw [if_neg h]
      unfold φC
      simp only [List.flatMap_cons, List.flatMap_nil, List.append_nil, List.mem_cons, h, false_or]
theorem map_len {φ : Nat → List Nat} {m : Nat} (h : ∀ d, (φ d).length ≤ m) : ∀ l : List Nat, (l.flatMap φ).length ≤ l.length * m
  | [] => Nat.zero_le _
  | c :: r => by
    have h1 := h c
    have h2 := map_len h r
    rw [List.flatMap_cons, List.length_append, List.length_cons, Nat.add_mul, Nat.one_mul]
    omega
theorem φC_len (cs : List Nat) (d : Nat) : (φC cs d).length ≤ 4 := by
  unfold φC
  split
  · exact Nat.le_refl _
  · show 1 ≤ 4
    omega
theorem wide_len {y1 y2 : Str} (e1 : tl y1 = [32]) (e2 : tl y2 = [32, 10]) {cs : List Nat} {z : Str} (hn : cs.Nodup) (h1 : 32 ∉ cs) (h2 : 10 ∉ cs) : (wideL y1 y2 z cs).length ≤ z.length * 4 := by
  rw [len_tl, wide_tl e1 e2 hn h1 h2, len_tl]
  exact map_len (φC_len cs) _
theorem repl_len {x y z : Str} {c : Nat} (hy : tl y = [c]) (hz : z.length = 1) : (Txt.replace x y z).length ≤ x.length := by
  rw [len_tl, tl_repl hy, len_tl x]
  have := map_len (φ := fun d => if d = c then tl z else [d]) (m := 1) (fun d => by
    split
    · rw [← len_tl, hz]
      exact Nat.le_refl _
    · exact Nat.le_refl _) (tl x)
  rw [Nat.mul_one] at this
  exact this
/-! ### the four forms -/
def wideT (z : Str) : Str := wideL (Str.ofString " ") (Str.ofString " \n") z SGS
def flatT (z : Str) : Str := Txt.replace z (Str.ofString "\n") (Str.ofString " ")
def padT (z : Str) : Str := Str.ofString "\n " ++ z ++ Str.ofString "  "
theorem sgs_nodup : SGS.Nodup ∧ 32 ∉ SGS ∧ 10 ∉ SGS := by decide
theorem wideT_len {z : Str} : (wideT z).length ≤ z.length * 4 := wide_len (by decide +kernel) (by decide +kernel) sgs_nodup.1 sgs_nodup.2.1 sgs_nodup.2.2
theorem flatT_len {z : Str} : (flatT z).length ≤ z.length := repl_len (c := 10) (by decide +kernel) (by decide +kernel)
theorem padT_len {z : Str} : (padT z).length = z.length + 4 := by
  unfold padT
  rw [Str.length_append, Str.length_append, show (Str.ofString "\n ").length = 2 from by decide +kernel, show (Str.ofString "  ").length = 2 from by decide +kernel]
  omega
theorem kt_nil : kt [] = [] := rfl
theorem toks_kp (z : Str) : (toks z).map kp = kt (tl z) ++ [tk "END" ""] := by
  unfold toks
  rw [List.map_append]
  rfl
/-- one of the forms of a tree's text -/
def FormOf (t : Tree) (z : Str) : Prop := z.length ≤ 700000 ∧ kt (tl z) = treeTk t
theorem form_of {φ : Nat → List Nat} (F : Form φ) {t : Tree} {z : Str} (ok : TreeOk t) (e : tl z = (tl (showX t)).flatMap φ) : kt (tl z) = treeTk t := by
  have := show_kt F ok []
  rw [List.append_nil, kt_nil, List.append_nil] at this
  rw [e, this]
theorem form1 {t : Tree} (ok : TreeOk t) : FormOf t (showX t) := ⟨Nat.le_trans (showX_len ok) (by decide), form_of form_I ok (flat_I _).symm⟩
theorem form2 {t : Tree} (ok : TreeOk t) : FormOf t (flatT (showX t)) := by
  refine ⟨Nat.le_trans flatT_len (Nat.le_trans (showX_len ok) (by decide)), form_of form_N ok ?_⟩
  unfold flatT
  rw [tl_repl (c := 10) (by decide +kernel), show tl (Str.ofString " ") = [32] from by decide +kernel]
  rfl
theorem form3 {t : Tree} (ok : TreeOk t) : FormOf t (wideT (showX t)) := by
  refine ⟨Nat.le_trans wideT_len (Nat.le_trans (Nat.mul_le_mul_right 4 (showX_len ok)) (by decide)), form_of form_C ok ?_⟩
  exact wide_tl (by decide +kernel) (by decide +kernel) sgs_nodup.1 sgs_nodup.2.1 sgs_nodup.2.2
theorem form4 {t : Tree} (ok : TreeOk t) : FormOf t (padT (showX t)) := by
  refine ⟨?_, ?_⟩
  · rw [padT_len]
    exact Nat.le_trans (Nat.add_le_add_right (showX_len ok) 4) (by decide)
  · unfold padT
    rw [tl_append, tl_append, show tl (Str.ofString "\n ") = [10, 32] from by decide +kernel, show tl (Str.ofString "  ") = [32, 32] from by decide +kernel]
    have := show_kt form_I ok [32, 32]
    rw [flat_I] at this
    rw [List.append_assoc, kt_blanks (b := [10, 32]) (by decide), this, show kt [32, 32] = [] from kt_blanks (b := [32, 32]) (r := []) (by decide), List.append_nil]
theorem form_toks {t : Tree} {z : Str} (h : FormOf t z) : (toks z).map kp = treeTk t ++ [tk "END" ""] := by
  rw [toks_kp, h.2]
end K3
namespace K3
open PySem PySem.Spec PyProof.Rows L2 TL
abbrev SGT : Str := Str.ofString "=+-*&?(){},"
theorem sgt_is : SGT.cps.toList = SGS := by decide +kernel
def spWide : Sp := fun vs H Q _ => ∃ z : Str, vs = [.str z] ∧ z.length ≤ 165474 ∧ Q (.str (wideT z)) H
theorem take_sgs (k : Nat) : (SGS.take k).Nodup ∧ 32 ∉ SGS.take k ∧ 10 ∉ SGS.take k :=
  ⟨(List.take_sublist k SGS).nodup sgs_nodup.1, fun h => sgs_nodup.2.1 (List.mem_of_mem_take h), fun h => sgs_nodup.2.2 (List.mem_of_mem_take h)⟩
theorem one_ne (c : Nat) : ((⟨#[c]⟩ : Str) == Str.ofString " " ++ ⟨#[c]⟩ ++ Str.ofString " \n") = false := by
  refine beq_eq_false_iff_ne.mpr fun h => ?_
  have := congrArg (fun s : Str => s.length) h
  have this : (⟨#[c]⟩ : Str).length = (Str.ofString " " ++ ⟨#[c]⟩ ++ Str.ofString " \n").length := this
  rw [Str.length_append, Str.length_append, show (Str.ofString " ").length = 1 from by decide +kernel, show (Str.ofString " \n").length = 2 from by decide +kernel, show (⟨#[c]⟩ : Str).length = 1 from rfl] at this
  omega
section
variable {P : Program} {w : World} {K : PySem.W.Frag} {mg : Str → Option Value} {base : Heap} {a : Ads}
theorem sc__law_wide : FnScope ["_law_text_here", "_law_wide_here", "_law_sign"] ["_law_text_here"] (defScope s__law_wide) := ⟨rfl, rfl, rfl, by decide +kernel, rfl, by decide +kernel, by decide +kernel⟩
theorem ok__law_wide (T : Txt K mg a) : FnOk P w K mg base CX0 3 a.f__law_wide a.f__law_wide_d ["_law_text_here"] spWide := by
  refine T.F__law_wide.ok sc__law_wide (fun vs H Q E h => ?_) (fun cdv A outer s H vs Q E hr h => ?_)
  · obtain ⟨z, rfl, _⟩ := h
    rfl
  obtain ⟨z, rfl, hz, q⟩ := h
  refine ⟨_, (pss_cons (ps_set (i := 1) sc__law_wide.nd rfl (Or.inl rfl) (pv 0))
    (pss_cons (ps_wide (iw := 1) (ix := 2) (y1 := Str.ofString " ") (y2 := Str.ofString " \n") (l := SGT) PassesOwn.never rfl sc__law_wide.nd rfl rfl (by decide) (by rfl) (Or.inl rfl) (by rfl) (by rfl) (by decide +kernel) (by decide +kernel) (by decide +kernel) (by decide +kernel) (by decide +kernel) (by decide +kernel) one_ne (by rfl) (by rfl) (by rfl) (by rfl) (by intro _; rfl))
    (pss_one (ps_ret (pv 1))))), ?_⟩
  refine st_seq (st_set (fun Q q => ⟨_, rfl, q⟩) ?_)
  dsimp only [gName]
  refine st_seq ⟨z, rfl, fun k c hc => ?_, fun v => ⟨_, rfl, ?_⟩⟩
  · rw [sgt_is]
    have h1 := wide_len (y1 := Str.ofString " ") (y2 := Str.ofString " \n") (by decide +kernel) (by decide +kernel) (z := z) (take_sgs k).1 (take_sgs k).2.1 (take_sgs k).2.2
    rw [Str.length_append, Str.length_append, show (Str.ofString " ").length = 1 from by decide +kernel, show (Str.ofString " \n").length = 2 from by decide +kernel, show (⟨#[c]⟩ : Str).length = 1 from rfl]
    omega
  · rw [sgt_is]
    exact q
end
end K3
namespace K3
open PySem PySem.Spec PyProof.Rows L2 TL
def spLaw (K : PySem.W.Frag) : Sp := fun vs H Q _ => ∃ (p : Addr) (ns : List Int), vs = [.ref p] ∧ SqL K H p (ns.map V.int) ∧ ns.length ≤ 63 ∧ ∀ H', Q (.bl true) H'
section
variable {P : Program} {w : World} {K : PySem.W.Frag} {mg : Str → Option Value} {base : Heap} {a : Ads}
theorem ok_parse3 (T : Txt K mg a) {tP tN : Addr} (D : Dcts K w mg a tP tN) : FnOk P w K mg base CX0 26 a.f_parse a.f_parse_d ["text"] (spParseA 3) :=
  ok_parse1 T 3 25 (by decide) (ok_read_function1 T 3 24 (by decide) (ok_blocks T D 3))
theorem sc_law : FnScope ["_law_script", "_law_pool_here", "_law_tree_here", "_law_text_here", "_law_told", "_law_form"] ["_law_script"] (defScope s_law) := ⟨rfl, rfl, rfl, by decide +kernel, rfl, by decide +kernel, by decide +kernel⟩
theorem ok_law (T : Txt K mg a) {tP tN : Addr} (D : Dcts K w mg a tP tN) : FnOk P w K mg base CX0 33 a.f_law a.f_law_d ["_law_script"] (spLaw K) := by
  refine T.F_law.ok sc_law (fun vs H Q E h => ?_) (fun cdv A outer s H vs Q E hr h => ?_)
  · obtain ⟨p, ns, rfl, _⟩ := h
    rfl
  obtain ⟨scr, zs, rfl, hS, hlen, q⟩ := h
  refine ⟨_, (pss_setT (i := 1) sc_law.nd rfl rfl rfl (pe_call (ok__law_pool T) (hr.mono (by decide)) (by rfl) T.g__law_pool T.F__law_pool.kp T.b__law_pool .nil pass0 (pa_cons (pv 0) pa_nil))
    (psst_cons (PST.of (ps_set (i := 2) sc_law.nd rfl (Or.inl rfl) (pe_call (ok__law_tree T) (hr.mono (by decide)) (by rfl) T.g__law_tree T.F__law_tree.kp T.b__law_tree .nil pass0 (pa_cons (pv 1) pa_nil))))
    (psst_cons (PST.of (ps_set (i := 3) sc_law.nd rfl (Or.inl rfl) (pe_call (ok__law_text T) (hr.mono (by decide)) (by rfl) T.g__law_text T.F__law_text.kp T.b__law_text .nil pass0 (pa_cons (pv 2) pa_nil))))
    (psst_cons (PST.of (ps_set (i := 4) sc_law.nd rfl (Or.inl rfl) (pe_call (ok_show T) (hr.mono (by decide)) (by rfl) T.g_show T.F_show.kp T.b_show .nil pass0 (pa_cons (pv 2) pa_nil))))
    (psst_cons (PST.of (ps_if (PW.pt (pw_or (pt_not (pt_val (pe_callB call_isi (by rfl) T.isinstance (by decide +kernel) (pa_cons (pv 4) (pa_cons (pe_bltn (v := .ty "str") (by rfl) T.str (by decide +kernel) rfl) pa_nil))))) (pw_or1 (pt_cmpR op_ne (pv 4) (pv 3) (nomark _)))))
      (pss_one (ps_ret pe_bl))
      pss_nil))
    (psst_cons (pst_for PassesOwn.never rfl (pit_list (pet_lst (pat_cons (CwR.PET.of (pv 3)) (pat_cons (CwR.pet_replC (pv 3)) (pat_cons (CwR.PET.of (pe_call (ok__law_wide T) (hr.mono (by decide)) (by rfl) T.g__law_wide T.F__law_wide.kp T.b__law_wide .nil pass0 (pa_cons (pv 3) pa_nil))) (pat_cons (CwR.PET.of (pe_op op_add_str (pe_op op_add_str pe_str (pv 3)) pe_str)) pat_nil)))))) (pg_name (i := 5) sc_law.nd rfl (Or.inl rfl))
      (pss_one (ps_if (pt_not (pt_truth (pe_call (ok__law_same T 31) (hr.mono (by decide)) (by rfl) T.g__law_same T.F__law_same.kp T.b__law_same .nil pass0 (pa_cons (pe_call (ok_parse3 T D) (hr.mono (by decide)) (by rfl) T.g_parse T.F_parse.kp T.b_parse .nil pass0 (pa_cons (pv 5) pa_nil)) (pa_cons (pv 2) pa_nil))) (by intro _; rfl)))
        (pss_one (ps_ret pe_bl))
        pss_nil)))
    (CwR.psst_one (PST.of (ps_ret pe_bl))))))))), ?_⟩
  refine st_seq ?_
  refine ⟨_, rfl, scr, zs, rfl, hS, hlen, fun H1 p l s1 np nl P1 => ?_⟩
  dsimp only [gName]
  refine ⟨_, rfl, p, l, 0, rfl, P1, by decide, fun t v H2 ok hv k2 => ?_⟩
  dsimp only [gName]
  refine ⟨_, rfl, v, t, rfl, hv, ok, fun H3 s3 => ?_⟩
  dsimp only [gName]
  refine ⟨_, rfl, v, t, rfl, hv.mono (TK.of s3), ok, fun H4 s4 => ?_⟩
  dsimp only [gName]
  generalize hz : showX t = z
  have f1 : FormOf t z := hz ▸ form1 ok
  have f2 : FormOf t (flatT z) := hz ▸ form2 ok
  have f3 : FormOf t (wideT z) := hz ▸ form3 ok
  have f4 : FormOf t (padT z) := hz ▸ form4 ok
  have hzl : z.length ≤ 165474 := hz ▸ showX_len ok
  refine st_seq (st_no (ans_or (ans_not (ans_isi (K := K) (i := 4) (b := true) rfl (.base (.str z)) (by decide +kernel))) (ans_ne (val_var rfl) (val_var rfl) rfl (by rw [decide_eq_true rfl]; rfl))) ?_)
  dsimp only [tNext]
  have hv4 : Dv H4 v (dT t) := (hv.mono (TK.of s3)).mono (TK.of s4)
  refine st_seq ⟨_, rfl, _, rfl, z, rfl, ?_, _, rfl, z, rfl, hzl, _, rfl, _, _, rfl, rfl, ?_, _, _, rfl, rfl, ?_, (by show 4 ≤ sizeLine; decide), fun F nF => ?_⟩
  · rw [show (Str.ofString " ").length = 1 from by decide +kernel]
    omega
  · rw [show (Str.ofString "\n ").length = 2 from by decide +kernel]
    exact bigLe (by omega)
  · rw [Str.length_append, show (Str.ofString "\n ").length = 2 from by decide +kernel, show (Str.ofString "  ").length = 2 from by decide +kernel]
    exact bigLe (by omega)
  have hF : (upd H4 F (.lst [.str z, .str (flatT z), .str (wideT z), .str (padT z)])) F = some (.lst ([z, flatT z, wideT z, padT z].map V.str)) := upd_same
  have sF : Same H4 (upd H4 F (.lst [.str z, .str (flatT z), .str (wideT z), .str (padT z)])) := same_upd nF
  have hall : ∀ y ∈ [z, flatT z, wideT z, padT z], FormOf t y := by
    intro y hy
    simp only [List.mem_cons, List.not_mem_nil, or_false] at hy
    rcases hy with rfl | rfl | rfl | rfl
    · exact f1
    · exact f2
    · exact f3
    · exact f4
  refine ⟨F, rfl, ⟨_, SqL.of hF⟩, for_list (K := K) (a := F) (xs := [z, flatT z, wideT z, padT z].map V.str) (fun i σ H' => ∃ v5 : Option V, σ = [some (.ref scr), some (.ref p), some v, some (.str z), some (.str z), v5] ∧ Same H4 H' ∧ H' F = some (.lst ([z, flatT z, wideT z, padT z].map V.str)))
    ⟨none, rfl, sF, hF⟩ (fun i σ H' _ ⟨_, _, _, h⟩ => SqL.of h) ?_ ?_⟩
  · rintro i x σ H' hi ⟨v5, rfl, s5, hF5⟩
    obtain ⟨y, hy, rfl⟩ := get_map hi
    have fy := hall y (List.mem_of_getElem? hy)
    obtain ⟨i1, i2, a1, a2, a3, a4⟩ := parse_at ok (form_toks fy)
    refine ⟨_, rfl, y, t.gs, t.ks, t.kp.map toK, t.fs.map toF, i1, i2, rfl, Nat.le_trans fy.1 (by decide), by decide, a1, a2, a3, ?_, a4, ?_, fun H6 q6 s6 r6 => ⟨_, rfl, _, _, dT t, rfl, fit_tree ok, tree_dv ok r6, hv4.mono (TK.of (s5.trans s6)), fun H7 s7 => ⟨true, rfl, iteF ?_⟩⟩⟩
    · rw [List.length_map]
      exact Nat.le_trans ok.kl (by decide)
    · rw [List.length_map]
      exact Nat.le_trans ok.fl (by decide)
    · exact ⟨some (.str y), rfl, (s5.trans s6).trans s7, (s6.trans s7) _ _ hF5⟩
  · rintro σ H' _
    exact q H'
end
end K3
/-! ### the head by one kernel run: what is asked of the written part is one check, the defs by the addresses at which they stand -/
namespace HeX
open PySem PySem.Spec PyProof.Rows L2
/-- one def: where it stands, its name, qualified name, parameters, body, scope, its defaults -/
structure DefX where
  at_ : PySem.W.Frag → Addr
  name : Str
  qual : Str
  params : Arguments
  body : List Stmt
  scope : Scope
  dfl : List He.Dv := []
def fnX (K : PySem.W.Frag) (a : Addr) : He.FnW := match K.lookup a with
  | some ⟨_, _, .func fd, _⟩ => some (fd.name, fd.qualname, fd.params, fd.body, fd.scope, fd.globals, fd.closure, fd.builtins)
  | _ => none
def DefX.val (d : DefX) : He.FnW := some (d.name, d.qual, d.params, .stmts d.body, d.scope, mainGlobals, [], builtinsNs)
def DefX.ok (K : PySem.W.Frag) (d : DefX) : Bool := PySem.W.keepIn K (.ref (d.at_ K)) && (match K.lookup (d.at_ K) with
  | some ⟨_, _, .func fd, _⟩ => PySem.W.codeIn K fd.code d.qual && He.dflB K fd.defaults (d.dfl.map (He.Dv.v K))
  | _ => false)
theorem DefX.funD {K : PySem.W.Frag} {d : DefX} (e : fnX K (d.at_ K) = d.val) (c : d.ok K = true) : ∃ fd, FunD K d.name d.qual d.params d.body d.scope (d.dfl.map (He.Dv.v K)) [] (d.at_ K) fd := by
  obtain ⟨kp, c2⟩ := He.ba c
  unfold fnX at e
  cases q : K.lookup (d.at_ K) with
  | none =>
    rw [q] at c2
    cases c2
  | some o =>
    obtain ⟨oc, od, dt, osl⟩ := o
    rw [q] at c2 e
    cases dt with
    | func fd =>
      obtain ⟨n1, n2, n3, n4, n5, n6, n7, n8, n9, n10, n11, n12, n13, n14, n15⟩ := fd
      have e2 : (some (n1, n2, n3, n4, n5, n6, n7, n15) : He.FnW) = some (d.name, d.qual, d.params, .stmts d.body, d.scope, mainGlobals, [], builtinsNs) := e
      simp only [Option.some.injEq, Prod.mk.injEq] at e2
      obtain ⟨h1, h2, h3, h4, h5, h6, h7, h8⟩ := e2
      subst h1 h2 h3 h4 h5 h6 h7 h8
      obtain ⟨k1, k2⟩ := He.ba (show (PySem.W.codeIn K n13 d.qual && He.dflB K n8 (d.dfl.map (He.Dv.v K))) = true from c2)
      exact ⟨_, ⟨oc, od, n8, n9, n10, n11, n12, n13, n14, osl, rfl, q, k1, He.dflB_ok k2, .inl rfl⟩, kp⟩
    | _ => cases c2
theorem fun_of {K : PySem.W.Frag} {x qual : Str} {st : Stmt} {f : Addr} {fd : FuncData} (F : FunD K x qual (defArgs st) (defBody st) (defScope st) [] [] f fd) : Fun K x qual st f fd := by
  obtain ⟨oc, od, dV, kV, doc, pm, an, cdv, ct, osl, rfl, lk, hcd, hD, _⟩ := F.ex
  rcases hD with ⟨_, e⟩ | ⟨e, _⟩
  · subst e
    exact ⟨⟨oc, od, kV, doc, pm, an, cdv, ct, osl, rfl, lk, hcd⟩, F.kp⟩
  · exact absurd rfl e
/-- a table of the top: where, its keys -/
abbrev TabX : Type := (PySem.W.Frag → Addr) × List Str
abbrev AlX : Type := Bool × List He.FnW × List (Option (List (Option (Str × Int))))
def obsX (chk : PySem.W.Frag → Bool) (fn : List DefX) (ts : List TabX) (K : PySem.W.Frag) : AlX := (chk K && fn.all fun d => d.ok K, fn.map fun d => fnX K (d.at_ K), ts.map fun t => He.dicW K (t.1 K))
def valX (fn : List DefX) (ts : List TabX) (w : World) : AlX := (true, fn.map DefX.val, ts.map fun t => some (He.keysIn w.params t.2))
def SaysX (chk : PySem.W.Frag → Bool) (fn : List DefX) (ts : List TabX) (w : World) (K : PySem.W.Frag) : Prop := obsX chk fn ts K = valX fn ts w
/-- what the checks look at: the module's names, and from there a class's names, a function's code and defaults, a table's values, a property's getter, level by level -/
def refsM (o : Obj) : List Addr := match o.data with
  | .seq its _ => its.toList.flatMap He.refV
  | .dict es _ => es.toList.flatMap fun e => He.refV e.val
  | .func fd => He.refV fd.code ++ He.refV fd.defaults
  | .cls cd => [cd.ns]
  | .fields vs => vs.toList.flatMap He.refV
  | _ => []
def lev (g : Addr → Option Obj) (as : List Addr) : List Addr := as.flatMap fun a => match g a with
  | some o => refsM o
  | none => []
def asL (g : Addr → Option Obj) : Nat → List Addr → List Addr
  | 0, as => as
  | n + 1, as => as ++ asL g n (lev g as)
def hookX (n : Nat) (chk : PySem.W.Frag → Bool) (fn : List DefX) (ts : List TabX) : PySem.W.Hook where
  α := AlX
  obs := fun s => obsX chk fn ts (He.frG s.heap.get? (asL s.heap.get? n [mainGlobals]))
  val := fun w => valX fn ts w
  says := fun w h => ∃ K : PySem.W.Frag, K.In h ∧ SaysX chk fn ts w K
  of := fun _ _ e => ⟨_, He.frG_in, e⟩
  keeps := fun _ _ _ ⟨K, hK, c⟩ k => ⟨K, PySem.W.Frag.In.keeps hK k, c⟩
def obX (n : Nat) (chk : PySem.W.Frag → Bool) (fn : List DefX) (ts : List TabX) (s : PySem.W.SharedT) : AlX := obsX chk fn ts (He.frG (HandSHeadRun.getT s) (asL (HandSHeadRun.getT s) n [mainGlobals]))
theorem obX_eq {n : Nat} {chk : PySem.W.Frag → Bool} {fn : List DefX} {ts : List TabX} (s : PySem.W.SharedT) : obX n chk fn ts s = (hookX n chk fn ts).obs s.abs := by
  have e : HandSHeadRun.getT s = s.abs.heap.get? := funext (HandSHeadRun.getT_eq s)
  unfold obX
  rw [e]
  rfl
section
variable {chk : PySem.W.Frag → Bool} {fn : List DefX} {ts : List TabX} {w : World} {K : PySem.W.Frag}
theorem SaysX.ok_ (c : SaysX chk fn ts w K) : chk K = true := (He.ba (show (chk K && fn.all fun d => d.ok K) = true from congrArg (fun z : AlX => z.1) c)).1
theorem SaysX.def_ (c : SaysX chk fn ts w K) (i : Nat) {d : DefX} (h : fn[i]? = some d := by rfl) : ∃ fd, FunD K d.name d.qual d.params d.body d.scope (d.dfl.map (He.Dv.v K)) [] (d.at_ K) fd := by
  have c2 := (He.ba (show (chk K && fn.all fun d => d.ok K) = true from congrArg (fun z : AlX => z.1) c)).2
  have e : fn.map (fun d => fnX K (d.at_ K)) = fn.map DefX.val := congrArg (fun z : AlX => z.2.1) c
  have e2 : (fn.map fun d => fnX K (d.at_ K))[i]? = (fn.map DefX.val)[i]? := by rw [e]
  rw [List.getElem?_map, List.getElem?_map, h] at e2
  exact DefX.funD (Option.some.inj e2) (List.all_eq_true.mp c2 d (List.mem_of_getElem? h))
theorem SaysX.tab (c : SaysX chk fn ts w K) (i : Nat) {t : TabX} (h : ts[i]? = some t := by rfl) : ∃ es n, KDict K w (t.1 K) es n := by
  have e : ts.map (fun t => He.dicW K (t.1 K)) = ts.map fun t => some (He.keysIn w.params t.2) := congrArg (fun z : AlX => z.2.2) c
  have e2 : (ts.map fun t => He.dicW K (t.1 K))[i]? = (ts.map fun t => some (He.keysIn w.params t.2))[i]? := by rw [e]
  rw [List.getElem?_map, List.getElem?_map, h] at e2
  exact He.dicW_ok (Option.some.inj e2)
end
/-- where a property's getter stands -/
def getAd (K : PySem.W.Frag) (p : Addr) : Addr := match PySem.W.recIn K p "property" with
  | some (.ref f :: _) => f
  | _ => 0
theorem getAd_ok {K : PySem.W.Frag} {p : Addr} (h : (match PySem.W.recIn K p "property" with | some (.ref _ :: _) => true | _ => false) = true) : ∃ rs, PySem.W.recIn K p "property" = some (.ref (getAd K p) :: rs) := by
  unfold getAd
  cases e : PySem.W.recIn K p "property" with
  | none =>
    rw [e] at h
    cases h
  | some l =>
    rw [e] at h
    cases l with
    | nil => cases h
    | cons v r =>
      cases v with
      | ref f => exact ⟨r, rfl⟩
      | _ => cases h
/-- an own error class over a built-in base -/
def excX (K : PySem.W.Frag) (C : Addr) (bm : List Value) (newId : String) : Bool := match K.lookup C with
  | some ⟨.type "type", _, .cls cd, sl⟩ => (match cd.mro, sl.toList with
    | .ref C' :: l, [_, _, _, _, some (.builtin n), _] => C' == C && n == newId && !cd.hasDel && cd.hasDict && l == bm
    | _, _ => false)
  | _ => false
theorem excX_ok {K : PySem.W.Frag} {C : Addr} {bm : List Value} {newId : String} (q : excX K C bm newId = true) : ∃ (nm qn : Str) (N : Addr) (bs : List Value) (sn : List Str) (sub : List Value) (ab : Bool) (col : Option Bool) (dd : Option Addr) (k0 k1 k2 k3 k5 : Option Value),
    K.lookup C = some (excClassObj nm qn C N bs bm true sn sub ab col dd k0 k1 k2 k3 k5 newId) := by
  unfold excX at q
  split at q
  · rename_i dd cd sl ho
    split at q
    · rename_i C' l k0 k1 k2 k3 n k5 hm hs
      simp only [Bool.and_eq_true, beq_iff_eq, Bool.not_eq_true'] at q
      obtain ⟨⟨⟨⟨rfl, rfl⟩, hdel⟩, hd⟩, rfl⟩ := q
      obtain ⟨nm, bs, mro, ns, qn, hdd, sn, sub, ab, col, del⟩ := cd
      dsimp only at hm hdel hd
      subst hm hdel hd
      have hsl : sl = #[k0, k1, k2, k3, some (.builtin n), k5] := by
        obtain ⟨l⟩ := sl
        simp only at hs
        rw [hs]
      subst hsl
      exact ⟨nm, qn, ns, bs, sn, sub, ab, col, dd, k0, k1, k2, k3, k5, ho⟩
    · cases q
  · cases q
/-- simple values of the text -/
def dvOf : V → He.Dv
  | .bl b => .bl b
  | .int i => .int i
  | .str x => .str x
  | .ty n => .ty n
  | _ => .non
theorem tup_of {K : PySem.W.Frag} {H : Hp} {a : Addr} {xs : List V} (e : (xs.map dvOf).map (He.Dv.v K) = xs) (h : SqT K H a ((xs.map dvOf).map (He.Dv.v K))) : SqT K H a xs := by
  rw [e] at h
  exact h
def valB (K : PySem.W.Frag) (a : Addr) (x : Str) (v : He.Dv) : Bool := match PySem.W.nsIn K a x with
  | some (some u) => He.relB (v.v K) u
  | _ => false
theorem kd_of {K : PySem.W.Frag} {w : World} {a : Addr} {x : Str} {v : V} {es : Array DictEntry} {n : Nat} (hl : K.lookup a = some ⟨.type "dict", none, .dict es n, #[]⟩) (hk : PySem.W.KeysLit w.params es.toList) (e : (dvOf v).v K = v) (h : valB K a x (dvOf v) = true) : KDct K w a x v := by
  unfold valB at h
  cases q : PySem.W.nsIn K a x with
  | none =>
    rw [q] at h
    cases h
  | some r =>
    rw [q] at h
    cases r with
    | none => cases h
    | some u =>
      have r := He.relB_ok (show He.relB ((dvOf v).v K) u = true from h)
      rw [e] at r
      exact ⟨es, n, u, hl, hk, q, r⟩
end HeX
namespace K3
open PySem PySem.Spec PyProof.Rows L2 TL
def chk0 (K : PySem.W.Frag) : Bool := decide ((PySem.W.nsIn K mainGlobals "_wall" = some (some (.ref (He.ga K "_wall")))) ∧
    (PySem.W.nsIn K mainGlobals "show" = some (some (.ref (He.ga K "show")))) ∧
    (PySem.W.nsIn K mainGlobals "shown_params" = some (some (.ref (He.ga K "shown_params")))) ∧
    (PySem.W.nsIn K mainGlobals "block_lines" = some (some (.ref (He.ga K "block_lines")))) ∧
    (PySem.W.nsIn K mainGlobals "statement_lines" = some (some (.ref (He.ga K "statement_lines")))) ∧
    (PySem.W.nsIn K mainGlobals "block_parts" = some (some (.ref (He.ga K "block_parts")))) ∧
    (PySem.W.nsIn K mainGlobals "if_parts" = some (some (.ref (He.ga K "if_parts")))) ∧
    (PySem.W.nsIn K mainGlobals "try_parts" = some (some (.ref (He.ga K "try_parts")))) ∧
    (PySem.W.nsIn K mainGlobals "shown_with" = some (some (.ref (He.ga K "shown_with")))) ∧
    (PySem.W.nsIn K mainGlobals "shown_plain" = some (some (.ref (He.ga K "shown_plain")))) ∧
    (PySem.W.nsIn K mainGlobals "shown_call" = some (some (.ref (He.ga K "shown_call")))) ∧
    (PySem.W.nsIn K mainGlobals "shown_arg" = some (some (.ref (He.ga K "shown_arg")))) ∧
    (PySem.W.nsIn K mainGlobals "shown_sum" = some (some (.ref (He.ga K "shown_sum")))) ∧
    (PySem.W.nsIn K mainGlobals "shown_term" = some (some (.ref (He.ga K "shown_term")))) ∧
    (PySem.W.nsIn K mainGlobals "is_word" = some (some (.ref (He.ga K "is_word")))) ∧
    (PySem.W.nsIn K mainGlobals "is_number" = some (some (.ref (He.ga K "is_number")))) ∧
    (PySem.W.nsIn K mainGlobals "kind_of" = some (some (.ref (He.ga K "kind_of")))) ∧
    (PySem.W.nsIn K mainGlobals "run_end" = some (some (.ref (He.ga K "run_end")))) ∧
    (PySem.W.nsIn K mainGlobals "tokens_of" = some (some (.ref (He.ga K "tokens_of")))) ∧
    (PySem.W.findIn K (.ref (He.ga K "Tokens")) "__init__" = some (some (.ref (He.ma K (He.ga K "Tokens") "__init__")))))
def chk1 (K : PySem.W.Frag) : Bool := decide ((PySem.W.isFn K (.ref (He.ma K (He.ga K "Tokens") "__init__")) = true) ∧
    (PySem.W.findIn K (.ref (He.ga K "Tokens")) "kind_ahead" = some (some (.ref (He.ma K (He.ga K "Tokens") "kind_ahead")))) ∧
    (PySem.W.isFn K (.ref (He.ma K (He.ga K "Tokens") "kind_ahead")) = true) ∧
    (PySem.W.findIn K (.ref (He.ga K "Tokens")) "here" = some (some (.ref (He.ma K (He.ga K "Tokens") "here")))) ∧
    (PySem.W.isFn K (.ref (He.ma K (He.ga K "Tokens") "here")) = true) ∧
    (PySem.W.findIn K (.ref (He.ga K "Tokens")) "take" = some (some (.ref (He.ma K (He.ga K "Tokens") "take")))) ∧
    (PySem.W.isFn K (.ref (He.ma K (He.ga K "Tokens") "take")) = true) ∧
    (PySem.W.findIn K (.ref (He.ga K "Tokens")) "skip" = some (some (.ref (He.ma K (He.ga K "Tokens") "skip")))) ∧
    (PySem.W.isFn K (.ref (He.ma K (He.ga K "Tokens") "skip")) = true) ∧
    (PySem.W.findIn K (.ref (He.ga K "Tokens")) "word_ahead" = some (some (.ref (He.ma K (He.ga K "Tokens") "word_ahead")))) ∧
    (PySem.W.isFn K (.ref (He.ma K (He.ga K "Tokens") "word_ahead")) = true) ∧
    (PySem.W.findIn K (.ref (He.ga K "Tokens")) "skip_word" = some (some (.ref (He.ma K (He.ga K "Tokens") "skip_word")))) ∧
    (PySem.W.isFn K (.ref (He.ma K (He.ga K "Tokens") "skip_word")) = true) ∧
    (PySem.W.findIn K (.ref (He.ga K "Tokens")) "take_word" = some (some (.ref (He.ma K (He.ga K "Tokens") "take_word")))) ∧
    (PySem.W.isFn K (.ref (He.ma K (He.ga K "Tokens") "take_word")) = true) ∧
    (PySem.W.nsIn K mainGlobals "parse" = some (some (.ref (He.ga K "parse")))) ∧
    (PySem.W.nsIn K mainGlobals "read_declared" = some (some (.ref (He.ga K "read_declared")))) ∧
    (PySem.W.nsIn K mainGlobals "read_function" = some (some (.ref (He.ga K "read_function")))) ∧
    (PySem.W.nsIn K mainGlobals "read_param" = some (some (.ref (He.ga K "read_param")))) ∧
    (PySem.W.nsIn K mainGlobals "read_listed" = some (some (.ref (He.ga K "read_listed")))))
def chk2 (K : PySem.W.Frag) : Bool := decide ((PySem.W.nsIn K mainGlobals "read_names" = some (some (.ref (He.ga K "read_names")))) ∧
    (PySem.W.nsIn K mainGlobals "read_block" = some (some (.ref (He.ga K "read_block")))) ∧
    (PySem.W.nsIn K mainGlobals "read_statement" = some (some (.ref (He.ga K "read_statement")))) ∧
    (PySem.W.nsIn K mainGlobals "read_named" = some (some (.ref (He.ga K "read_named")))) ∧
    (PySem.W.nsIn K mainGlobals "read_call_to" = some (some (.ref (He.ga K "read_call_to")))) ∧
    (PySem.W.nsIn K mainGlobals "read_call" = some (some (.ref (He.ga K "read_call")))) ∧
    (PySem.W.nsIn K mainGlobals "read_arg" = some (some (.ref (He.ga K "read_arg")))) ∧
    (PySem.W.nsIn K mainGlobals "read_risk" = some (some (.ref (He.ga K "read_risk")))) ∧
    (PySem.W.nsIn K mainGlobals "read_raise" = some (some (.ref (He.ga K "read_raise")))) ∧
    (PySem.W.nsIn K mainGlobals "read_return" = some (some (.ref (He.ga K "read_return")))) ∧
    (PySem.W.nsIn K mainGlobals "read_if" = some (some (.ref (He.ga K "read_if")))) ∧
    (PySem.W.nsIn K mainGlobals "read_while" = some (some (.ref (He.ga K "read_while")))) ∧
    (PySem.W.nsIn K mainGlobals "read_undo" = some (some (.ref (He.ga K "read_undo")))) ∧
    (PySem.W.nsIn K mainGlobals "read_try" = some (some (.ref (He.ga K "read_try")))) ∧
    (PySem.W.nsIn K mainGlobals "read_handler" = some (some (.ref (He.ga K "read_handler")))) ∧
    (PySem.W.nsIn K mainGlobals "read_with" = some (some (.ref (He.ga K "read_with")))) ∧
    (PySem.W.nsIn K mainGlobals "read_expression" = some (some (.ref (He.ga K "read_expression")))) ∧
    (PySem.W.nsIn K mainGlobals "read_sign" = some (some (.ref (He.ga K "read_sign")))) ∧
    (PySem.W.nsIn K mainGlobals "read_term" = some (some (.ref (He.ga K "read_term")))) ∧
    (PySem.W.nsIn K mainGlobals "read_number" = some (some (.ref (He.ga K "read_number")))))
def chk3 (K : PySem.W.Frag) : Bool := decide ((PySem.W.nsIn K mainGlobals "_law_pool" = some (some (.ref (He.ga K "_law_pool")))) ∧
    (PySem.W.nsIn K mainGlobals "_law_mixed" = some (some (.ref (He.ga K "_law_mixed")))) ∧
    (PySem.W.nsIn K mainGlobals "_law_draw" = some (some (.ref (He.ga K "_law_draw")))) ∧
    (PySem.W.nsIn K mainGlobals "_law_names" = some (some (.ref (He.ga K "_law_names")))) ∧
    (PySem.W.nsIn K mainGlobals "_law_expression" = some (some (.ref (He.ga K "_law_expression")))) ∧
    (PySem.W.nsIn K mainGlobals "_law_args" = some (some (.ref (He.ga K "_law_args")))) ∧
    (PySem.W.nsIn K mainGlobals "_law_call" = some (some (.ref (He.ga K "_law_call")))) ∧
    (PySem.W.nsIn K mainGlobals "_law_some" = some (some (.ref (He.ga K "_law_some")))) ∧
    (PySem.W.nsIn K mainGlobals "_law_piece" = some (some (.ref (He.ga K "_law_piece")))) ∧
    (PySem.W.nsIn K mainGlobals "_law_block" = some (some (.ref (He.ga K "_law_block")))) ∧
    (PySem.W.nsIn K mainGlobals "_law_tree" = some (some (.ref (He.ga K "_law_tree")))) ∧
    (PySem.W.nsIn K mainGlobals "_law_parts" = some (some (.ref (He.ga K "_law_parts")))) ∧
    (PySem.W.nsIn K mainGlobals "_law_size" = some (some (.ref (He.ga K "_law_size")))) ∧
    (PySem.W.nsIn K mainGlobals "_law_expression_text" = some (some (.ref (He.ga K "_law_expression_text")))) ∧
    (PySem.W.nsIn K mainGlobals "_law_call_text" = some (some (.ref (He.ga K "_law_call_text")))) ∧
    (PySem.W.nsIn K mainGlobals "_law_heads" = some (some (.ref (He.ga K "_law_heads")))) ∧
    (PySem.W.nsIn K mainGlobals "_law_line" = some (some (.ref (He.ga K "_law_line")))) ∧
    (PySem.W.nsIn K mainGlobals "_law_lines" = some (some (.ref (He.ga K "_law_lines")))) ∧
    (PySem.W.nsIn K mainGlobals "_law_text" = some (some (.ref (He.ga K "_law_text")))) ∧
    (PySem.W.nsIn K mainGlobals "_law_same" = some (some (.ref (He.ga K "_law_same")))))
def chk4 (K : PySem.W.Frag) : Bool := decide ((PySem.W.nsIn K mainGlobals "_law_wide" = some (some (.ref (He.ga K "_law_wide")))) ∧
    (PySem.W.nsIn K mainGlobals "law" = some (some (.ref (He.ga K "law")))) ∧
    (PySem.W.nsIn K mainGlobals "Tokens" = some (some (.ref (He.ga K "Tokens")))) ∧
    (PySem.W.plainGet K (He.ga K "Tokens") Str.empty = true) ∧
    (PySem.W.hasDictIn K (He.ga K "Tokens") = true) ∧
    (PySem.W.plainOver K (He.ga K "Tokens") = true) ∧
    (PySem.W.findIn K (.ref (He.ga K "Tokens")) "__setattr__" = some (some (.builtin "object.__setattr__"))) ∧
    (PySem.W.makesIn K (He.ga K "Tokens") = true) ∧
    (PySem.W.keepIn K (.ref (He.ga K "Tokens")) = true) ∧
    (PySem.W.findIn K (.ref (He.ga K "Tokens")) "found" = some none) ∧
    (PySem.W.findIn K (.ref (He.ga K "Tokens")) "taken" = some none) ∧
    (PySem.W.nsIn K mainGlobals "int" = some none) ∧
    (PySem.W.nsIn K mainGlobals "len" = some none) ∧
    (PySem.W.nsIn K mainGlobals "all" = some none) ∧
    (PySem.W.nsIn K mainGlobals "max" = some none) ∧
    (PySem.W.nsIn K mainGlobals "isinstance" = some none) ∧
    (PySem.W.nsIn K mainGlobals "str" = some none) ∧
    (PySem.W.nsIn K mainGlobals "tuple" = some none) ∧
    (PySem.W.nsIn K mainGlobals "sorted" = some none) ∧
    (PySem.W.nsIn K mainGlobals "abs" = some none))
def chk5 (K : PySem.W.Frag) : Bool := decide ((PySem.W.nsIn K mainGlobals "range" = some none) ∧
    (PySem.W.nsIn K mainGlobals "bool" = some none) ∧
    (PySem.W.nsIn K mainGlobals "list" = some none) ∧
    (PySem.W.nsIn K mainGlobals "sum" = some none) ∧
    ((He.Fa.str "LETTERS" LET).ok K = true) ∧
    ((He.Fa.str "DIGITS" DIG).ok K = true) ∧
    ((He.Fa.str "BLANKS" " \n").ok K = true) ∧
    ((He.Fa.str "NAME" "NAME").ok K = true) ∧
    ((He.Fa.str "NUMBER" "NUMBER").ok K = true) ∧
    ((He.Fa.str "WRONG" "WRONG").ok K = true) ∧
    ((He.Fa.str "END" "END").ok K = true) ∧
    ((He.Fa.str "INDENT" "  ").ok K = true) ∧
    ((He.Fa.int "MOST_DIGITS" (12)).ok K = true) ∧
    ((He.Fa.int "MOST_NESTED" (30)).ok K = true) ∧
    (PySem.W.nsIn K mainGlobals "KEYWORDS" = some (some (.ref (He.ga K "KEYWORDS")))) ∧
    (He.tupB K "KEYWORDS" ((kws).map HeX.dvOf) = true) ∧
    (PySem.W.nsIn K mainGlobals "SIGNS" = some (some (.ref (He.ga K "SIGNS")))) ∧
    (He.tupB K "SIGNS" ((sgs).map HeX.dvOf) = true) ∧
    (PySem.W.nsIn K mainGlobals "PLAIN" = some (some (.ref (He.ga K "PLAIN")))) ∧
    (PySem.W.nsIn K (He.ga K "PLAIN") "risk" = some (some (.ref (He.ga K "read_risk")))))
def chk6 (K : PySem.W.Frag) : Bool := decide ((PySem.W.nsIn K (He.ga K "PLAIN") "raise" = some (some (.ref (He.ga K "read_raise")))) ∧
    (PySem.W.nsIn K (He.ga K "PLAIN") "return" = some (some (.ref (He.ga K "read_return")))) ∧
    (PySem.W.nsIn K (He.ga K "PLAIN") "if" = some none) ∧
    (PySem.W.nsIn K (He.ga K "PLAIN") "while" = some none) ∧
    (PySem.W.nsIn K (He.ga K "PLAIN") "undo" = some none) ∧
    (PySem.W.nsIn K (He.ga K "PLAIN") "try" = some none) ∧
    (PySem.W.nsIn K (He.ga K "PLAIN") "with" = some none) ∧
    (PySem.W.nsIn K mainGlobals "NESTING" = some (some (.ref (He.ga K "NESTING")))) ∧
    (PySem.W.nsIn K (He.ga K "NESTING") "if" = some (some (.ref (He.ga K "read_if")))) ∧
    (PySem.W.nsIn K (He.ga K "NESTING") "while" = some (some (.ref (He.ga K "read_while")))) ∧
    (PySem.W.nsIn K (He.ga K "NESTING") "undo" = some (some (.ref (He.ga K "read_undo")))) ∧
    (PySem.W.nsIn K (He.ga K "NESTING") "try" = some (some (.ref (He.ga K "read_try")))) ∧
    (PySem.W.nsIn K (He.ga K "NESTING") "with" = some (some (.ref (He.ga K "read_with")))))
def chk (K : PySem.W.Frag) : Bool := chk0 K && (chk1 K && (chk2 K && (chk3 K && (chk4 K && (chk5 K && (chk6 K))))))
def dX__wall : HeX.DefX := ⟨fun K => He.ga K "_wall", "_wall", "_wall", defArgs s__wall, defBody s__wall, defScope s__wall, []⟩
def dX_show : HeX.DefX := ⟨fun K => He.ga K "show", "show", "show", defArgs s_show, defBody s_show, defScope s_show, []⟩
def dX_shown_params : HeX.DefX := ⟨fun K => He.ga K "shown_params", "shown_params", "shown_params", defArgs s_shown_params, defBody s_shown_params, defScope s_shown_params, []⟩
def dX_block_lines : HeX.DefX := ⟨fun K => He.ga K "block_lines", "block_lines", "block_lines", defArgs s_block_lines, defBody s_block_lines, defScope s_block_lines, []⟩
def dX_statement_lines : HeX.DefX := ⟨fun K => He.ga K "statement_lines", "statement_lines", "statement_lines", defArgs s_statement_lines, defBody s_statement_lines, defScope s_statement_lines, []⟩
def dX_block_parts : HeX.DefX := ⟨fun K => He.ga K "block_parts", "block_parts", "block_parts", defArgs s_block_parts, defBody s_block_parts, defScope s_block_parts, []⟩
def dX_if_parts : HeX.DefX := ⟨fun K => He.ga K "if_parts", "if_parts", "if_parts", defArgs s_if_parts, defBody s_if_parts, defScope s_if_parts, []⟩
def dX_try_parts : HeX.DefX := ⟨fun K => He.ga K "try_parts", "try_parts", "try_parts", defArgs s_try_parts, defBody s_try_parts, defScope s_try_parts, []⟩
def dX_shown_with : HeX.DefX := ⟨fun K => He.ga K "shown_with", "shown_with", "shown_with", defArgs s_shown_with, defBody s_shown_with, defScope s_shown_with, []⟩
def dX_shown_plain : HeX.DefX := ⟨fun K => He.ga K "shown_plain", "shown_plain", "shown_plain", defArgs s_shown_plain, defBody s_shown_plain, defScope s_shown_plain, []⟩
def dX_shown_call : HeX.DefX := ⟨fun K => He.ga K "shown_call", "shown_call", "shown_call", defArgs s_shown_call, defBody s_shown_call, defScope s_shown_call, []⟩
def dX_shown_arg : HeX.DefX := ⟨fun K => He.ga K "shown_arg", "shown_arg", "shown_arg", defArgs s_shown_arg, defBody s_shown_arg, defScope s_shown_arg, []⟩
def dX_shown_sum : HeX.DefX := ⟨fun K => He.ga K "shown_sum", "shown_sum", "shown_sum", defArgs s_shown_sum, defBody s_shown_sum, defScope s_shown_sum, []⟩
def dX_shown_term : HeX.DefX := ⟨fun K => He.ga K "shown_term", "shown_term", "shown_term", defArgs s_shown_term, defBody s_shown_term, defScope s_shown_term, []⟩
def dX_is_word : HeX.DefX := ⟨fun K => He.ga K "is_word", "is_word", "is_word", defArgs s_is_word, defBody s_is_word, defScope s_is_word, []⟩
def dX_is_number : HeX.DefX := ⟨fun K => He.ga K "is_number", "is_number", "is_number", defArgs s_is_number, defBody s_is_number, defScope s_is_number, []⟩
def dX_kind_of : HeX.DefX := ⟨fun K => He.ga K "kind_of", "kind_of", "kind_of", defArgs s_kind_of, defBody s_kind_of, defScope s_kind_of, []⟩
def dX_run_end : HeX.DefX := ⟨fun K => He.ga K "run_end", "run_end", "run_end", defArgs s_run_end, defBody s_run_end, defScope s_run_end, []⟩
def dX_tokens_of : HeX.DefX := ⟨fun K => He.ga K "tokens_of", "tokens_of", "tokens_of", defArgs s_tokens_of, defBody s_tokens_of, defScope s_tokens_of, []⟩
def dX_Tokens___init__ : HeX.DefX := ⟨fun K => He.ma K (He.ga K "Tokens") "__init__", "__init__", "Tokens.__init__", defArgs s_Tokens___init__, defBody s_Tokens___init__, defScope s_Tokens___init__, []⟩
def dX_Tokens_kind_ahead : HeX.DefX := ⟨fun K => He.ma K (He.ga K "Tokens") "kind_ahead", "kind_ahead", "Tokens.kind_ahead", defArgs s_Tokens_kind_ahead, defBody s_Tokens_kind_ahead, defScope s_Tokens_kind_ahead, [HeX.dvOf (.int 0)]⟩
def dX_Tokens_here : HeX.DefX := ⟨fun K => He.ma K (He.ga K "Tokens") "here", "here", "Tokens.here", defArgs s_Tokens_here, defBody s_Tokens_here, defScope s_Tokens_here, []⟩
def dX_Tokens_take : HeX.DefX := ⟨fun K => He.ma K (He.ga K "Tokens") "take", "take", "Tokens.take", defArgs s_Tokens_take, defBody s_Tokens_take, defScope s_Tokens_take, []⟩
def dX_Tokens_skip : HeX.DefX := ⟨fun K => He.ma K (He.ga K "Tokens") "skip", "skip", "Tokens.skip", defArgs s_Tokens_skip, defBody s_Tokens_skip, defScope s_Tokens_skip, []⟩
def dX_Tokens_word_ahead : HeX.DefX := ⟨fun K => He.ma K (He.ga K "Tokens") "word_ahead", "word_ahead", "Tokens.word_ahead", defArgs s_Tokens_word_ahead, defBody s_Tokens_word_ahead, defScope s_Tokens_word_ahead, []⟩
def dX_Tokens_skip_word : HeX.DefX := ⟨fun K => He.ma K (He.ga K "Tokens") "skip_word", "skip_word", "Tokens.skip_word", defArgs s_Tokens_skip_word, defBody s_Tokens_skip_word, defScope s_Tokens_skip_word, []⟩
def dX_Tokens_take_word : HeX.DefX := ⟨fun K => He.ma K (He.ga K "Tokens") "take_word", "take_word", "Tokens.take_word", defArgs s_Tokens_take_word, defBody s_Tokens_take_word, defScope s_Tokens_take_word, []⟩
def dX_parse : HeX.DefX := ⟨fun K => He.ga K "parse", "parse", "parse", defArgs s_parse, defBody s_parse, defScope s_parse, []⟩
def dX_read_declared : HeX.DefX := ⟨fun K => He.ga K "read_declared", "read_declared", "read_declared", defArgs s_read_declared, defBody s_read_declared, defScope s_read_declared, []⟩
def dX_read_function : HeX.DefX := ⟨fun K => He.ga K "read_function", "read_function", "read_function", defArgs s_read_function, defBody s_read_function, defScope s_read_function, []⟩
def dX_read_param : HeX.DefX := ⟨fun K => He.ga K "read_param", "read_param", "read_param", defArgs s_read_param, defBody s_read_param, defScope s_read_param, []⟩
def dX_read_listed : HeX.DefX := ⟨fun K => He.ga K "read_listed", "read_listed", "read_listed", defArgs s_read_listed, defBody s_read_listed, defScope s_read_listed, []⟩
def dX_read_names : HeX.DefX := ⟨fun K => He.ga K "read_names", "read_names", "read_names", defArgs s_read_names, defBody s_read_names, defScope s_read_names, []⟩
def dX_read_block : HeX.DefX := ⟨fun K => He.ga K "read_block", "read_block", "read_block", defArgs s_read_block, defBody s_read_block, defScope s_read_block, []⟩
def dX_read_statement : HeX.DefX := ⟨fun K => He.ga K "read_statement", "read_statement", "read_statement", defArgs s_read_statement, defBody s_read_statement, defScope s_read_statement, []⟩
def dX_read_named : HeX.DefX := ⟨fun K => He.ga K "read_named", "read_named", "read_named", defArgs s_read_named, defBody s_read_named, defScope s_read_named, []⟩
def dX_read_call_to : HeX.DefX := ⟨fun K => He.ga K "read_call_to", "read_call_to", "read_call_to", defArgs s_read_call_to, defBody s_read_call_to, defScope s_read_call_to, []⟩
def dX_read_call : HeX.DefX := ⟨fun K => He.ga K "read_call", "read_call", "read_call", defArgs s_read_call, defBody s_read_call, defScope s_read_call, []⟩
def dX_read_arg : HeX.DefX := ⟨fun K => He.ga K "read_arg", "read_arg", "read_arg", defArgs s_read_arg, defBody s_read_arg, defScope s_read_arg, []⟩
def dX_read_risk : HeX.DefX := ⟨fun K => He.ga K "read_risk", "read_risk", "read_risk", defArgs s_read_risk, defBody s_read_risk, defScope s_read_risk, []⟩
def dX_read_raise : HeX.DefX := ⟨fun K => He.ga K "read_raise", "read_raise", "read_raise", defArgs s_read_raise, defBody s_read_raise, defScope s_read_raise, []⟩
def dX_read_return : HeX.DefX := ⟨fun K => He.ga K "read_return", "read_return", "read_return", defArgs s_read_return, defBody s_read_return, defScope s_read_return, []⟩
def dX_read_if : HeX.DefX := ⟨fun K => He.ga K "read_if", "read_if", "read_if", defArgs s_read_if, defBody s_read_if, defScope s_read_if, []⟩
def dX_read_while : HeX.DefX := ⟨fun K => He.ga K "read_while", "read_while", "read_while", defArgs s_read_while, defBody s_read_while, defScope s_read_while, []⟩
def dX_read_undo : HeX.DefX := ⟨fun K => He.ga K "read_undo", "read_undo", "read_undo", defArgs s_read_undo, defBody s_read_undo, defScope s_read_undo, []⟩
def dX_read_try : HeX.DefX := ⟨fun K => He.ga K "read_try", "read_try", "read_try", defArgs s_read_try, defBody s_read_try, defScope s_read_try, []⟩
def dX_read_handler : HeX.DefX := ⟨fun K => He.ga K "read_handler", "read_handler", "read_handler", defArgs s_read_handler, defBody s_read_handler, defScope s_read_handler, []⟩
def dX_read_with : HeX.DefX := ⟨fun K => He.ga K "read_with", "read_with", "read_with", defArgs s_read_with, defBody s_read_with, defScope s_read_with, []⟩
def dX_read_expression : HeX.DefX := ⟨fun K => He.ga K "read_expression", "read_expression", "read_expression", defArgs s_read_expression, defBody s_read_expression, defScope s_read_expression, []⟩
def dX_read_sign : HeX.DefX := ⟨fun K => He.ga K "read_sign", "read_sign", "read_sign", defArgs s_read_sign, defBody s_read_sign, defScope s_read_sign, []⟩
def dX_read_term : HeX.DefX := ⟨fun K => He.ga K "read_term", "read_term", "read_term", defArgs s_read_term, defBody s_read_term, defScope s_read_term, []⟩
def dX_read_number : HeX.DefX := ⟨fun K => He.ga K "read_number", "read_number", "read_number", defArgs s_read_number, defBody s_read_number, defScope s_read_number, []⟩
def dX__law_pool : HeX.DefX := ⟨fun K => He.ga K "_law_pool", "_law_pool", "_law_pool", defArgs s__law_pool, defBody s__law_pool, defScope s__law_pool, []⟩
def dX__law_mixed : HeX.DefX := ⟨fun K => He.ga K "_law_mixed", "_law_mixed", "_law_mixed", defArgs s__law_mixed, defBody s__law_mixed, defScope s__law_mixed, []⟩
def dX__law_draw : HeX.DefX := ⟨fun K => He.ga K "_law_draw", "_law_draw", "_law_draw", defArgs s__law_draw, defBody s__law_draw, defScope s__law_draw, []⟩
def dX__law_names : HeX.DefX := ⟨fun K => He.ga K "_law_names", "_law_names", "_law_names", defArgs s__law_names, defBody s__law_names, defScope s__law_names, []⟩
def dX__law_expression : HeX.DefX := ⟨fun K => He.ga K "_law_expression", "_law_expression", "_law_expression", defArgs s__law_expression, defBody s__law_expression, defScope s__law_expression, []⟩
def dX__law_args : HeX.DefX := ⟨fun K => He.ga K "_law_args", "_law_args", "_law_args", defArgs s__law_args, defBody s__law_args, defScope s__law_args, []⟩
def dX__law_call : HeX.DefX := ⟨fun K => He.ga K "_law_call", "_law_call", "_law_call", defArgs s__law_call, defBody s__law_call, defScope s__law_call, []⟩
def dX__law_some : HeX.DefX := ⟨fun K => He.ga K "_law_some", "_law_some", "_law_some", defArgs s__law_some, defBody s__law_some, defScope s__law_some, []⟩
def dX__law_piece : HeX.DefX := ⟨fun K => He.ga K "_law_piece", "_law_piece", "_law_piece", defArgs s__law_piece, defBody s__law_piece, defScope s__law_piece, []⟩
def dX__law_block : HeX.DefX := ⟨fun K => He.ga K "_law_block", "_law_block", "_law_block", defArgs s__law_block, defBody s__law_block, defScope s__law_block, []⟩
def dX__law_tree : HeX.DefX := ⟨fun K => He.ga K "_law_tree", "_law_tree", "_law_tree", defArgs s__law_tree, defBody s__law_tree, defScope s__law_tree, []⟩
def dX__law_parts : HeX.DefX := ⟨fun K => He.ga K "_law_parts", "_law_parts", "_law_parts", defArgs s__law_parts, defBody s__law_parts, defScope s__law_parts, []⟩
def dX__law_size : HeX.DefX := ⟨fun K => He.ga K "_law_size", "_law_size", "_law_size", defArgs s__law_size, defBody s__law_size, defScope s__law_size, []⟩
def dX__law_expression_text : HeX.DefX := ⟨fun K => He.ga K "_law_expression_text", "_law_expression_text", "_law_expression_text", defArgs s__law_expression_text, defBody s__law_expression_text, defScope s__law_expression_text, []⟩
def dX__law_call_text : HeX.DefX := ⟨fun K => He.ga K "_law_call_text", "_law_call_text", "_law_call_text", defArgs s__law_call_text, defBody s__law_call_text, defScope s__law_call_text, []⟩
def dX__law_heads : HeX.DefX := ⟨fun K => He.ga K "_law_heads", "_law_heads", "_law_heads", defArgs s__law_heads, defBody s__law_heads, defScope s__law_heads, []⟩
def dX__law_line : HeX.DefX := ⟨fun K => He.ga K "_law_line", "_law_line", "_law_line", defArgs s__law_line, defBody s__law_line, defScope s__law_line, []⟩
def dX__law_lines : HeX.DefX := ⟨fun K => He.ga K "_law_lines", "_law_lines", "_law_lines", defArgs s__law_lines, defBody s__law_lines, defScope s__law_lines, []⟩
def dX__law_text : HeX.DefX := ⟨fun K => He.ga K "_law_text", "_law_text", "_law_text", defArgs s__law_text, defBody s__law_text, defScope s__law_text, []⟩
def dX__law_same : HeX.DefX := ⟨fun K => He.ga K "_law_same", "_law_same", "_law_same", defArgs s__law_same, defBody s__law_same, defScope s__law_same, []⟩
def dX__law_wide : HeX.DefX := ⟨fun K => He.ga K "_law_wide", "_law_wide", "_law_wide", defArgs s__law_wide, defBody s__law_wide, defScope s__law_wide, []⟩
def dX_law : HeX.DefX := ⟨fun K => He.ga K "law", "law", "law", defArgs s_law, defBody s_law, defScope s_law, []⟩
def fnX0 : List HeX.DefX := [dX__wall, dX_show, dX_shown_params, dX_block_lines, dX_statement_lines, dX_block_parts, dX_if_parts, dX_try_parts, dX_shown_with, dX_shown_plain, dX_shown_call, dX_shown_arg, dX_shown_sum, dX_shown_term, dX_is_word, dX_is_number, dX_kind_of, dX_run_end, dX_tokens_of, dX_Tokens___init__]
def fnX1 : List HeX.DefX := [dX_Tokens_kind_ahead, dX_Tokens_here, dX_Tokens_take, dX_Tokens_skip, dX_Tokens_word_ahead, dX_Tokens_skip_word, dX_Tokens_take_word, dX_parse, dX_read_declared, dX_read_function, dX_read_param, dX_read_listed, dX_read_names, dX_read_block, dX_read_statement, dX_read_named, dX_read_call_to, dX_read_call, dX_read_arg, dX_read_risk]
def fnX2 : List HeX.DefX := [dX_read_raise, dX_read_return, dX_read_if, dX_read_while, dX_read_undo, dX_read_try, dX_read_handler, dX_read_with, dX_read_expression, dX_read_sign, dX_read_term, dX_read_number, dX__law_pool, dX__law_mixed, dX__law_draw, dX__law_names, dX__law_expression, dX__law_args, dX__law_call, dX__law_some]
def fnX3 : List HeX.DefX := [dX__law_piece, dX__law_block, dX__law_tree, dX__law_parts, dX__law_size, dX__law_expression_text, dX__law_call_text, dX__law_heads, dX__law_line, dX__law_lines, dX__law_text, dX__law_same, dX__law_wide, dX_law]
def fnsX : List HeX.DefX := fnX0 ++ (fnX1 ++ (fnX2 ++ (fnX3)))
def tabL : List HeX.TabX := [(fun K => He.ga K "PLAIN", ["risk", "raise", "return"]), (fun K => He.ga K "NESTING", ["if", "while", "undo", "try", "with"])]
def nmX0 : List PySem.Str := ["_wall", "INDENT", "show", "shown_params", "block_lines", "statement_lines", "block_parts", "if_parts", "try_parts", "shown_with", "shown_plain", "shown_call", "shown_arg", "shown_sum", "shown_term", "ProgramError", "InvalidText", "InvalidSyntax", "TooLarge", "LETTERS", "DIGITS", "SIGNS", "BLANKS", "KEYWORDS", "NAME", "NUMBER", "WRONG", "END", "is_word", "is_number"]
def nmX1 : List PySem.Str := ["kind_of", "run_end", "tokens_of", "Tokens", "MOST_DIGITS", "MOST_NESTED", "parse", "read_declared", "read_function", "read_param", "read_listed", "read_names", "read_block", "read_statement", "read_named", "read_call_to", "read_call", "read_arg", "read_risk", "read_raise", "read_return", "read_if", "read_while", "read_undo", "read_try", "read_handler", "read_with", "PLAIN", "NESTING", "read_expression"]
def nmX2 : List PySem.Str := ["read_sign", "read_term", "read_number", "_law_pool", "_law_mixed", "_law_draw", "_law_names", "_law_expression", "_law_args", "_law_call", "_law_some", "_law_piece", "_law_block", "_law_tree", "_law_parts", "_law_size", "_law_expression_text", "_law_call_text", "_law_heads", "_law_line", "_law_lines", "_law_text", "_law_same", "_law_wide"]
def nmL : List PySem.Str := nmX0 ++ (nmX1 ++ (nmX2))
abbrev R : PySem.W.OpenRow := PySem.W.OpenLaw.row PySem.Challenge.rw_allornothing_k03_texts_and_trees
abbrev hk : PySem.W.Hook := HeX.hookX 6 chk fnsX tabL
/-- what the checks look at, behind the run -/
def kOf (s : PySem.W.SharedT) : PySem.W.Frag := He.frG (HandSHeadRun.getT s) (HeX.asL (HandSHeadRun.getT s) 6 [mainGlobals])
open PySem.W in
theorem rl0 (w : World) (os : OsState) : (HandSHeadRun.endF (HandSHeadRun.stepQ (HandSHeadRun.denQ HandSHeadRun.tabQ) R.prog (World.withFollow w "special-get-raises" false)) 9000 R.prog (World.withFollow w "special-get-raises" false) os).map (fun s => HandSHeadRun.looksF R.prog (boot_heap (World.withFollow w "special-get-raises" false).params) s.abs) = some true := by kernel_rfl
open PySem.W in
theorem rs0 (w : World) (os : OsState) : (HandSHeadRun.endF (HandSHeadRun.stepQ (HandSHeadRun.denQ HandSHeadRun.tabQ) R.prog (World.withFollow w "special-get-raises" false)) 9000 R.prog (World.withFollow w "special-get-raises" false) os).map (fun s => HandSHeadRun.seenQ (PySem.W.view R.prog [89]) nmL (PySem.importedModules R.prog.main.body) (fun s => PySem.W.xlAt (PySem.W.view R.prog [89]) [] s && PySem.W.recOk R.toRowW.records s) s.abs) = some (PySem.W.openGood (PySem.W.view R.prog [89]) nmL) := by kernel_rfl
open PySem.W in
theorem rc0_0 (w : World) (os : OsState) : (HandSHeadRun.endF (HandSHeadRun.stepQ (HandSHeadRun.denQ HandSHeadRun.tabQ) R.prog (World.withFollow w "special-get-raises" false)) 9000 R.prog (World.withFollow w "special-get-raises" false) os).map (fun s => (chk0 (kOf s), chk1 (kOf s), chk2 (kOf s), chk3 (kOf s))) = some (true, true, true, true) := by kernel_rfl
open PySem.W in
theorem rc4_0 (w : World) (os : OsState) : (HandSHeadRun.endF (HandSHeadRun.stepQ (HandSHeadRun.denQ HandSHeadRun.tabQ) R.prog (World.withFollow w "special-get-raises" false)) 9000 R.prog (World.withFollow w "special-get-raises" false) os).map (fun s => (chk4 (kOf s), chk5 (kOf s), chk6 (kOf s))) = some (true, true, true) := by kernel_rfl
open PySem.W in
theorem rd0_0 (w : World) (os : OsState) : (HandSHeadRun.endF (HandSHeadRun.stepQ (HandSHeadRun.denQ HandSHeadRun.tabQ) R.prog (World.withFollow w "special-get-raises" false)) 9000 R.prog (World.withFollow w "special-get-raises" false) os).map (fun s => (((fnX0.all fun d => d.ok (kOf s)), fnX0.map fun d => HeX.fnX (kOf s) (d.at_ (kOf s))), ((fnX1.all fun d => d.ok (kOf s)), fnX1.map fun d => HeX.fnX (kOf s) (d.at_ (kOf s))), ((fnX2.all fun d => d.ok (kOf s)), fnX2.map fun d => HeX.fnX (kOf s) (d.at_ (kOf s))))) = some ((true, fnX0.map HeX.DefX.val), (true, fnX1.map HeX.DefX.val), (true, fnX2.map HeX.DefX.val)) := by kernel_rfl
open PySem.W in
theorem rd3_0 (w : World) (os : OsState) : (HandSHeadRun.endF (HandSHeadRun.stepQ (HandSHeadRun.denQ HandSHeadRun.tabQ) R.prog (World.withFollow w "special-get-raises" false)) 9000 R.prog (World.withFollow w "special-get-raises" false) os).map (fun s => (((fnX3.all fun d => d.ok (kOf s)), fnX3.map fun d => HeX.fnX (kOf s) (d.at_ (kOf s))))) = some ((true, fnX3.map HeX.DefX.val)) := by kernel_rfl
open PySem.W in
theorem rt0 (w : World) (os : OsState) : (HandSHeadRun.endF (HandSHeadRun.stepQ (HandSHeadRun.denQ HandSHeadRun.tabQ) R.prog (World.withFollow w "special-get-raises" false)) 9000 R.prog (World.withFollow w "special-get-raises" false) os).map (fun s => tabL.map fun t => He.dicW (kOf s) (t.1 (kOf s))) = some (tabL.map fun t => some (He.keysIn (World.withFollow w "special-get-raises" false).params t.2)) := by kernel_rfl
open PySem.W in
theorem run0 (w : World) : HandSHeadRun.RunEq R (PySem.W.view R.prog [89]) hk (HeX.obX 6 chk fnsX tabL) 9000 nmL (World.withFollow w "special-get-raises" false) := by
  intro os
  obtain ⟨s, hs, hl⟩ := Option.map_eq_some_iff.mp (rl0 w os)
  have h_rs0 := rs0 w os
  rw [hs] at h_rs0
  replace h_rs0 := Option.some.inj h_rs0
  have h_rc0_0 := rc0_0 w os
  rw [hs] at h_rc0_0
  replace h_rc0_0 := Option.some.inj h_rc0_0
  have h_rc4_0 := rc4_0 w os
  rw [hs] at h_rc4_0
  replace h_rc4_0 := Option.some.inj h_rc4_0
  have h_rd0_0 := rd0_0 w os
  rw [hs] at h_rd0_0
  replace h_rd0_0 := Option.some.inj h_rd0_0
  have h_rd3_0 := rd3_0 w os
  rw [hs] at h_rd3_0
  replace h_rd3_0 := Option.some.inj h_rd3_0
  have h_rt0 := rt0 w os
  rw [hs] at h_rt0
  replace h_rt0 := Option.some.inj h_rt0
  have c0 : chk0 (kOf s) = true := congrArg (fun z => z.1) h_rc0_0
  have c1 : chk1 (kOf s) = true := congrArg (fun z => z.2.1) h_rc0_0
  have c2 : chk2 (kOf s) = true := congrArg (fun z => z.2.2.1) h_rc0_0
  have c3 : chk3 (kOf s) = true := congrArg (fun z => z.2.2.2) h_rc0_0
  have c4 : chk4 (kOf s) = true := congrArg (fun z => z.1) h_rc4_0
  have c5 : chk5 (kOf s) = true := congrArg (fun z => z.2.1) h_rc4_0
  have c6 : chk6 (kOf s) = true := congrArg (fun z => z.2.2) h_rc4_0
  have d0 := congrArg (fun z => (z.1).1) h_rd0_0
  have e0 := congrArg (fun z => (z.1).2) h_rd0_0
  have d1 := congrArg (fun z => (z.2.1).1) h_rd0_0
  have e1 := congrArg (fun z => (z.2.1).2) h_rd0_0
  have d2 := congrArg (fun z => (z.2.2).1) h_rd0_0
  have e2 := congrArg (fun z => (z.2.2).2) h_rd0_0
  have d3 := congrArg (fun z => (z).1) h_rd3_0
  have e3 := congrArg (fun z => (z).2) h_rd3_0
  have ck : chk (kOf s) = true := by
    unfold chk
    rw [c0, c1, c2, c3, c4, c5, c6]
    rfl
  have dk : (fnsX.all fun d => d.ok (kOf s)) = true := by
    unfold fnsX
    simp only [List.all_append, Bool.and_eq_true]
    exact ⟨d0, d1, d2, d3⟩
  have ek : (fnsX.map fun d => HeX.fnX (kOf s) (d.at_ (kOf s))) = fnsX.map HeX.DefX.val := by
    unfold fnsX
    simp only [List.map_append]
    exact congr (congrArg (fun a b => a ++ b) e0) (congr (congrArg (fun a b => a ++ b) e1) (congr (congrArg (fun a b => a ++ b) e2) (e3)))
  have ob : HeX.obX 6 chk fnsX tabL s = HeX.valX fnsX tabL (World.withFollow w "special-get-raises" false) := by
    show (chk (kOf s) && fnsX.all fun d => d.ok (kOf s), fnsX.map fun d => HeX.fnX (kOf s) (d.at_ (kOf s)), tabL.map fun t => He.dicW (kOf s) (t.1 (kOf s))) = _
    rw [ck, dk, ek]
    exact congrArg (fun z => (true && true, fnsX.map HeX.DefX.val, z)) h_rt0
  rw [hs]
  show some (_, _, _) = some _
  rw [hl, ob]
  exact congrArg (fun z => some (true, z, HeX.valX fnsX tabL (World.withFollow w "special-get-raises" false))) h_rs0
open PySem.W in
theorem rl1 (w : World) (os : OsState) : (HandSHeadRun.endF (HandSHeadRun.stepQ (HandSHeadRun.denQ HandSHeadRun.tabQ) R.prog (World.withFollow w "special-get-raises" true)) 9000 R.prog (World.withFollow w "special-get-raises" true) os).map (fun s => HandSHeadRun.looksF R.prog (boot_heap (World.withFollow w "special-get-raises" true).params) s.abs) = some true := by kernel_rfl
open PySem.W in
theorem rs1 (w : World) (os : OsState) : (HandSHeadRun.endF (HandSHeadRun.stepQ (HandSHeadRun.denQ HandSHeadRun.tabQ) R.prog (World.withFollow w "special-get-raises" true)) 9000 R.prog (World.withFollow w "special-get-raises" true) os).map (fun s => HandSHeadRun.seenQ (PySem.W.view R.prog [89]) nmL (PySem.importedModules R.prog.main.body) (fun s => PySem.W.xlAt (PySem.W.view R.prog [89]) [] s && PySem.W.recOk R.toRowW.records s) s.abs) = some (PySem.W.openGood (PySem.W.view R.prog [89]) nmL) := by kernel_rfl
open PySem.W in
theorem rc0_1 (w : World) (os : OsState) : (HandSHeadRun.endF (HandSHeadRun.stepQ (HandSHeadRun.denQ HandSHeadRun.tabQ) R.prog (World.withFollow w "special-get-raises" true)) 9000 R.prog (World.withFollow w "special-get-raises" true) os).map (fun s => (chk0 (kOf s), chk1 (kOf s), chk2 (kOf s), chk3 (kOf s))) = some (true, true, true, true) := by kernel_rfl
open PySem.W in
theorem rc4_1 (w : World) (os : OsState) : (HandSHeadRun.endF (HandSHeadRun.stepQ (HandSHeadRun.denQ HandSHeadRun.tabQ) R.prog (World.withFollow w "special-get-raises" true)) 9000 R.prog (World.withFollow w "special-get-raises" true) os).map (fun s => (chk4 (kOf s), chk5 (kOf s), chk6 (kOf s))) = some (true, true, true) := by kernel_rfl
open PySem.W in
theorem rd0_1 (w : World) (os : OsState) : (HandSHeadRun.endF (HandSHeadRun.stepQ (HandSHeadRun.denQ HandSHeadRun.tabQ) R.prog (World.withFollow w "special-get-raises" true)) 9000 R.prog (World.withFollow w "special-get-raises" true) os).map (fun s => (((fnX0.all fun d => d.ok (kOf s)), fnX0.map fun d => HeX.fnX (kOf s) (d.at_ (kOf s))), ((fnX1.all fun d => d.ok (kOf s)), fnX1.map fun d => HeX.fnX (kOf s) (d.at_ (kOf s))), ((fnX2.all fun d => d.ok (kOf s)), fnX2.map fun d => HeX.fnX (kOf s) (d.at_ (kOf s))))) = some ((true, fnX0.map HeX.DefX.val), (true, fnX1.map HeX.DefX.val), (true, fnX2.map HeX.DefX.val)) := by kernel_rfl
open PySem.W in
theorem rd3_1 (w : World) (os : OsState) : (HandSHeadRun.endF (HandSHeadRun.stepQ (HandSHeadRun.denQ HandSHeadRun.tabQ) R.prog (World.withFollow w "special-get-raises" true)) 9000 R.prog (World.withFollow w "special-get-raises" true) os).map (fun s => (((fnX3.all fun d => d.ok (kOf s)), fnX3.map fun d => HeX.fnX (kOf s) (d.at_ (kOf s))))) = some ((true, fnX3.map HeX.DefX.val)) := by kernel_rfl
open PySem.W in
theorem rt1 (w : World) (os : OsState) : (HandSHeadRun.endF (HandSHeadRun.stepQ (HandSHeadRun.denQ HandSHeadRun.tabQ) R.prog (World.withFollow w "special-get-raises" true)) 9000 R.prog (World.withFollow w "special-get-raises" true) os).map (fun s => tabL.map fun t => He.dicW (kOf s) (t.1 (kOf s))) = some (tabL.map fun t => some (He.keysIn (World.withFollow w "special-get-raises" true).params t.2)) := by kernel_rfl
open PySem.W in
theorem run1 (w : World) : HandSHeadRun.RunEq R (PySem.W.view R.prog [89]) hk (HeX.obX 6 chk fnsX tabL) 9000 nmL (World.withFollow w "special-get-raises" true) := by
  intro os
  obtain ⟨s, hs, hl⟩ := Option.map_eq_some_iff.mp (rl1 w os)
  have h_rs1 := rs1 w os
  rw [hs] at h_rs1
  replace h_rs1 := Option.some.inj h_rs1
  have h_rc0_1 := rc0_1 w os
  rw [hs] at h_rc0_1
  replace h_rc0_1 := Option.some.inj h_rc0_1
  have h_rc4_1 := rc4_1 w os
  rw [hs] at h_rc4_1
  replace h_rc4_1 := Option.some.inj h_rc4_1
  have h_rd0_1 := rd0_1 w os
  rw [hs] at h_rd0_1
  replace h_rd0_1 := Option.some.inj h_rd0_1
  have h_rd3_1 := rd3_1 w os
  rw [hs] at h_rd3_1
  replace h_rd3_1 := Option.some.inj h_rd3_1
  have h_rt1 := rt1 w os
  rw [hs] at h_rt1
  replace h_rt1 := Option.some.inj h_rt1
  have c0 : chk0 (kOf s) = true := congrArg (fun z => z.1) h_rc0_1
  have c1 : chk1 (kOf s) = true := congrArg (fun z => z.2.1) h_rc0_1
  have c2 : chk2 (kOf s) = true := congrArg (fun z => z.2.2.1) h_rc0_1
  have c3 : chk3 (kOf s) = true := congrArg (fun z => z.2.2.2) h_rc0_1
  have c4 : chk4 (kOf s) = true := congrArg (fun z => z.1) h_rc4_1
  have c5 : chk5 (kOf s) = true := congrArg (fun z => z.2.1) h_rc4_1
  have c6 : chk6 (kOf s) = true := congrArg (fun z => z.2.2) h_rc4_1
  have d0 := congrArg (fun z => (z.1).1) h_rd0_1
  have e0 := congrArg (fun z => (z.1).2) h_rd0_1
  have d1 := congrArg (fun z => (z.2.1).1) h_rd0_1
  have e1 := congrArg (fun z => (z.2.1).2) h_rd0_1
  have d2 := congrArg (fun z => (z.2.2).1) h_rd0_1
  have e2 := congrArg (fun z => (z.2.2).2) h_rd0_1
  have d3 := congrArg (fun z => (z).1) h_rd3_1
  have e3 := congrArg (fun z => (z).2) h_rd3_1
  have ck : chk (kOf s) = true := by
    unfold chk
    rw [c0, c1, c2, c3, c4, c5, c6]
    rfl
  have dk : (fnsX.all fun d => d.ok (kOf s)) = true := by
    unfold fnsX
    simp only [List.all_append, Bool.and_eq_true]
    exact ⟨d0, d1, d2, d3⟩
  have ek : (fnsX.map fun d => HeX.fnX (kOf s) (d.at_ (kOf s))) = fnsX.map HeX.DefX.val := by
    unfold fnsX
    simp only [List.map_append]
    exact congr (congrArg (fun a b => a ++ b) e0) (congr (congrArg (fun a b => a ++ b) e1) (congr (congrArg (fun a b => a ++ b) e2) (e3)))
  have ob : HeX.obX 6 chk fnsX tabL s = HeX.valX fnsX tabL (World.withFollow w "special-get-raises" true) := by
    show (chk (kOf s) && fnsX.all fun d => d.ok (kOf s), fnsX.map fun d => HeX.fnX (kOf s) (d.at_ (kOf s)), tabL.map fun t => He.dicW (kOf s) (t.1 (kOf s))) = _
    rw [ck, dk, ek]
    exact congrArg (fun z => (true && true, fnsX.map HeX.DefX.val, z)) h_rt1
  rw [hs]
  show some (_, _, _) = some _
  rw [hl, ob]
  exact congrArg (fun z => some (true, z, HeX.valX fnsX tabL (World.withFollow w "special-get-raises" true))) h_rs1
theorem run (w : World) : HandSHeadRun.RunEq R (PySem.W.view R.prog [89]) hk (HeX.obX 6 chk fnsX tabL) 9000 nmL w := PySem.W.byRow2 "special-get-raises" run0 run1 w
theorem facts {P : Program} {w : World} {K : PySem.W.Frag} {h : Heap} {mg : Str → Option Value} {fa : Addr} (X : K.In h) (G : h.Ns mainGlobals mg) (hfa : mg ("law" : Str) = some (.ref fa)) (c : HeX.SaysX chk fnsX tabL w K) :
    ∃ fd : FuncData, (∀ (s : Shared) (v : Value), BindsTo s fd ⟨[v], []⟩ [("_law_script", v)]) ∧ ∀ base : Heap, K.In base → base.Ns mainGlobals mg → FnOk P w K mg base CX0 33 fa fd ["_law_script"] (spLaw K) := by
  obtain ⟨d__wall, D__wall⟩ := c.def_ 0 (d := dX__wall) rfl
  obtain ⟨d_show, D_show⟩ := c.def_ 1 (d := dX_show) rfl
  obtain ⟨d_shown_params, D_shown_params⟩ := c.def_ 2 (d := dX_shown_params) rfl
  obtain ⟨d_block_lines, D_block_lines⟩ := c.def_ 3 (d := dX_block_lines) rfl
  obtain ⟨d_statement_lines, D_statement_lines⟩ := c.def_ 4 (d := dX_statement_lines) rfl
  obtain ⟨d_block_parts, D_block_parts⟩ := c.def_ 5 (d := dX_block_parts) rfl
  obtain ⟨d_if_parts, D_if_parts⟩ := c.def_ 6 (d := dX_if_parts) rfl
  obtain ⟨d_try_parts, D_try_parts⟩ := c.def_ 7 (d := dX_try_parts) rfl
  obtain ⟨d_shown_with, D_shown_with⟩ := c.def_ 8 (d := dX_shown_with) rfl
  obtain ⟨d_shown_plain, D_shown_plain⟩ := c.def_ 9 (d := dX_shown_plain) rfl
  obtain ⟨d_shown_call, D_shown_call⟩ := c.def_ 10 (d := dX_shown_call) rfl
  obtain ⟨d_shown_arg, D_shown_arg⟩ := c.def_ 11 (d := dX_shown_arg) rfl
  obtain ⟨d_shown_sum, D_shown_sum⟩ := c.def_ 12 (d := dX_shown_sum) rfl
  obtain ⟨d_shown_term, D_shown_term⟩ := c.def_ 13 (d := dX_shown_term) rfl
  obtain ⟨d_is_word, D_is_word⟩ := c.def_ 14 (d := dX_is_word) rfl
  obtain ⟨d_is_number, D_is_number⟩ := c.def_ 15 (d := dX_is_number) rfl
  obtain ⟨d_kind_of, D_kind_of⟩ := c.def_ 16 (d := dX_kind_of) rfl
  obtain ⟨d_run_end, D_run_end⟩ := c.def_ 17 (d := dX_run_end) rfl
  obtain ⟨d_tokens_of, D_tokens_of⟩ := c.def_ 18 (d := dX_tokens_of) rfl
  obtain ⟨d_Tokens___init__, D_Tokens___init__⟩ := c.def_ 19 (d := dX_Tokens___init__) rfl
  obtain ⟨d_Tokens_kind_ahead, D_Tokens_kind_ahead⟩ := c.def_ 20 (d := dX_Tokens_kind_ahead) rfl
  obtain ⟨d_Tokens_here, D_Tokens_here⟩ := c.def_ 21 (d := dX_Tokens_here) rfl
  obtain ⟨d_Tokens_take, D_Tokens_take⟩ := c.def_ 22 (d := dX_Tokens_take) rfl
  obtain ⟨d_Tokens_skip, D_Tokens_skip⟩ := c.def_ 23 (d := dX_Tokens_skip) rfl
  obtain ⟨d_Tokens_word_ahead, D_Tokens_word_ahead⟩ := c.def_ 24 (d := dX_Tokens_word_ahead) rfl
  obtain ⟨d_Tokens_skip_word, D_Tokens_skip_word⟩ := c.def_ 25 (d := dX_Tokens_skip_word) rfl
  obtain ⟨d_Tokens_take_word, D_Tokens_take_word⟩ := c.def_ 26 (d := dX_Tokens_take_word) rfl
  obtain ⟨d_parse, D_parse⟩ := c.def_ 27 (d := dX_parse) rfl
  obtain ⟨d_read_declared, D_read_declared⟩ := c.def_ 28 (d := dX_read_declared) rfl
  obtain ⟨d_read_function, D_read_function⟩ := c.def_ 29 (d := dX_read_function) rfl
  obtain ⟨d_read_param, D_read_param⟩ := c.def_ 30 (d := dX_read_param) rfl
  obtain ⟨d_read_listed, D_read_listed⟩ := c.def_ 31 (d := dX_read_listed) rfl
  obtain ⟨d_read_names, D_read_names⟩ := c.def_ 32 (d := dX_read_names) rfl
  obtain ⟨d_read_block, D_read_block⟩ := c.def_ 33 (d := dX_read_block) rfl
  obtain ⟨d_read_statement, D_read_statement⟩ := c.def_ 34 (d := dX_read_statement) rfl
  obtain ⟨d_read_named, D_read_named⟩ := c.def_ 35 (d := dX_read_named) rfl
  obtain ⟨d_read_call_to, D_read_call_to⟩ := c.def_ 36 (d := dX_read_call_to) rfl
  obtain ⟨d_read_call, D_read_call⟩ := c.def_ 37 (d := dX_read_call) rfl
  obtain ⟨d_read_arg, D_read_arg⟩ := c.def_ 38 (d := dX_read_arg) rfl
  obtain ⟨d_read_risk, D_read_risk⟩ := c.def_ 39 (d := dX_read_risk) rfl
  obtain ⟨d_read_raise, D_read_raise⟩ := c.def_ 40 (d := dX_read_raise) rfl
  obtain ⟨d_read_return, D_read_return⟩ := c.def_ 41 (d := dX_read_return) rfl
  obtain ⟨d_read_if, D_read_if⟩ := c.def_ 42 (d := dX_read_if) rfl
  obtain ⟨d_read_while, D_read_while⟩ := c.def_ 43 (d := dX_read_while) rfl
  obtain ⟨d_read_undo, D_read_undo⟩ := c.def_ 44 (d := dX_read_undo) rfl
  obtain ⟨d_read_try, D_read_try⟩ := c.def_ 45 (d := dX_read_try) rfl
  obtain ⟨d_read_handler, D_read_handler⟩ := c.def_ 46 (d := dX_read_handler) rfl
  obtain ⟨d_read_with, D_read_with⟩ := c.def_ 47 (d := dX_read_with) rfl
  obtain ⟨d_read_expression, D_read_expression⟩ := c.def_ 48 (d := dX_read_expression) rfl
  obtain ⟨d_read_sign, D_read_sign⟩ := c.def_ 49 (d := dX_read_sign) rfl
  obtain ⟨d_read_term, D_read_term⟩ := c.def_ 50 (d := dX_read_term) rfl
  obtain ⟨d_read_number, D_read_number⟩ := c.def_ 51 (d := dX_read_number) rfl
  obtain ⟨d__law_pool, D__law_pool⟩ := c.def_ 52 (d := dX__law_pool) rfl
  obtain ⟨d__law_mixed, D__law_mixed⟩ := c.def_ 53 (d := dX__law_mixed) rfl
  obtain ⟨d__law_draw, D__law_draw⟩ := c.def_ 54 (d := dX__law_draw) rfl
  obtain ⟨d__law_names, D__law_names⟩ := c.def_ 55 (d := dX__law_names) rfl
  obtain ⟨d__law_expression, D__law_expression⟩ := c.def_ 56 (d := dX__law_expression) rfl
  obtain ⟨d__law_args, D__law_args⟩ := c.def_ 57 (d := dX__law_args) rfl
  obtain ⟨d__law_call, D__law_call⟩ := c.def_ 58 (d := dX__law_call) rfl
  obtain ⟨d__law_some, D__law_some⟩ := c.def_ 59 (d := dX__law_some) rfl
  obtain ⟨d__law_piece, D__law_piece⟩ := c.def_ 60 (d := dX__law_piece) rfl
  obtain ⟨d__law_block, D__law_block⟩ := c.def_ 61 (d := dX__law_block) rfl
  obtain ⟨d__law_tree, D__law_tree⟩ := c.def_ 62 (d := dX__law_tree) rfl
  obtain ⟨d__law_parts, D__law_parts⟩ := c.def_ 63 (d := dX__law_parts) rfl
  obtain ⟨d__law_size, D__law_size⟩ := c.def_ 64 (d := dX__law_size) rfl
  obtain ⟨d__law_expression_text, D__law_expression_text⟩ := c.def_ 65 (d := dX__law_expression_text) rfl
  obtain ⟨d__law_call_text, D__law_call_text⟩ := c.def_ 66 (d := dX__law_call_text) rfl
  obtain ⟨d__law_heads, D__law_heads⟩ := c.def_ 67 (d := dX__law_heads) rfl
  obtain ⟨d__law_line, D__law_line⟩ := c.def_ 68 (d := dX__law_line) rfl
  obtain ⟨d__law_lines, D__law_lines⟩ := c.def_ 69 (d := dX__law_lines) rfl
  obtain ⟨d__law_text, D__law_text⟩ := c.def_ 70 (d := dX__law_text) rfl
  obtain ⟨d__law_same, D__law_same⟩ := c.def_ 71 (d := dX__law_same) rfl
  obtain ⟨d__law_wide, D__law_wide⟩ := c.def_ 72 (d := dX__law_wide) rfl
  obtain ⟨d_law, D_law⟩ := c.def_ 73 (d := dX_law) rfl
  have k := c.ok_
  obtain ⟨k0, k⟩ := He.ba k
  have e0 : (PySem.W.nsIn K mainGlobals "_wall" = some (some (.ref (He.ga K "_wall")))) ∧ (PySem.W.nsIn K mainGlobals "show" = some (some (.ref (He.ga K "show")))) ∧ (PySem.W.nsIn K mainGlobals "shown_params" = some (some (.ref (He.ga K "shown_params")))) ∧ (PySem.W.nsIn K mainGlobals "block_lines" = some (some (.ref (He.ga K "block_lines")))) ∧ (PySem.W.nsIn K mainGlobals "statement_lines" = some (some (.ref (He.ga K "statement_lines")))) ∧ (PySem.W.nsIn K mainGlobals "block_parts" = some (some (.ref (He.ga K "block_parts")))) ∧ (PySem.W.nsIn K mainGlobals "if_parts" = some (some (.ref (He.ga K "if_parts")))) ∧ (PySem.W.nsIn K mainGlobals "try_parts" = some (some (.ref (He.ga K "try_parts")))) ∧ (PySem.W.nsIn K mainGlobals "shown_with" = some (some (.ref (He.ga K "shown_with")))) ∧ (PySem.W.nsIn K mainGlobals "shown_plain" = some (some (.ref (He.ga K "shown_plain")))) ∧ (PySem.W.nsIn K mainGlobals "shown_call" = some (some (.ref (He.ga K "shown_call")))) ∧ (PySem.W.nsIn K mainGlobals "shown_arg" = some (some (.ref (He.ga K "shown_arg")))) ∧ (PySem.W.nsIn K mainGlobals "shown_sum" = some (some (.ref (He.ga K "shown_sum")))) ∧ (PySem.W.nsIn K mainGlobals "shown_term" = some (some (.ref (He.ga K "shown_term")))) ∧ (PySem.W.nsIn K mainGlobals "is_word" = some (some (.ref (He.ga K "is_word")))) ∧ (PySem.W.nsIn K mainGlobals "is_number" = some (some (.ref (He.ga K "is_number")))) ∧ (PySem.W.nsIn K mainGlobals "kind_of" = some (some (.ref (He.ga K "kind_of")))) ∧ (PySem.W.nsIn K mainGlobals "run_end" = some (some (.ref (He.ga K "run_end")))) ∧ (PySem.W.nsIn K mainGlobals "tokens_of" = some (some (.ref (He.ga K "tokens_of")))) ∧ (PySem.W.findIn K (.ref (He.ga K "Tokens")) "__init__" = some (some (.ref (He.ma K (He.ga K "Tokens") "__init__")))) := of_decide_eq_true k0
  obtain ⟨q0, q1, q2, q3, q4, q5, q6, q7, q8, q9, q10, q11, q12, q13, q14, q15, q16, q17, q18, q19⟩ := e0
  obtain ⟨k1, k⟩ := He.ba k
  have e1 : (PySem.W.isFn K (.ref (He.ma K (He.ga K "Tokens") "__init__")) = true) ∧ (PySem.W.findIn K (.ref (He.ga K "Tokens")) "kind_ahead" = some (some (.ref (He.ma K (He.ga K "Tokens") "kind_ahead")))) ∧ (PySem.W.isFn K (.ref (He.ma K (He.ga K "Tokens") "kind_ahead")) = true) ∧ (PySem.W.findIn K (.ref (He.ga K "Tokens")) "here" = some (some (.ref (He.ma K (He.ga K "Tokens") "here")))) ∧ (PySem.W.isFn K (.ref (He.ma K (He.ga K "Tokens") "here")) = true) ∧ (PySem.W.findIn K (.ref (He.ga K "Tokens")) "take" = some (some (.ref (He.ma K (He.ga K "Tokens") "take")))) ∧ (PySem.W.isFn K (.ref (He.ma K (He.ga K "Tokens") "take")) = true) ∧ (PySem.W.findIn K (.ref (He.ga K "Tokens")) "skip" = some (some (.ref (He.ma K (He.ga K "Tokens") "skip")))) ∧ (PySem.W.isFn K (.ref (He.ma K (He.ga K "Tokens") "skip")) = true) ∧ (PySem.W.findIn K (.ref (He.ga K "Tokens")) "word_ahead" = some (some (.ref (He.ma K (He.ga K "Tokens") "word_ahead")))) ∧ (PySem.W.isFn K (.ref (He.ma K (He.ga K "Tokens") "word_ahead")) = true) ∧ (PySem.W.findIn K (.ref (He.ga K "Tokens")) "skip_word" = some (some (.ref (He.ma K (He.ga K "Tokens") "skip_word")))) ∧ (PySem.W.isFn K (.ref (He.ma K (He.ga K "Tokens") "skip_word")) = true) ∧ (PySem.W.findIn K (.ref (He.ga K "Tokens")) "take_word" = some (some (.ref (He.ma K (He.ga K "Tokens") "take_word")))) ∧ (PySem.W.isFn K (.ref (He.ma K (He.ga K "Tokens") "take_word")) = true) ∧ (PySem.W.nsIn K mainGlobals "parse" = some (some (.ref (He.ga K "parse")))) ∧ (PySem.W.nsIn K mainGlobals "read_declared" = some (some (.ref (He.ga K "read_declared")))) ∧ (PySem.W.nsIn K mainGlobals "read_function" = some (some (.ref (He.ga K "read_function")))) ∧ (PySem.W.nsIn K mainGlobals "read_param" = some (some (.ref (He.ga K "read_param")))) ∧ (PySem.W.nsIn K mainGlobals "read_listed" = some (some (.ref (He.ga K "read_listed")))) := of_decide_eq_true k1
  obtain ⟨q20, q21, q22, q23, q24, q25, q26, q27, q28, q29, q30, q31, q32, q33, q34, q35, q36, q37, q38, q39⟩ := e1
  obtain ⟨k2, k⟩ := He.ba k
  have e2 : (PySem.W.nsIn K mainGlobals "read_names" = some (some (.ref (He.ga K "read_names")))) ∧ (PySem.W.nsIn K mainGlobals "read_block" = some (some (.ref (He.ga K "read_block")))) ∧ (PySem.W.nsIn K mainGlobals "read_statement" = some (some (.ref (He.ga K "read_statement")))) ∧ (PySem.W.nsIn K mainGlobals "read_named" = some (some (.ref (He.ga K "read_named")))) ∧ (PySem.W.nsIn K mainGlobals "read_call_to" = some (some (.ref (He.ga K "read_call_to")))) ∧ (PySem.W.nsIn K mainGlobals "read_call" = some (some (.ref (He.ga K "read_call")))) ∧ (PySem.W.nsIn K mainGlobals "read_arg" = some (some (.ref (He.ga K "read_arg")))) ∧ (PySem.W.nsIn K mainGlobals "read_risk" = some (some (.ref (He.ga K "read_risk")))) ∧ (PySem.W.nsIn K mainGlobals "read_raise" = some (some (.ref (He.ga K "read_raise")))) ∧ (PySem.W.nsIn K mainGlobals "read_return" = some (some (.ref (He.ga K "read_return")))) ∧ (PySem.W.nsIn K mainGlobals "read_if" = some (some (.ref (He.ga K "read_if")))) ∧ (PySem.W.nsIn K mainGlobals "read_while" = some (some (.ref (He.ga K "read_while")))) ∧ (PySem.W.nsIn K mainGlobals "read_undo" = some (some (.ref (He.ga K "read_undo")))) ∧ (PySem.W.nsIn K mainGlobals "read_try" = some (some (.ref (He.ga K "read_try")))) ∧ (PySem.W.nsIn K mainGlobals "read_handler" = some (some (.ref (He.ga K "read_handler")))) ∧ (PySem.W.nsIn K mainGlobals "read_with" = some (some (.ref (He.ga K "read_with")))) ∧ (PySem.W.nsIn K mainGlobals "read_expression" = some (some (.ref (He.ga K "read_expression")))) ∧ (PySem.W.nsIn K mainGlobals "read_sign" = some (some (.ref (He.ga K "read_sign")))) ∧ (PySem.W.nsIn K mainGlobals "read_term" = some (some (.ref (He.ga K "read_term")))) ∧ (PySem.W.nsIn K mainGlobals "read_number" = some (some (.ref (He.ga K "read_number")))) := of_decide_eq_true k2
  obtain ⟨q40, q41, q42, q43, q44, q45, q46, q47, q48, q49, q50, q51, q52, q53, q54, q55, q56, q57, q58, q59⟩ := e2
  obtain ⟨k3, k⟩ := He.ba k
  have e3 : (PySem.W.nsIn K mainGlobals "_law_pool" = some (some (.ref (He.ga K "_law_pool")))) ∧ (PySem.W.nsIn K mainGlobals "_law_mixed" = some (some (.ref (He.ga K "_law_mixed")))) ∧ (PySem.W.nsIn K mainGlobals "_law_draw" = some (some (.ref (He.ga K "_law_draw")))) ∧ (PySem.W.nsIn K mainGlobals "_law_names" = some (some (.ref (He.ga K "_law_names")))) ∧ (PySem.W.nsIn K mainGlobals "_law_expression" = some (some (.ref (He.ga K "_law_expression")))) ∧ (PySem.W.nsIn K mainGlobals "_law_args" = some (some (.ref (He.ga K "_law_args")))) ∧ (PySem.W.nsIn K mainGlobals "_law_call" = some (some (.ref (He.ga K "_law_call")))) ∧ (PySem.W.nsIn K mainGlobals "_law_some" = some (some (.ref (He.ga K "_law_some")))) ∧ (PySem.W.nsIn K mainGlobals "_law_piece" = some (some (.ref (He.ga K "_law_piece")))) ∧ (PySem.W.nsIn K mainGlobals "_law_block" = some (some (.ref (He.ga K "_law_block")))) ∧ (PySem.W.nsIn K mainGlobals "_law_tree" = some (some (.ref (He.ga K "_law_tree")))) ∧ (PySem.W.nsIn K mainGlobals "_law_parts" = some (some (.ref (He.ga K "_law_parts")))) ∧ (PySem.W.nsIn K mainGlobals "_law_size" = some (some (.ref (He.ga K "_law_size")))) ∧ (PySem.W.nsIn K mainGlobals "_law_expression_text" = some (some (.ref (He.ga K "_law_expression_text")))) ∧ (PySem.W.nsIn K mainGlobals "_law_call_text" = some (some (.ref (He.ga K "_law_call_text")))) ∧ (PySem.W.nsIn K mainGlobals "_law_heads" = some (some (.ref (He.ga K "_law_heads")))) ∧ (PySem.W.nsIn K mainGlobals "_law_line" = some (some (.ref (He.ga K "_law_line")))) ∧ (PySem.W.nsIn K mainGlobals "_law_lines" = some (some (.ref (He.ga K "_law_lines")))) ∧ (PySem.W.nsIn K mainGlobals "_law_text" = some (some (.ref (He.ga K "_law_text")))) ∧ (PySem.W.nsIn K mainGlobals "_law_same" = some (some (.ref (He.ga K "_law_same")))) := of_decide_eq_true k3
  obtain ⟨q60, q61, q62, q63, q64, q65, q66, q67, q68, q69, q70, q71, q72, q73, q74, q75, q76, q77, q78, q79⟩ := e3
  obtain ⟨k4, k⟩ := He.ba k
  have e4 : (PySem.W.nsIn K mainGlobals "_law_wide" = some (some (.ref (He.ga K "_law_wide")))) ∧ (PySem.W.nsIn K mainGlobals "law" = some (some (.ref (He.ga K "law")))) ∧ (PySem.W.nsIn K mainGlobals "Tokens" = some (some (.ref (He.ga K "Tokens")))) ∧ (PySem.W.plainGet K (He.ga K "Tokens") Str.empty = true) ∧ (PySem.W.hasDictIn K (He.ga K "Tokens") = true) ∧ (PySem.W.plainOver K (He.ga K "Tokens") = true) ∧ (PySem.W.findIn K (.ref (He.ga K "Tokens")) "__setattr__" = some (some (.builtin "object.__setattr__"))) ∧ (PySem.W.makesIn K (He.ga K "Tokens") = true) ∧ (PySem.W.keepIn K (.ref (He.ga K "Tokens")) = true) ∧ (PySem.W.findIn K (.ref (He.ga K "Tokens")) "found" = some none) ∧ (PySem.W.findIn K (.ref (He.ga K "Tokens")) "taken" = some none) ∧ (PySem.W.nsIn K mainGlobals "int" = some none) ∧ (PySem.W.nsIn K mainGlobals "len" = some none) ∧ (PySem.W.nsIn K mainGlobals "all" = some none) ∧ (PySem.W.nsIn K mainGlobals "max" = some none) ∧ (PySem.W.nsIn K mainGlobals "isinstance" = some none) ∧ (PySem.W.nsIn K mainGlobals "str" = some none) ∧ (PySem.W.nsIn K mainGlobals "tuple" = some none) ∧ (PySem.W.nsIn K mainGlobals "sorted" = some none) ∧ (PySem.W.nsIn K mainGlobals "abs" = some none) := of_decide_eq_true k4
  obtain ⟨q80, q81, q82, q83, q84, q85, q86, q87, q88, q89, q90, q91, q92, q93, q94, q95, q96, q97, q98, q99⟩ := e4
  obtain ⟨k5, k⟩ := He.ba k
  have e5 : (PySem.W.nsIn K mainGlobals "range" = some none) ∧ (PySem.W.nsIn K mainGlobals "bool" = some none) ∧ (PySem.W.nsIn K mainGlobals "list" = some none) ∧ (PySem.W.nsIn K mainGlobals "sum" = some none) ∧ ((He.Fa.str "LETTERS" LET).ok K = true) ∧ ((He.Fa.str "DIGITS" DIG).ok K = true) ∧ ((He.Fa.str "BLANKS" " \n").ok K = true) ∧ ((He.Fa.str "NAME" "NAME").ok K = true) ∧ ((He.Fa.str "NUMBER" "NUMBER").ok K = true) ∧ ((He.Fa.str "WRONG" "WRONG").ok K = true) ∧ ((He.Fa.str "END" "END").ok K = true) ∧ ((He.Fa.str "INDENT" "  ").ok K = true) ∧ ((He.Fa.int "MOST_DIGITS" (12)).ok K = true) ∧ ((He.Fa.int "MOST_NESTED" (30)).ok K = true) ∧ (PySem.W.nsIn K mainGlobals "KEYWORDS" = some (some (.ref (He.ga K "KEYWORDS")))) ∧ (He.tupB K "KEYWORDS" ((kws).map HeX.dvOf) = true) ∧ (PySem.W.nsIn K mainGlobals "SIGNS" = some (some (.ref (He.ga K "SIGNS")))) ∧ (He.tupB K "SIGNS" ((sgs).map HeX.dvOf) = true) ∧ (PySem.W.nsIn K mainGlobals "PLAIN" = some (some (.ref (He.ga K "PLAIN")))) ∧ (PySem.W.nsIn K (He.ga K "PLAIN") "risk" = some (some (.ref (He.ga K "read_risk")))) := of_decide_eq_true k5
  obtain ⟨q100, q101, q102, q103, q104, q105, q106, q107, q108, q109, q110, q111, q112, q113, q114, q115, q116, q117, q118, q119⟩ := e5
  have e6 : (PySem.W.nsIn K (He.ga K "PLAIN") "raise" = some (some (.ref (He.ga K "read_raise")))) ∧ (PySem.W.nsIn K (He.ga K "PLAIN") "return" = some (some (.ref (He.ga K "read_return")))) ∧ (PySem.W.nsIn K (He.ga K "PLAIN") "if" = some none) ∧ (PySem.W.nsIn K (He.ga K "PLAIN") "while" = some none) ∧ (PySem.W.nsIn K (He.ga K "PLAIN") "undo" = some none) ∧ (PySem.W.nsIn K (He.ga K "PLAIN") "try" = some none) ∧ (PySem.W.nsIn K (He.ga K "PLAIN") "with" = some none) ∧ (PySem.W.nsIn K mainGlobals "NESTING" = some (some (.ref (He.ga K "NESTING")))) ∧ (PySem.W.nsIn K (He.ga K "NESTING") "if" = some (some (.ref (He.ga K "read_if")))) ∧ (PySem.W.nsIn K (He.ga K "NESTING") "while" = some (some (.ref (He.ga K "read_while")))) ∧ (PySem.W.nsIn K (He.ga K "NESTING") "undo" = some (some (.ref (He.ga K "read_undo")))) ∧ (PySem.W.nsIn K (He.ga K "NESTING") "try" = some (some (.ref (He.ga K "read_try")))) ∧ (PySem.W.nsIn K (He.ga K "NESTING") "with" = some (some (.ref (He.ga K "read_with")))) := of_decide_eq_true k
  obtain ⟨q120, q121, q122, q123, q124, q125, q126, q127, q128, q129, q130, q131, q132⟩ := e6
  have kD_PLAIN := c.tab 0 (t := (fun K => He.ga K "PLAIN", ["risk", "raise", "return"])) rfl
  have kD_NESTING := c.tab 1 (t := (fun K => He.ga K "NESTING", ["if", "while", "undo", "try", "with"])) rfl
  have e := hfa.symm.trans (PySem.W.mg_of X G q81)
  cases e
  have F__wall : Fun K "_wall" "_wall" s__wall (He.ga K "_wall") d__wall := HeX.fun_of D__wall
  have b__wall := F__wall.binds (ps := ["k"]) fun _ _ _ _ _ _ us hl => match us, hl with | [_], _ => rfl
  have F_show : Fun K "show" "show" s_show (He.ga K "show") d_show := HeX.fun_of D_show
  have b_show := F_show.binds (ps := ["tree"]) fun _ _ _ _ _ _ us hl => match us, hl with | [_], _ => rfl
  have F_shown_params : Fun K "shown_params" "shown_params" s_shown_params (He.ga K "shown_params") d_shown_params := HeX.fun_of D_shown_params
  have b_shown_params := F_shown_params.binds (ps := ["params"]) fun _ _ _ _ _ _ us hl => match us, hl with | [_], _ => rfl
  have F_block_lines : Fun K "block_lines" "block_lines" s_block_lines (He.ga K "block_lines") d_block_lines := HeX.fun_of D_block_lines
  have b_block_lines := F_block_lines.binds (ps := ["parts", "indent"]) fun _ _ _ _ _ _ us hl => match us, hl with | [_, _], _ => rfl
  have F_statement_lines : Fun K "statement_lines" "statement_lines" s_statement_lines (He.ga K "statement_lines") d_statement_lines := HeX.fun_of D_statement_lines
  have b_statement_lines := F_statement_lines.binds (ps := ["statement", "indent"]) fun _ _ _ _ _ _ us hl => match us, hl with | [_, _], _ => rfl
  have F_block_parts : Fun K "block_parts" "block_parts" s_block_parts (He.ga K "block_parts") d_block_parts := HeX.fun_of D_block_parts
  have b_block_parts := F_block_parts.binds (ps := ["statement"]) fun _ _ _ _ _ _ us hl => match us, hl with | [_], _ => rfl
  have F_if_parts : Fun K "if_parts" "if_parts" s_if_parts (He.ga K "if_parts") d_if_parts := HeX.fun_of D_if_parts
  have b_if_parts := F_if_parts.binds (ps := ["statement"]) fun _ _ _ _ _ _ us hl => match us, hl with | [_], _ => rfl
  have F_try_parts : Fun K "try_parts" "try_parts" s_try_parts (He.ga K "try_parts") d_try_parts := HeX.fun_of D_try_parts
  have b_try_parts := F_try_parts.binds (ps := ["statement"]) fun _ _ _ _ _ _ us hl => match us, hl with | [_], _ => rfl
  have F_shown_with : Fun K "shown_with" "shown_with" s_shown_with (He.ga K "shown_with") d_shown_with := HeX.fun_of D_shown_with
  have b_shown_with := F_shown_with.binds (ps := ["statement"]) fun _ _ _ _ _ _ us hl => match us, hl with | [_], _ => rfl
  have F_shown_plain : Fun K "shown_plain" "shown_plain" s_shown_plain (He.ga K "shown_plain") d_shown_plain := HeX.fun_of D_shown_plain
  have b_shown_plain := F_shown_plain.binds (ps := ["statement"]) fun _ _ _ _ _ _ us hl => match us, hl with | [_], _ => rfl
  have F_shown_call : Fun K "shown_call" "shown_call" s_shown_call (He.ga K "shown_call") d_shown_call := HeX.fun_of D_shown_call
  have b_shown_call := F_shown_call.binds (ps := ["call"]) fun _ _ _ _ _ _ us hl => match us, hl with | [_], _ => rfl
  have F_shown_arg : Fun K "shown_arg" "shown_arg" s_shown_arg (He.ga K "shown_arg") d_shown_arg := HeX.fun_of D_shown_arg
  have b_shown_arg := F_shown_arg.binds (ps := ["arg"]) fun _ _ _ _ _ _ us hl => match us, hl with | [_], _ => rfl
  have F_shown_sum : Fun K "shown_sum" "shown_sum" s_shown_sum (He.ga K "shown_sum") d_shown_sum := HeX.fun_of D_shown_sum
  have b_shown_sum := F_shown_sum.binds (ps := ["expression"]) fun _ _ _ _ _ _ us hl => match us, hl with | [_], _ => rfl
  have F_shown_term : Fun K "shown_term" "shown_term" s_shown_term (He.ga K "shown_term") d_shown_term := HeX.fun_of D_shown_term
  have b_shown_term := F_shown_term.binds (ps := ["name", "factor"]) fun _ _ _ _ _ _ us hl => match us, hl with | [_, _], _ => rfl
  have F_is_word : Fun K "is_word" "is_word" s_is_word (He.ga K "is_word") d_is_word := HeX.fun_of D_is_word
  have b_is_word := F_is_word.binds (ps := ["text"]) fun _ _ _ _ _ _ us hl => match us, hl with | [_], _ => rfl
  have F_is_number : Fun K "is_number" "is_number" s_is_number (He.ga K "is_number") d_is_number := HeX.fun_of D_is_number
  have b_is_number := F_is_number.binds (ps := ["piece"]) fun _ _ _ _ _ _ us hl => match us, hl with | [_], _ => rfl
  have F_kind_of : Fun K "kind_of" "kind_of" s_kind_of (He.ga K "kind_of") d_kind_of := HeX.fun_of D_kind_of
  have b_kind_of := F_kind_of.binds (ps := ["piece"]) fun _ _ _ _ _ _ us hl => match us, hl with | [_], _ => rfl
  have F_run_end : Fun K "run_end" "run_end" s_run_end (He.ga K "run_end") d_run_end := HeX.fun_of D_run_end
  have b_run_end := F_run_end.binds (ps := ["text", "start"]) fun _ _ _ _ _ _ us hl => match us, hl with | [_, _], _ => rfl
  have F_tokens_of : Fun K "tokens_of" "tokens_of" s_tokens_of (He.ga K "tokens_of") d_tokens_of := HeX.fun_of D_tokens_of
  have b_tokens_of := F_tokens_of.binds (ps := ["text"]) fun _ _ _ _ _ _ us hl => match us, hl with | [_], _ => rfl
  have F_Tokens___init__ : Fun K "__init__" "Tokens.__init__" s_Tokens___init__ (He.ma K (He.ga K "Tokens") "__init__") d_Tokens___init__ := HeX.fun_of D_Tokens___init__
  have b_Tokens___init__ := F_Tokens___init__.binds (ps := ["self", "text"]) fun _ _ _ _ _ _ us hl => match us, hl with | [_, _], _ => rfl
  have F_Tokens_kind_ahead : FunD K "kind_ahead" "Tokens.kind_ahead" (defArgs s_Tokens_kind_ahead) (defBody s_Tokens_kind_ahead) (defScope s_Tokens_kind_ahead) [.int 0] [] (He.ma K (He.ga K "Tokens") "kind_ahead") d_Tokens_kind_ahead := D_Tokens_kind_ahead
  have b_Tokens_kind_ahead := F_Tokens_kind_ahead.binds1 (ps := ["self", "further"]) 1 0 (by simp) rfl (fun _ _ _ _ _ _ _ us its hu hi => match us, hu, its, hi with | [_], _, [_], _ => ⟨_, rfl, rfl⟩)
  have F_Tokens_here : Fun K "here" "Tokens.here" s_Tokens_here (He.ma K (He.ga K "Tokens") "here") d_Tokens_here := HeX.fun_of D_Tokens_here
  have b_Tokens_here := F_Tokens_here.binds (ps := ["self"]) fun _ _ _ _ _ _ us hl => match us, hl with | [_], _ => rfl
  have F_Tokens_take : Fun K "take" "Tokens.take" s_Tokens_take (He.ma K (He.ga K "Tokens") "take") d_Tokens_take := HeX.fun_of D_Tokens_take
  have b_Tokens_take := F_Tokens_take.binds (ps := ["self", "kind"]) fun _ _ _ _ _ _ us hl => match us, hl with | [_, _], _ => rfl
  have F_Tokens_skip : Fun K "skip" "Tokens.skip" s_Tokens_skip (He.ma K (He.ga K "Tokens") "skip") d_Tokens_skip := HeX.fun_of D_Tokens_skip
  have b_Tokens_skip := F_Tokens_skip.binds (ps := ["self", "kind"]) fun _ _ _ _ _ _ us hl => match us, hl with | [_, _], _ => rfl
  have F_Tokens_word_ahead : Fun K "word_ahead" "Tokens.word_ahead" s_Tokens_word_ahead (He.ma K (He.ga K "Tokens") "word_ahead") d_Tokens_word_ahead := HeX.fun_of D_Tokens_word_ahead
  have b_Tokens_word_ahead := F_Tokens_word_ahead.binds (ps := ["self"]) fun _ _ _ _ _ _ us hl => match us, hl with | [_], _ => rfl
  have F_Tokens_skip_word : Fun K "skip_word" "Tokens.skip_word" s_Tokens_skip_word (He.ma K (He.ga K "Tokens") "skip_word") d_Tokens_skip_word := HeX.fun_of D_Tokens_skip_word
  have b_Tokens_skip_word := F_Tokens_skip_word.binds (ps := ["self", "word"]) fun _ _ _ _ _ _ us hl => match us, hl with | [_, _], _ => rfl
  have F_Tokens_take_word : Fun K "take_word" "Tokens.take_word" s_Tokens_take_word (He.ma K (He.ga K "Tokens") "take_word") d_Tokens_take_word := HeX.fun_of D_Tokens_take_word
  have b_Tokens_take_word := F_Tokens_take_word.binds (ps := ["self", "words"]) fun _ _ _ _ _ _ us hl => match us, hl with | [_, _], _ => rfl
  have F_parse : Fun K "parse" "parse" s_parse (He.ga K "parse") d_parse := HeX.fun_of D_parse
  have b_parse := F_parse.binds (ps := ["text"]) fun _ _ _ _ _ _ us hl => match us, hl with | [_], _ => rfl
  have F_read_declared : Fun K "read_declared" "read_declared" s_read_declared (He.ga K "read_declared") d_read_declared := HeX.fun_of D_read_declared
  have b_read_declared := F_read_declared.binds (ps := ["tokens", "keyword"]) fun _ _ _ _ _ _ us hl => match us, hl with | [_, _], _ => rfl
  have F_read_function : Fun K "read_function" "read_function" s_read_function (He.ga K "read_function") d_read_function := HeX.fun_of D_read_function
  have b_read_function := F_read_function.binds (ps := ["tokens"]) fun _ _ _ _ _ _ us hl => match us, hl with | [_], _ => rfl
  have F_read_param : Fun K "read_param" "read_param" s_read_param (He.ga K "read_param") d_read_param := HeX.fun_of D_read_param
  have b_read_param := F_read_param.binds (ps := ["tokens"]) fun _ _ _ _ _ _ us hl => match us, hl with | [_], _ => rfl
  have F_read_listed : Fun K "read_listed" "read_listed" s_read_listed (He.ga K "read_listed") d_read_listed := HeX.fun_of D_read_listed
  have b_read_listed := F_read_listed.binds (ps := ["tokens", "read_one"]) fun _ _ _ _ _ _ us hl => match us, hl with | [_, _], _ => rfl
  have F_read_names : Fun K "read_names" "read_names" s_read_names (He.ga K "read_names") d_read_names := HeX.fun_of D_read_names
  have b_read_names := F_read_names.binds (ps := ["tokens"]) fun _ _ _ _ _ _ us hl => match us, hl with | [_], _ => rfl
  have F_read_block : Fun K "read_block" "read_block" s_read_block (He.ga K "read_block") d_read_block := HeX.fun_of D_read_block
  have b_read_block := F_read_block.binds (ps := ["tokens", "depth"]) fun _ _ _ _ _ _ us hl => match us, hl with | [_, _], _ => rfl
  have F_read_statement : Fun K "read_statement" "read_statement" s_read_statement (He.ga K "read_statement") d_read_statement := HeX.fun_of D_read_statement
  have b_read_statement := F_read_statement.binds (ps := ["tokens", "depth"]) fun _ _ _ _ _ _ us hl => match us, hl with | [_, _], _ => rfl
  have F_read_named : Fun K "read_named" "read_named" s_read_named (He.ga K "read_named") d_read_named := HeX.fun_of D_read_named
  have b_read_named := F_read_named.binds (ps := ["tokens"]) fun _ _ _ _ _ _ us hl => match us, hl with | [_], _ => rfl
  have F_read_call_to : Fun K "read_call_to" "read_call_to" s_read_call_to (He.ga K "read_call_to") d_read_call_to := HeX.fun_of D_read_call_to
  have b_read_call_to := F_read_call_to.binds (ps := ["tokens", "target"]) fun _ _ _ _ _ _ us hl => match us, hl with | [_, _], _ => rfl
  have F_read_call : Fun K "read_call" "read_call" s_read_call (He.ga K "read_call") d_read_call := HeX.fun_of D_read_call
  have b_read_call := F_read_call.binds (ps := ["tokens"]) fun _ _ _ _ _ _ us hl => match us, hl with | [_], _ => rfl
  have F_read_arg : Fun K "read_arg" "read_arg" s_read_arg (He.ga K "read_arg") d_read_arg := HeX.fun_of D_read_arg
  have b_read_arg := F_read_arg.binds (ps := ["tokens"]) fun _ _ _ _ _ _ us hl => match us, hl with | [_], _ => rfl
  have F_read_risk : Fun K "read_risk" "read_risk" s_read_risk (He.ga K "read_risk") d_read_risk := HeX.fun_of D_read_risk
  have b_read_risk := F_read_risk.binds (ps := ["tokens"]) fun _ _ _ _ _ _ us hl => match us, hl with | [_], _ => rfl
  have F_read_raise : Fun K "read_raise" "read_raise" s_read_raise (He.ga K "read_raise") d_read_raise := HeX.fun_of D_read_raise
  have b_read_raise := F_read_raise.binds (ps := ["tokens"]) fun _ _ _ _ _ _ us hl => match us, hl with | [_], _ => rfl
  have F_read_return : Fun K "read_return" "read_return" s_read_return (He.ga K "read_return") d_read_return := HeX.fun_of D_read_return
  have b_read_return := F_read_return.binds (ps := ["tokens"]) fun _ _ _ _ _ _ us hl => match us, hl with | [_], _ => rfl
  have F_read_if : Fun K "read_if" "read_if" s_read_if (He.ga K "read_if") d_read_if := HeX.fun_of D_read_if
  have b_read_if := F_read_if.binds (ps := ["tokens", "depth"]) fun _ _ _ _ _ _ us hl => match us, hl with | [_, _], _ => rfl
  have F_read_while : Fun K "read_while" "read_while" s_read_while (He.ga K "read_while") d_read_while := HeX.fun_of D_read_while
  have b_read_while := F_read_while.binds (ps := ["tokens", "depth"]) fun _ _ _ _ _ _ us hl => match us, hl with | [_, _], _ => rfl
  have F_read_undo : Fun K "read_undo" "read_undo" s_read_undo (He.ga K "read_undo") d_read_undo := HeX.fun_of D_read_undo
  have b_read_undo := F_read_undo.binds (ps := ["tokens", "depth"]) fun _ _ _ _ _ _ us hl => match us, hl with | [_, _], _ => rfl
  have F_read_try : Fun K "read_try" "read_try" s_read_try (He.ga K "read_try") d_read_try := HeX.fun_of D_read_try
  have b_read_try := F_read_try.binds (ps := ["tokens", "depth"]) fun _ _ _ _ _ _ us hl => match us, hl with | [_, _], _ => rfl
  have F_read_handler : Fun K "read_handler" "read_handler" s_read_handler (He.ga K "read_handler") d_read_handler := HeX.fun_of D_read_handler
  have b_read_handler := F_read_handler.binds (ps := ["tokens", "depth"]) fun _ _ _ _ _ _ us hl => match us, hl with | [_, _], _ => rfl
  have F_read_with : Fun K "read_with" "read_with" s_read_with (He.ga K "read_with") d_read_with := HeX.fun_of D_read_with
  have b_read_with := F_read_with.binds (ps := ["tokens", "depth"]) fun _ _ _ _ _ _ us hl => match us, hl with | [_, _], _ => rfl
  have F_read_expression : Fun K "read_expression" "read_expression" s_read_expression (He.ga K "read_expression") d_read_expression := HeX.fun_of D_read_expression
  have b_read_expression := F_read_expression.binds (ps := ["tokens"]) fun _ _ _ _ _ _ us hl => match us, hl with | [_], _ => rfl
  have F_read_sign : Fun K "read_sign" "read_sign" s_read_sign (He.ga K "read_sign") d_read_sign := HeX.fun_of D_read_sign
  have b_read_sign := F_read_sign.binds (ps := ["tokens"]) fun _ _ _ _ _ _ us hl => match us, hl with | [_], _ => rfl
  have F_read_term : Fun K "read_term" "read_term" s_read_term (He.ga K "read_term") d_read_term := HeX.fun_of D_read_term
  have b_read_term := F_read_term.binds (ps := ["tokens"]) fun _ _ _ _ _ _ us hl => match us, hl with | [_], _ => rfl
  have F_read_number : Fun K "read_number" "read_number" s_read_number (He.ga K "read_number") d_read_number := HeX.fun_of D_read_number
  have b_read_number := F_read_number.binds (ps := ["tokens"]) fun _ _ _ _ _ _ us hl => match us, hl with | [_], _ => rfl
  have F__law_pool : Fun K "_law_pool" "_law_pool" s__law_pool (He.ga K "_law_pool") d__law_pool := HeX.fun_of D__law_pool
  have b__law_pool := F__law_pool.binds (ps := ["_law_script"]) fun _ _ _ _ _ _ us hl => match us, hl with | [_], _ => rfl
  have F__law_mixed : Fun K "_law_mixed" "_law_mixed" s__law_mixed (He.ga K "_law_mixed") d__law_mixed := HeX.fun_of D__law_mixed
  have b__law_mixed := F__law_mixed.binds (ps := ["_law_number", "_law_count", "_law_many"]) fun _ _ _ _ _ _ us hl => match us, hl with | [_, _, _], _ => rfl
  have F__law_draw : Fun K "_law_draw" "_law_draw" s__law_draw (He.ga K "_law_draw") d__law_draw := HeX.fun_of D__law_draw
  have b__law_draw := F__law_draw.binds (ps := ["_law_pool_here", "_law_many"]) fun _ _ _ _ _ _ us hl => match us, hl with | [_, _], _ => rfl
  have F__law_names : Fun K "_law_names" "_law_names" s__law_names (He.ga K "_law_names") d__law_names := HeX.fun_of D__law_names
  have b__law_names := F__law_names.binds (ps := ["_law_pool_here"]) fun _ _ _ _ _ _ us hl => match us, hl with | [_], _ => rfl
  have F__law_expression : Fun K "_law_expression" "_law_expression" s__law_expression (He.ga K "_law_expression") d__law_expression := HeX.fun_of D__law_expression
  have b__law_expression := F__law_expression.binds (ps := ["_law_pool_here", "_law_names_here", "_law_great"]) fun _ _ _ _ _ _ us hl => match us, hl with | [_, _, _], _ => rfl
  have F__law_args : Fun K "_law_args" "_law_args" s__law_args (He.ga K "_law_args") d__law_args := HeX.fun_of D__law_args
  have b__law_args := F__law_args.binds (ps := ["_law_pool_here", "_law_params", "_law_names_here"]) fun _ _ _ _ _ _ us hl => match us, hl with | [_, _, _], _ => rfl
  have F__law_call : Fun K "_law_call" "_law_call" s__law_call (He.ga K "_law_call") d__law_call := HeX.fun_of D__law_call
  have b__law_call := F__law_call.binds (ps := ["_law_pool_here", "_law_env"]) fun _ _ _ _ _ _ us hl => match us, hl with | [_, _], _ => rfl
  have F__law_some : Fun K "_law_some" "_law_some" s__law_some (He.ga K "_law_some") d__law_some := HeX.fun_of D__law_some
  have b__law_some := F__law_some.binds (ps := ["_law_pool_here", "_law_kinds"]) fun _ _ _ _ _ _ us hl => match us, hl with | [_, _], _ => rfl
  have F__law_piece : Fun K "_law_piece" "_law_piece" s__law_piece (He.ga K "_law_piece") d__law_piece := HeX.fun_of D__law_piece
  have b__law_piece := F__law_piece.binds (ps := ["_law_pool_here", "_law_env", "_law_depth", "_law_is_last"]) fun _ _ _ _ _ _ us hl => match us, hl with | [_, _, _, _], _ => rfl
  have F__law_block : Fun K "_law_block" "_law_block" s__law_block (He.ga K "_law_block") d__law_block := HeX.fun_of D__law_block
  have b__law_block := F__law_block.binds (ps := ["_law_pool_here", "_law_env", "_law_depth", "_law_is_last"]) fun _ _ _ _ _ _ us hl => match us, hl with | [_, _, _, _], _ => rfl
  have F__law_tree : Fun K "_law_tree" "_law_tree" s__law_tree (He.ga K "_law_tree") d__law_tree := HeX.fun_of D__law_tree
  have b__law_tree := F__law_tree.binds (ps := ["_law_pool_here"]) fun _ _ _ _ _ _ us hl => match us, hl with | [_], _ => rfl
  have F__law_parts : Fun K "_law_parts" "_law_parts" s__law_parts (He.ga K "_law_parts") d__law_parts := HeX.fun_of D__law_parts
  have b__law_parts := F__law_parts.binds (ps := ["_law_statement"]) fun _ _ _ _ _ _ us hl => match us, hl with | [_], _ => rfl
  have F__law_size : Fun K "_law_size" "_law_size" s__law_size (He.ga K "_law_size") d__law_size := HeX.fun_of D__law_size
  have b__law_size := F__law_size.binds (ps := ["_law_block_here"]) fun _ _ _ _ _ _ us hl => match us, hl with | [_], _ => rfl
  have F__law_expression_text : Fun K "_law_expression_text" "_law_expression_text" s__law_expression_text (He.ga K "_law_expression_text") d__law_expression_text := HeX.fun_of D__law_expression_text
  have b__law_expression_text := F__law_expression_text.binds (ps := ["_law_expression_here"]) fun _ _ _ _ _ _ us hl => match us, hl with | [_], _ => rfl
  have F__law_call_text : Fun K "_law_call_text" "_law_call_text" s__law_call_text (He.ga K "_law_call_text") d__law_call_text := HeX.fun_of D__law_call_text
  have b__law_call_text := F__law_call_text.binds (ps := ["_law_call_here"]) fun _ _ _ _ _ _ us hl => match us, hl with | [_], _ => rfl
  have F__law_heads : Fun K "_law_heads" "_law_heads" s__law_heads (He.ga K "_law_heads") d__law_heads := HeX.fun_of D__law_heads
  have b__law_heads := F__law_heads.binds (ps := ["_law_statement"]) fun _ _ _ _ _ _ us hl => match us, hl with | [_], _ => rfl
  have F__law_line : Fun K "_law_line" "_law_line" s__law_line (He.ga K "_law_line") d__law_line := HeX.fun_of D__law_line
  have b__law_line := F__law_line.binds (ps := ["_law_statement"]) fun _ _ _ _ _ _ us hl => match us, hl with | [_], _ => rfl
  have F__law_lines : Fun K "_law_lines" "_law_lines" s__law_lines (He.ga K "_law_lines") d__law_lines := HeX.fun_of D__law_lines
  have b__law_lines := F__law_lines.binds (ps := ["_law_block_here", "_law_indent"]) fun _ _ _ _ _ _ us hl => match us, hl with | [_, _], _ => rfl
  have F__law_text : Fun K "_law_text" "_law_text" s__law_text (He.ga K "_law_text") d__law_text := HeX.fun_of D__law_text
  have b__law_text := F__law_text.binds (ps := ["_law_tree_here"]) fun _ _ _ _ _ _ us hl => match us, hl with | [_], _ => rfl
  have F__law_same : Fun K "_law_same" "_law_same" s__law_same (He.ga K "_law_same") d__law_same := HeX.fun_of D__law_same
  have b__law_same := F__law_same.binds (ps := ["_law_actual", "_law_due"]) fun _ _ _ _ _ _ us hl => match us, hl with | [_, _], _ => rfl
  have F__law_wide : Fun K "_law_wide" "_law_wide" s__law_wide (He.ga K "_law_wide") d__law_wide := HeX.fun_of D__law_wide
  have b__law_wide := F__law_wide.binds (ps := ["_law_text_here"]) fun _ _ _ _ _ _ us hl => match us, hl with | [_], _ => rfl
  have F_law : Fun K "law" "law" s_law (He.ga K "law") d_law := HeX.fun_of D_law
  have T : Txt K mg { f__wall := He.ga K "_wall", f__wall_d := d__wall, f_show := He.ga K "show", f_show_d := d_show, f_shown_params := He.ga K "shown_params", f_shown_params_d := d_shown_params, f_block_lines := He.ga K "block_lines", f_block_lines_d := d_block_lines, f_statement_lines := He.ga K "statement_lines", f_statement_lines_d := d_statement_lines, f_block_parts := He.ga K "block_parts", f_block_parts_d := d_block_parts, f_if_parts := He.ga K "if_parts", f_if_parts_d := d_if_parts, f_try_parts := He.ga K "try_parts", f_try_parts_d := d_try_parts, f_shown_with := He.ga K "shown_with", f_shown_with_d := d_shown_with, f_shown_plain := He.ga K "shown_plain", f_shown_plain_d := d_shown_plain, f_shown_call := He.ga K "shown_call", f_shown_call_d := d_shown_call, f_shown_arg := He.ga K "shown_arg", f_shown_arg_d := d_shown_arg, f_shown_sum := He.ga K "shown_sum", f_shown_sum_d := d_shown_sum, f_shown_term := He.ga K "shown_term", f_shown_term_d := d_shown_term, f_is_word := He.ga K "is_word", f_is_word_d := d_is_word, f_is_number := He.ga K "is_number", f_is_number_d := d_is_number, f_kind_of := He.ga K "kind_of", f_kind_of_d := d_kind_of, f_run_end := He.ga K "run_end", f_run_end_d := d_run_end, f_tokens_of := He.ga K "tokens_of", f_tokens_of_d := d_tokens_of, f_Tokens___init__ := He.ma K (He.ga K "Tokens") "__init__", f_Tokens___init___d := d_Tokens___init__, f_Tokens_kind_ahead := He.ma K (He.ga K "Tokens") "kind_ahead", f_Tokens_kind_ahead_d := d_Tokens_kind_ahead, f_Tokens_here := He.ma K (He.ga K "Tokens") "here", f_Tokens_here_d := d_Tokens_here, f_Tokens_take := He.ma K (He.ga K "Tokens") "take", f_Tokens_take_d := d_Tokens_take, f_Tokens_skip := He.ma K (He.ga K "Tokens") "skip", f_Tokens_skip_d := d_Tokens_skip, f_Tokens_word_ahead := He.ma K (He.ga K "Tokens") "word_ahead", f_Tokens_word_ahead_d := d_Tokens_word_ahead, f_Tokens_skip_word := He.ma K (He.ga K "Tokens") "skip_word", f_Tokens_skip_word_d := d_Tokens_skip_word, f_Tokens_take_word := He.ma K (He.ga K "Tokens") "take_word", f_Tokens_take_word_d := d_Tokens_take_word, f_parse := He.ga K "parse", f_parse_d := d_parse, f_read_declared := He.ga K "read_declared", f_read_declared_d := d_read_declared, f_read_function := He.ga K "read_function", f_read_function_d := d_read_function, f_read_param := He.ga K "read_param", f_read_param_d := d_read_param, f_read_listed := He.ga K "read_listed", f_read_listed_d := d_read_listed, f_read_names := He.ga K "read_names", f_read_names_d := d_read_names, f_read_block := He.ga K "read_block", f_read_block_d := d_read_block, f_read_statement := He.ga K "read_statement", f_read_statement_d := d_read_statement, f_read_named := He.ga K "read_named", f_read_named_d := d_read_named, f_read_call_to := He.ga K "read_call_to", f_read_call_to_d := d_read_call_to, f_read_call := He.ga K "read_call", f_read_call_d := d_read_call, f_read_arg := He.ga K "read_arg", f_read_arg_d := d_read_arg, f_read_risk := He.ga K "read_risk", f_read_risk_d := d_read_risk, f_read_raise := He.ga K "read_raise", f_read_raise_d := d_read_raise, f_read_return := He.ga K "read_return", f_read_return_d := d_read_return, f_read_if := He.ga K "read_if", f_read_if_d := d_read_if, f_read_while := He.ga K "read_while", f_read_while_d := d_read_while, f_read_undo := He.ga K "read_undo", f_read_undo_d := d_read_undo, f_read_try := He.ga K "read_try", f_read_try_d := d_read_try, f_read_handler := He.ga K "read_handler", f_read_handler_d := d_read_handler, f_read_with := He.ga K "read_with", f_read_with_d := d_read_with, f_read_expression := He.ga K "read_expression", f_read_expression_d := d_read_expression, f_read_sign := He.ga K "read_sign", f_read_sign_d := d_read_sign, f_read_term := He.ga K "read_term", f_read_term_d := d_read_term, f_read_number := He.ga K "read_number", f_read_number_d := d_read_number, f__law_pool := He.ga K "_law_pool", f__law_pool_d := d__law_pool, f__law_mixed := He.ga K "_law_mixed", f__law_mixed_d := d__law_mixed, f__law_draw := He.ga K "_law_draw", f__law_draw_d := d__law_draw, f__law_names := He.ga K "_law_names", f__law_names_d := d__law_names, f__law_expression := He.ga K "_law_expression", f__law_expression_d := d__law_expression, f__law_args := He.ga K "_law_args", f__law_args_d := d__law_args, f__law_call := He.ga K "_law_call", f__law_call_d := d__law_call, f__law_some := He.ga K "_law_some", f__law_some_d := d__law_some, f__law_piece := He.ga K "_law_piece", f__law_piece_d := d__law_piece, f__law_block := He.ga K "_law_block", f__law_block_d := d__law_block, f__law_tree := He.ga K "_law_tree", f__law_tree_d := d__law_tree, f__law_parts := He.ga K "_law_parts", f__law_parts_d := d__law_parts, f__law_size := He.ga K "_law_size", f__law_size_d := d__law_size, f__law_expression_text := He.ga K "_law_expression_text", f__law_expression_text_d := d__law_expression_text, f__law_call_text := He.ga K "_law_call_text", f__law_call_text_d := d__law_call_text, f__law_heads := He.ga K "_law_heads", f__law_heads_d := d__law_heads, f__law_line := He.ga K "_law_line", f__law_line_d := d__law_line, f__law_lines := He.ga K "_law_lines", f__law_lines_d := d__law_lines, f__law_text := He.ga K "_law_text", f__law_text_d := d__law_text, f__law_same := He.ga K "_law_same", f__law_same_d := d__law_same, f__law_wide := He.ga K "_law_wide", f__law_wide_d := d__law_wide, f_law := He.ga K "law", f_law_d := d_law, c_Tokens := He.ga K "Tokens", t_KEYWORDS := He.ga K "KEYWORDS", t_SIGNS := He.ga K "SIGNS" } := {
    F__wall := F__wall,
    b__wall := b__wall,
    g__wall := PySem.W.mg_of X G q0,
    F_show := F_show,
    b_show := b_show,
    g_show := PySem.W.mg_of X G q1,
    F_shown_params := F_shown_params,
    b_shown_params := b_shown_params,
    g_shown_params := PySem.W.mg_of X G q2,
    F_block_lines := F_block_lines,
    b_block_lines := b_block_lines,
    g_block_lines := PySem.W.mg_of X G q3,
    F_statement_lines := F_statement_lines,
    b_statement_lines := b_statement_lines,
    g_statement_lines := PySem.W.mg_of X G q4,
    F_block_parts := F_block_parts,
    b_block_parts := b_block_parts,
    g_block_parts := PySem.W.mg_of X G q5,
    F_if_parts := F_if_parts,
    b_if_parts := b_if_parts,
    g_if_parts := PySem.W.mg_of X G q6,
    F_try_parts := F_try_parts,
    b_try_parts := b_try_parts,
    g_try_parts := PySem.W.mg_of X G q7,
    F_shown_with := F_shown_with,
    b_shown_with := b_shown_with,
    g_shown_with := PySem.W.mg_of X G q8,
    F_shown_plain := F_shown_plain,
    b_shown_plain := b_shown_plain,
    g_shown_plain := PySem.W.mg_of X G q9,
    F_shown_call := F_shown_call,
    b_shown_call := b_shown_call,
    g_shown_call := PySem.W.mg_of X G q10,
    F_shown_arg := F_shown_arg,
    b_shown_arg := b_shown_arg,
    g_shown_arg := PySem.W.mg_of X G q11,
    F_shown_sum := F_shown_sum,
    b_shown_sum := b_shown_sum,
    g_shown_sum := PySem.W.mg_of X G q12,
    F_shown_term := F_shown_term,
    b_shown_term := b_shown_term,
    g_shown_term := PySem.W.mg_of X G q13,
    F_is_word := F_is_word,
    b_is_word := b_is_word,
    g_is_word := PySem.W.mg_of X G q14,
    F_is_number := F_is_number,
    b_is_number := b_is_number,
    g_is_number := PySem.W.mg_of X G q15,
    F_kind_of := F_kind_of,
    b_kind_of := b_kind_of,
    g_kind_of := PySem.W.mg_of X G q16,
    F_run_end := F_run_end,
    b_run_end := b_run_end,
    g_run_end := PySem.W.mg_of X G q17,
    F_tokens_of := F_tokens_of,
    b_tokens_of := b_tokens_of,
    g_tokens_of := PySem.W.mg_of X G q18,
    F_Tokens___init__ := F_Tokens___init__,
    b_Tokens___init__ := b_Tokens___init__,
    mk_Tokens := ⟨q87, q19, q20, q88⟩,
    F_Tokens_kind_ahead := F_Tokens_kind_ahead,
    b_Tokens_kind_ahead := b_Tokens_kind_ahead,
    m_Tokens_kind_ahead := ⟨q21, q22, F_Tokens_kind_ahead.kp⟩,
    F_Tokens_here := F_Tokens_here,
    b_Tokens_here := b_Tokens_here,
    m_Tokens_here := ⟨q23, q24, F_Tokens_here.kp⟩,
    F_Tokens_take := F_Tokens_take,
    b_Tokens_take := b_Tokens_take,
    m_Tokens_take := ⟨q25, q26, F_Tokens_take.kp⟩,
    F_Tokens_skip := F_Tokens_skip,
    b_Tokens_skip := b_Tokens_skip,
    m_Tokens_skip := ⟨q27, q28, F_Tokens_skip.kp⟩,
    F_Tokens_word_ahead := F_Tokens_word_ahead,
    b_Tokens_word_ahead := b_Tokens_word_ahead,
    m_Tokens_word_ahead := ⟨q29, q30, F_Tokens_word_ahead.kp⟩,
    F_Tokens_skip_word := F_Tokens_skip_word,
    b_Tokens_skip_word := b_Tokens_skip_word,
    m_Tokens_skip_word := ⟨q31, q32, F_Tokens_skip_word.kp⟩,
    F_Tokens_take_word := F_Tokens_take_word,
    b_Tokens_take_word := b_Tokens_take_word,
    m_Tokens_take_word := ⟨q33, q34, F_Tokens_take_word.kp⟩,
    F_parse := F_parse,
    b_parse := b_parse,
    g_parse := PySem.W.mg_of X G q35,
    F_read_declared := F_read_declared,
    b_read_declared := b_read_declared,
    g_read_declared := PySem.W.mg_of X G q36,
    F_read_function := F_read_function,
    b_read_function := b_read_function,
    g_read_function := PySem.W.mg_of X G q37,
    F_read_param := F_read_param,
    b_read_param := b_read_param,
    g_read_param := PySem.W.mg_of X G q38,
    F_read_listed := F_read_listed,
    b_read_listed := b_read_listed,
    g_read_listed := PySem.W.mg_of X G q39,
    F_read_names := F_read_names,
    b_read_names := b_read_names,
    g_read_names := PySem.W.mg_of X G q40,
    F_read_block := F_read_block,
    b_read_block := b_read_block,
    g_read_block := PySem.W.mg_of X G q41,
    F_read_statement := F_read_statement,
    b_read_statement := b_read_statement,
    g_read_statement := PySem.W.mg_of X G q42,
    F_read_named := F_read_named,
    b_read_named := b_read_named,
    g_read_named := PySem.W.mg_of X G q43,
    F_read_call_to := F_read_call_to,
    b_read_call_to := b_read_call_to,
    g_read_call_to := PySem.W.mg_of X G q44,
    F_read_call := F_read_call,
    b_read_call := b_read_call,
    g_read_call := PySem.W.mg_of X G q45,
    F_read_arg := F_read_arg,
    b_read_arg := b_read_arg,
    g_read_arg := PySem.W.mg_of X G q46,
    F_read_risk := F_read_risk,
    b_read_risk := b_read_risk,
    g_read_risk := PySem.W.mg_of X G q47,
    F_read_raise := F_read_raise,
    b_read_raise := b_read_raise,
    g_read_raise := PySem.W.mg_of X G q48,
    F_read_return := F_read_return,
    b_read_return := b_read_return,
    g_read_return := PySem.W.mg_of X G q49,
    F_read_if := F_read_if,
    b_read_if := b_read_if,
    g_read_if := PySem.W.mg_of X G q50,
    F_read_while := F_read_while,
    b_read_while := b_read_while,
    g_read_while := PySem.W.mg_of X G q51,
    F_read_undo := F_read_undo,
    b_read_undo := b_read_undo,
    g_read_undo := PySem.W.mg_of X G q52,
    F_read_try := F_read_try,
    b_read_try := b_read_try,
    g_read_try := PySem.W.mg_of X G q53,
    F_read_handler := F_read_handler,
    b_read_handler := b_read_handler,
    g_read_handler := PySem.W.mg_of X G q54,
    F_read_with := F_read_with,
    b_read_with := b_read_with,
    g_read_with := PySem.W.mg_of X G q55,
    F_read_expression := F_read_expression,
    b_read_expression := b_read_expression,
    g_read_expression := PySem.W.mg_of X G q56,
    F_read_sign := F_read_sign,
    b_read_sign := b_read_sign,
    g_read_sign := PySem.W.mg_of X G q57,
    F_read_term := F_read_term,
    b_read_term := b_read_term,
    g_read_term := PySem.W.mg_of X G q58,
    F_read_number := F_read_number,
    b_read_number := b_read_number,
    g_read_number := PySem.W.mg_of X G q59,
    F__law_pool := F__law_pool,
    b__law_pool := b__law_pool,
    g__law_pool := PySem.W.mg_of X G q60,
    F__law_mixed := F__law_mixed,
    b__law_mixed := b__law_mixed,
    g__law_mixed := PySem.W.mg_of X G q61,
    F__law_draw := F__law_draw,
    b__law_draw := b__law_draw,
    g__law_draw := PySem.W.mg_of X G q62,
    F__law_names := F__law_names,
    b__law_names := b__law_names,
    g__law_names := PySem.W.mg_of X G q63,
    F__law_expression := F__law_expression,
    b__law_expression := b__law_expression,
    g__law_expression := PySem.W.mg_of X G q64,
    F__law_args := F__law_args,
    b__law_args := b__law_args,
    g__law_args := PySem.W.mg_of X G q65,
    F__law_call := F__law_call,
    b__law_call := b__law_call,
    g__law_call := PySem.W.mg_of X G q66,
    F__law_some := F__law_some,
    b__law_some := b__law_some,
    g__law_some := PySem.W.mg_of X G q67,
    F__law_piece := F__law_piece,
    b__law_piece := b__law_piece,
    g__law_piece := PySem.W.mg_of X G q68,
    F__law_block := F__law_block,
    b__law_block := b__law_block,
    g__law_block := PySem.W.mg_of X G q69,
    F__law_tree := F__law_tree,
    b__law_tree := b__law_tree,
    g__law_tree := PySem.W.mg_of X G q70,
    F__law_parts := F__law_parts,
    b__law_parts := b__law_parts,
    g__law_parts := PySem.W.mg_of X G q71,
    F__law_size := F__law_size,
    b__law_size := b__law_size,
    g__law_size := PySem.W.mg_of X G q72,
    F__law_expression_text := F__law_expression_text,
    b__law_expression_text := b__law_expression_text,
    g__law_expression_text := PySem.W.mg_of X G q73,
    F__law_call_text := F__law_call_text,
    b__law_call_text := b__law_call_text,
    g__law_call_text := PySem.W.mg_of X G q74,
    F__law_heads := F__law_heads,
    b__law_heads := b__law_heads,
    g__law_heads := PySem.W.mg_of X G q75,
    F__law_line := F__law_line,
    b__law_line := b__law_line,
    g__law_line := PySem.W.mg_of X G q76,
    F__law_lines := F__law_lines,
    b__law_lines := b__law_lines,
    g__law_lines := PySem.W.mg_of X G q77,
    F__law_text := F__law_text,
    b__law_text := b__law_text,
    g__law_text := PySem.W.mg_of X G q78,
    F__law_same := F__law_same,
    b__law_same := b__law_same,
    g__law_same := PySem.W.mg_of X G q79,
    F__law_wide := F__law_wide,
    b__law_wide := b__law_wide,
    g__law_wide := PySem.W.mg_of X G q80,
    F_law := F_law,
    g_law := PySem.W.mg_of X G q81,
    cl_Tokens := ⟨q83, q84, q85, q86⟩,
    mg_Tokens := PySem.W.mg_of X G q82,
    n_Tokens_found := q89,
    n_Tokens_taken := q90,
    int := PySem.W.mg_none_of X G q91,
    len := PySem.W.mg_none_of X G q92,
    all := PySem.W.mg_none_of X G q93,
    max := PySem.W.mg_none_of X G q94,
    isinstance := PySem.W.mg_none_of X G q95,
    str := PySem.W.mg_none_of X G q96,
    tuple := PySem.W.mg_none_of X G q97,
    sorted := PySem.W.mg_none_of X G q98,
    abs := PySem.W.mg_none_of X G q99,
    range := PySem.W.mg_none_of X G q100,
    bool := PySem.W.mg_none_of X G q101,
    list := PySem.W.mg_none_of X G q102,
    sum := PySem.W.mg_none_of X G q103,
    g_LETTERS := He.str_ok X G q104,
    g_DIGITS := He.str_ok X G q105,
    g_BLANKS := He.str_ok X G q106,
    g_NAME := He.str_ok X G q107,
    g_NUMBER := He.str_ok X G q108,
    g_WRONG := He.str_ok X G q109,
    g_END := He.str_ok X G q110,
    g_INDENT := He.str_ok X G q111,
    g_MOST_DIGITS := He.int_ok X G q112,
    g_MOST_NESTED := He.int_ok X G q113,
    g_KEYWORDS := PySem.W.mg_of X G q114,
    q_KEYWORDS := fun H => HeX.tup_of (by rfl) (He.tupB_ok q115 H),
    g_SIGNS := PySem.W.mg_of X G q116,
    q_SIGNS := fun H => HeX.tup_of (by rfl) (He.tupB_ok q117 H) }
  have b := FunD.bindsA (ps := ["_law_script"]) D_law fun _ _ _ _ _ _ us hl => match us, hl with | [_], _ => rfl
  exact ⟨_, fun s v => b s [v] rfl, fun base _ _ => ok_law T (tP := He.ga K "PLAIN") (tN := He.ga K "NESTING") ⟨PySem.W.mg_of X G q118, PySem.W.mg_of X G q127, kD_PLAIN, kD_NESTING, q119, q120, q121, q122, q123, q124, q125, q126, q128, q129, q130, q131, q132⟩⟩
end K3
open PySem PySem.W PySem.Calls PyProof.Rows
set_option maxRecDepth 100000 in
set_option maxHeartbeats 0 in
theorem PySem.Challenge.cw_allornothing_k03_texts_and_trees_holds : PySem.Challenge.rw_allornothing_k03_texts_and_trees.Holds := by
  w_on; o_law
  refine HandSHeadRun.head_any (r := OpenLaw.row PySem.Challenge.rw_allornothing_k03_texts_and_trees) (q := view (OpenLaw.row PySem.Challenge.rw_allornothing_k03_texts_and_trees).prog [89]) (H := K3.hk) (ob := HeX.obX 6 K3.chk K3.fnsX K3.tabL) (M := 9000) (loose := K3.nmL) (d := HandSHeadRun.topDef (OpenLaw.row PySem.Challenge.rw_allornothing_k03_texts_and_trees).prog 89) (kwd := []) HeX.obX_eq
    (by kernel_rfl) (fun s => by kernel_rfl) K3.run (by kernel_rfl) (by kernel_rfl) (by kernel_rfl) (by rfl) (by first | assumption | decide +kernel) (by decide +kernel) ⟨rfl, rfl, rfl, rfl, rfl, by decide +kernel⟩ ?hw ?hc
  case hw => w_witness2
  case hc =>
    refine L2.walk_ofE (l := PySem.Challenge.rw_allornothing_k03_texts_and_trees) (n := 63) (k := 33) (x := "_law_script") (CX := L2.CX0) rfl (by decide) (by kernel_rfl) ⟨rfl, by decide, by decide⟩ ?F (fun _ _ _ _ z => z)
    intro w mg fa h Y G hmg0
    obtain ⟨K, KX, c⟩ := Y
    have hmg : mg ("law" : PySem.Str) = some (.ref fa) := by
      have e : (HandSHeadRun.topDef (OpenLaw.row PySem.Challenge.rw_allornothing_k03_texts_and_trees).prog 89).name = ("law" : PySem.Str) := by kernel_rfl
      rw [← e]
      exact hmg0
    obtain ⟨fd, hb, hF⟩ := K3.facts (P := (PySem.Challenge.rw_allornothing_k03_texts_and_trees).prog) (w := w) KX G hmg c
    exact ⟨K, fd, K3.spLaw K, KX, hb, fun H a ns hl _ hS => ⟨a, ns, rfl, hS, hl, fun _ => rfl⟩, hF⟩
#print axioms PySem.Challenge.cw_allornothing_k03_texts_and_trees_holds
