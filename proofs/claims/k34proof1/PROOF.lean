import PyProof.Rows.All
import Wide.All
import OpenK.AllK
import Wide.FinOn
import HandS.ForMost
import HandS.Wide
import HandS.Steps
import HandS.IsInst
import HandS.Defaults
import HandS.More
import HandS.TupAny
import HandS.Exc
import HandS.Star
import HandS.RaiseMore
import HandS.Walk
import PySem.Challenge.RW_allornothing_k34_conditions_on_rows
set_option Elab.async false
set_option linter.all false
set_option maxRecDepth 100000
set_option maxHeartbeats 8000000
namespace K34
open PySem PySem.Spec PyProof.Rows L2 TL
/-! ### words for all -/
theorem pe_gs {X : Cx} {x : Str} {z : Str} {pos : Pos} (hg : Gl X x) (hm : ∃ t, X.mg x = some (.str z t)) (hd : (x == ("__debug__" : Str)) = false := by decide) : PE X (.Name x pos) (tC (.str z)) :=
  hm.elim fun t h => pe_glob (v := .str z) hg h ⟨t, rfl⟩ hd
theorem pe_gi {X : Cx} {x : Str} {z : Int} {pos : Pos} (hg : Gl X x) (hm : ∃ t, X.mg x = some (.int z t)) (hd : (x == ("__debug__" : Str)) = false := by decide) : PE X (.Name x pos) (tC (.int z)) :=
  hm.elim fun t h => pe_glob (v := .int z) hg h ⟨t, rfl⟩ hd
theorem pe_gr {X : Cx} {x : Str} {r : Addr} {pos : Pos} (hg : Gl X x) (hm : X.mg x = some (.ref r)) (hd : (x == ("__debug__" : Str)) = false := by decide) : PE X (.Name x pos) (tC (.ref r)) := pe_glob (v := .ref r) hg hm rfl hd
theorem same_upd {H : Hp} {p : Addr} {o : HO} (h : H p = none) : Same H (upd H p o) := fun b x e => by
  rw [upd_ne (ne_of_none e h)]
  exact e
/-- a new object of ours changes: what stood before stands -/
theorem same_mut {H H' : Hp} {p : Addr} {o : HO} (s : Same H H') (h : H p = none) : Same H (upd H' p o) := fun b x e => by
  rw [upd_ne (ne_of_none e h)]
  exact s _ _ e
def Big (z : Str) : Prop := z.length ≤ 1000000
theorem bigLine {n : Nat} (h : n ≤ 1000000) : n < sizeLine := Nat.lt_of_le_of_lt h (by decide)
theorem bigLe {n : Nat} (h : n ≤ 1000000) : n ≤ sizeLine := Nat.le_of_lt (bigLine h)
theorem st_ite {c : TT} {t1 t2 : TS} {σ : L2.St} {H : Hp} {D : Ends} {b : Bool} (h : Ans c σ H b) (h1 : b = true → t1 D σ H) (h2 : b = false → t2 D σ H) : tIfS c t1 t2 D σ H := by
  cases b with
  | true => exact st_yes h (h1 rfl)
  | false => exact st_no h (h2 rfl)
theorem while_ans {c : TT} {tb : TS} {D : Ends} {σ : L2.St} {H : Hp} (Pv : Nat → L2.St → Hp → Prop) (m : Nat) (h0 : Pv m σ H)
    (hs : ∀ m σ H, Pv m σ H → ∃ b, Ans c σ H b ∧ (b = true → tb { D with nx := fun σ' H' => ∃ m', m' < m ∧ Pv m' σ' H', ct := fun σ' H' => ∃ m', m' < m ∧ Pv m' σ' H', bk := D.nx } σ H) ∧ (b = false → D.nx σ H)) : tWhile c tb D σ H := by
  refine ⟨Pv, ⟨m, h0⟩, fun m σ H p => ?_⟩
  obtain ⟨b, ha, ht, hf⟩ := hs m σ H p
  refine ha _ ?_
  cases b with
  | true => exact ⟨_, fun σ' H' h => h, ht rfl⟩
  | false => exact hf rfl
/-- a comprehension or loop over the signs of a text -/
theorem lc_str {x : Str} {g : TG} {tt : TT} {te : TE} {vs : List Nat} {σ : L2.St} {H1 : Hp} {D : Addr} {Qd : Hp → Prop} (Pv : Nat → Hp → Prop) (h0 : Pv 0 (upd H1 D (.lst [])))
    (hs : ∀ i c H, x.cps[i]? = some c → Pv i H → g (.str ⟨#[c]⟩) (wipe σ vs) H fun σ2 H2 => wipe σ2 vs = wipe σ vs ∧ tt σ2 H2 fun b H3 =>
      if b = true then te σ2 H3 fun y H4 => ∃ acc, H4 D = some (.lst acc) ∧ acc.length < sizeLine ∧ Pv (i + 1) (upd H4 D (.lst (acc ++ [y]))) else Pv (i + 1) H3) (hd : ∀ H, Pv x.cps.size H → Qd H) :
    ∃ W : Nat → Nat → Hp → Prop, (∃ m, W 0 m (upd H1 D (.lst []))) ∧ ∀ i m H, W i m H →
      ((Its x).stop i H ∧ Qd H) ∨ ((Its x).go i H ∧ ∃ Nx : Hp → Prop, (∀ H', Nx H' → ∃ m', m' < m ∧ W (i + 1) m' H') ∧ ∀ x' H', (Its x).yld i H x' H' → g x' (wipe σ vs) H' fun σ2 H2 => wipe σ2 vs = wipe σ vs ∧ tt σ2 H2 fun b H3 =>
        if b = true then te σ2 H3 fun y H4 => ∃ acc, H4 D = some (.lst acc) ∧ acc.length < sizeLine ∧ Nx (upd H4 D (.lst (acc ++ [y]))) else Nx H3) := by
  refine ⟨fun i m H => m = x.cps.size - i ∧ i ≤ x.cps.size ∧ Pv i H, ⟨x.cps.size, by simp, Nat.zero_le _, h0⟩, ?_⟩
  rintro i m H ⟨rfl, hi, p⟩
  by_cases hlt : i < x.cps.size
  · refine .inr ⟨hlt, Pv (i + 1), fun H' p' => ⟨x.cps.size - (i + 1), by omega, rfl, hlt, p'⟩, fun x' H' y => ?_⟩
    obtain ⟨e, c, hc, y⟩ := y
    subst e y
    exact hs i c _ hc p
  · have e : i = x.cps.size := by omega
    subst e
    exact .inl ⟨Nat.le_refl _, hd H p⟩
/-- f of each sign, put into a new list -/
theorem lc_signs {z : Str} {g : TG} {te : TE} {vs : List Nat} {σ : L2.St} {H1 : Hp} {D : Addr} {Qd : Hp → Prop} (f : Nat → Bool) (hz : Big z) (hD : H1 D = none)
    (hs : ∀ c H (Q : VK), Q (.bl (f c)) H → g (.str ⟨#[c]⟩) (wipe σ vs) H fun σ2 H2 => wipe σ2 vs = wipe σ vs ∧ te σ2 H2 Q) (hd : ∀ H, Same H1 H → H D = some (.lst (((tl z).map f).map V.bl)) → Qd H) :
    ∃ W : Nat → Nat → Hp → Prop, (∃ m, W 0 m (upd H1 D (.lst []))) ∧ ∀ i m H, W i m H →
      ((Its z).stop i H ∧ Qd H) ∨ ((Its z).go i H ∧ ∃ Nx : Hp → Prop, (∀ H', Nx H' → ∃ m', m' < m ∧ W (i + 1) m' H') ∧ ∀ x' H', (Its z).yld i H x' H' → g x' (wipe σ vs) H' fun σ2 H2 => wipe σ2 vs = wipe σ vs ∧ tYes σ2 H2 fun b H3 =>
        if b = true then te σ2 H3 fun y H4 => ∃ acc, H4 D = some (.lst acc) ∧ acc.length < sizeLine ∧ Nx (upd H4 D (.lst (acc ++ [y]))) else Nx H3) := by
  refine lc_str (fun i H' => Same H1 H' ∧ H' D = some (.lst ((((tl z).take i).map f).map V.bl))) ⟨same_upd hD, upd_same⟩ ?_ ?_
  · rintro i c H' hi ⟨s2, hD2⟩
    have hi2 : (tl z)[i]? = some c := by rw [Array.getElem?_toList]; exact hi
    have hil : i < z.length := (Array.getElem?_eq_some_iff.mp hi).1
    have hsz : ((((tl z).take i).map f).map V.bl).length < sizeLine := by
      rw [List.length_map, List.length_map, List.length_take]
      exact Nat.lt_of_le_of_lt (Nat.min_le_left _ _) (bigLine (by unfold Big at hz; omega))
    have := hs c H' (fun y H4 => ∃ acc, H4 D = some (.lst acc) ∧ acc.length < sizeLine ∧ (Same H1 (upd H4 D (.lst (acc ++ [y]))) ∧ (upd H4 D (.lst (acc ++ [y]))) D = some (.lst ((((tl z).take (i + 1)).map f).map V.bl)))) ?_
    · exact this
    · refine ⟨_, hD2, hsz, same_mut s2 hD, ?_⟩
      rw [upd_same, List.take_add_one, hi2, List.map_append, List.map_append]
      rfl
  · rintro H' ⟨s2, hD2⟩
    have et : (tl z).take z.cps.size = tl z := List.take_of_length_le (by rw [Array.length_toList]; exact Nat.le_refl _)
    rw [et] at hD2
    exact hd _ s2 hD2
/-! ### the text -/
abbrev LET : Str := "abcdefghijklmnopqrstuvwxyz"
abbrev DIG : Str := "0123456789"
def kws : List V := [.str "globals", .str "kinds", .str "keep", .str "def", .str "if", .str "else", .str "while", .str "risk", .str "raise", .str "try", .str "except", .str "finally", .str "undo", .str "with", .str "swallow", .str "return"]
def sgs : List V := [.str "=", .str "+", .str "-", .str "*", .str "&", .str "?", .str "(", .str ")", .str "{", .str "}", .str ","]
def fds : List V := [.str "function", .str "place", .str "kind", .str "verdict", .str "changes"]
def ans : List V := [.str "same", .str "sound", .str "changed"]
def top (i : Nat) : Stmt := PySem.Challenge.pw_allornothing_k34_conditions_on_rows.main.body.getD i (.Pass ⟨0, 0, 0, 0⟩)
abbrev s_is_word : Stmt := top 17
abbrev s_is_number : Stmt := top 18
abbrev s_kind_of : Stmt := top 19
abbrev s_run_end : Stmt := top 20
abbrev s_tokens_of : Stmt := top 21
abbrev s_Tokens___init__ : Stmt := inClass (top 22) 0
abbrev s_Tokens_kind_ahead : Stmt := inClass (top 22) 1
abbrev s_Tokens_take : Stmt := inClass (top 22) 3
abbrev s_Tokens_word_ahead : Stmt := inClass (top 22) 5
abbrev s_Tokens_skip_word : Stmt := inClass (top 22) 6
abbrev s_Tokens_take_word : Stmt := inClass (top 22) 7
abbrev s_read_number : Stmt := top 25
abbrev s_Condition___init__ : Stmt := inClass (top 31) 0
abbrev s_Condition___call__ : Stmt := inClass (top 31) 1
abbrev s_read_condition : Stmt := top 32
abbrev s_question_tokens : Stmt := top 33
abbrev s_read_or : Stmt := top 34
abbrev s_read_and : Stmt := top 35
abbrev s_read_one : Stmt := top 36
abbrev s_read_value : Stmt := top 37
abbrev s__law_pool : Stmt := top 39
abbrev s__law_mixed : Stmt := top 40
abbrev s__law_draw : Stmt := top 41
abbrev s__law_names : Stmt := top 42
abbrev s__law_form : Stmt := top 44
abbrev s__law_rank : Stmt := top 45
abbrev s__law_words : Stmt := top 46
abbrev s__law_holds : Stmt := top 47
abbrev s_law : Stmt := top 48
/-- where the text's defs and classes stand -/
structure Ads where
  f_is_word : Addr
  f_is_word_d : FuncData
  f_is_number : Addr
  f_is_number_d : FuncData
  f_kind_of : Addr
  f_kind_of_d : FuncData
  f_run_end : Addr
  f_run_end_d : FuncData
  f_tokens_of : Addr
  f_tokens_of_d : FuncData
  f_Tokens___init__ : Addr
  f_Tokens___init___d : FuncData
  f_Tokens_kind_ahead : Addr
  f_Tokens_kind_ahead_d : FuncData
  f_Tokens_take : Addr
  f_Tokens_take_d : FuncData
  f_Tokens_word_ahead : Addr
  f_Tokens_word_ahead_d : FuncData
  f_Tokens_skip_word : Addr
  f_Tokens_skip_word_d : FuncData
  f_Tokens_take_word : Addr
  f_Tokens_take_word_d : FuncData
  f_read_number : Addr
  f_read_number_d : FuncData
  f_Condition___init__ : Addr
  f_Condition___init___d : FuncData
  f_Condition___call__ : Addr
  f_Condition___call___d : FuncData
  f_read_condition : Addr
  f_read_condition_d : FuncData
  f_question_tokens : Addr
  f_question_tokens_d : FuncData
  f_read_or : Addr
  f_read_or_d : FuncData
  f_read_and : Addr
  f_read_and_d : FuncData
  f_read_one : Addr
  f_read_one_d : FuncData
  f_read_value : Addr
  f_read_value_d : FuncData
  f__law_pool : Addr
  f__law_pool_d : FuncData
  f__law_mixed : Addr
  f__law_mixed_d : FuncData
  f__law_draw : Addr
  f__law_draw_d : FuncData
  f__law_names : Addr
  f__law_names_d : FuncData
  f__law_form : Addr
  f__law_form_d : FuncData
  f__law_rank : Addr
  f__law_rank_d : FuncData
  f__law_words : Addr
  f__law_words_d : FuncData
  f__law_holds : Addr
  f__law_holds_d : FuncData
  f_law : Addr
  f_law_d : FuncData
  c_Tokens : Addr
  c_Condition : Addr
  t_KEYWORDS : Addr
  t_SIGNS : Addr
  t_FIELDS : Addr
  t_ANSWERS : Addr
  t_PARTS_OF_ROWS : Addr
/-- what the top has left -/
structure Txt (w : World) (K : PySem.W.Frag) (mg : Str → Option Value) (a : Ads) : Prop where
  F_is_word : Fun K "is_word" "is_word" s_is_word a.f_is_word a.f_is_word_d
  b_is_word : Binds K a.f_is_word_d ["text"] []
  g_is_word : mg "is_word" = some (.ref a.f_is_word)
  F_is_number : Fun K "is_number" "is_number" s_is_number a.f_is_number a.f_is_number_d
  b_is_number : Binds K a.f_is_number_d ["piece"] []
  g_is_number : mg "is_number" = some (.ref a.f_is_number)
  F_kind_of : Fun K "kind_of" "kind_of" s_kind_of a.f_kind_of a.f_kind_of_d
  b_kind_of : Binds K a.f_kind_of_d ["piece"] []
  g_kind_of : mg "kind_of" = some (.ref a.f_kind_of)
  F_run_end : Fun K "run_end" "run_end" s_run_end a.f_run_end a.f_run_end_d
  b_run_end : Binds K a.f_run_end_d ["text", "start"] []
  g_run_end : mg "run_end" = some (.ref a.f_run_end)
  F_tokens_of : Fun K "tokens_of" "tokens_of" s_tokens_of a.f_tokens_of a.f_tokens_of_d
  b_tokens_of : Binds K a.f_tokens_of_d ["text"] []
  g_tokens_of : mg "tokens_of" = some (.ref a.f_tokens_of)
  F_Tokens___init__ : Fun K "__init__" "Tokens.__init__" s_Tokens___init__ a.f_Tokens___init__ a.f_Tokens___init___d
  b_Tokens___init__ : Binds K a.f_Tokens___init___d ["self", "text"] []
  mk_Tokens : Mk K a.c_Tokens a.f_Tokens___init__
  F_Tokens_kind_ahead : FunD K "kind_ahead" "Tokens.kind_ahead" (defArgs s_Tokens_kind_ahead) (defBody s_Tokens_kind_ahead) (defScope s_Tokens_kind_ahead) [.int 0] [] a.f_Tokens_kind_ahead a.f_Tokens_kind_ahead_d
  b_Tokens_kind_ahead : ∃ ds, Vals [.int 0] ds ∧ Binds K a.f_Tokens_kind_ahead_d ["self", "further"] ds
  m_Tokens_kind_ahead : Meth K a.c_Tokens "kind_ahead" a.f_Tokens_kind_ahead
  F_Tokens_take : Fun K "take" "Tokens.take" s_Tokens_take a.f_Tokens_take a.f_Tokens_take_d
  b_Tokens_take : Binds K a.f_Tokens_take_d ["self", "kind"] []
  m_Tokens_take : Meth K a.c_Tokens "take" a.f_Tokens_take
  F_Tokens_word_ahead : Fun K "word_ahead" "Tokens.word_ahead" s_Tokens_word_ahead a.f_Tokens_word_ahead a.f_Tokens_word_ahead_d
  b_Tokens_word_ahead : Binds K a.f_Tokens_word_ahead_d ["self"] []
  m_Tokens_word_ahead : Meth K a.c_Tokens "word_ahead" a.f_Tokens_word_ahead
  F_Tokens_skip_word : Fun K "skip_word" "Tokens.skip_word" s_Tokens_skip_word a.f_Tokens_skip_word a.f_Tokens_skip_word_d
  b_Tokens_skip_word : Binds K a.f_Tokens_skip_word_d ["self", "word"] []
  m_Tokens_skip_word : Meth K a.c_Tokens "skip_word" a.f_Tokens_skip_word
  F_Tokens_take_word : Fun K "take_word" "Tokens.take_word" s_Tokens_take_word a.f_Tokens_take_word a.f_Tokens_take_word_d
  b_Tokens_take_word : Binds K a.f_Tokens_take_word_d ["self", "words"] []
  m_Tokens_take_word : Meth K a.c_Tokens "take_word" a.f_Tokens_take_word
  F_read_number : Fun K "read_number" "read_number" s_read_number a.f_read_number a.f_read_number_d
  b_read_number : Binds K a.f_read_number_d ["tokens"] []
  g_read_number : mg "read_number" = some (.ref a.f_read_number)
  F_Condition___init__ : Fun K "__init__" "Condition.__init__" s_Condition___init__ a.f_Condition___init__ a.f_Condition___init___d
  b_Condition___init__ : Binds K a.f_Condition___init___d ["self", "parts"] []
  mk_Condition : Mk K a.c_Condition a.f_Condition___init__
  F_Condition___call__ : Fun K "__call__" "Condition.__call__" s_Condition___call__ a.f_Condition___call__ a.f_Condition___call___d
  b_Condition___call__ : Binds K a.f_Condition___call___d ["self", "row"] []
  m_Condition___call__ : Meth K a.c_Condition "__call__" a.f_Condition___call__
  F_read_condition : Fun K "read_condition" "read_condition" s_read_condition a.f_read_condition a.f_read_condition_d
  b_read_condition : Binds K a.f_read_condition_d ["text"] []
  g_read_condition : mg "read_condition" = some (.ref a.f_read_condition)
  F_question_tokens : Fun K "question_tokens" "question_tokens" s_question_tokens a.f_question_tokens a.f_question_tokens_d
  b_question_tokens : Binds K a.f_question_tokens_d ["text"] []
  g_question_tokens : mg "question_tokens" = some (.ref a.f_question_tokens)
  F_read_or : Fun K "read_or" "read_or" s_read_or a.f_read_or a.f_read_or_d
  b_read_or : Binds K a.f_read_or_d ["tokens", "around"] []
  g_read_or : mg "read_or" = some (.ref a.f_read_or)
  F_read_and : Fun K "read_and" "read_and" s_read_and a.f_read_and a.f_read_and_d
  b_read_and : Binds K a.f_read_and_d ["tokens", "around"] []
  g_read_and : mg "read_and" = some (.ref a.f_read_and)
  F_read_one : Fun K "read_one" "read_one" s_read_one a.f_read_one a.f_read_one_d
  b_read_one : Binds K a.f_read_one_d ["tokens", "around"] []
  g_read_one : mg "read_one" = some (.ref a.f_read_one)
  F_read_value : Fun K "read_value" "read_value" s_read_value a.f_read_value a.f_read_value_d
  b_read_value : Binds K a.f_read_value_d ["tokens", "word"] []
  g_read_value : mg "read_value" = some (.ref a.f_read_value)
  F__law_pool : Fun K "_law_pool" "_law_pool" s__law_pool a.f__law_pool a.f__law_pool_d
  b__law_pool : Binds K a.f__law_pool_d ["_law_script"] []
  g__law_pool : mg "_law_pool" = some (.ref a.f__law_pool)
  F__law_mixed : Fun K "_law_mixed" "_law_mixed" s__law_mixed a.f__law_mixed a.f__law_mixed_d
  b__law_mixed : Binds K a.f__law_mixed_d ["_law_number", "_law_count", "_law_many"] []
  g__law_mixed : mg "_law_mixed" = some (.ref a.f__law_mixed)
  F__law_draw : Fun K "_law_draw" "_law_draw" s__law_draw a.f__law_draw a.f__law_draw_d
  b__law_draw : Binds K a.f__law_draw_d ["_law_pool_here", "_law_many"] []
  g__law_draw : mg "_law_draw" = some (.ref a.f__law_draw)
  F__law_names : Fun K "_law_names" "_law_names" s__law_names a.f__law_names a.f__law_names_d
  b__law_names : Binds K a.f__law_names_d ["_law_pool_here"] []
  g__law_names : mg "_law_names" = some (.ref a.f__law_names)
  F__law_form : Fun K "_law_form" "_law_form" s__law_form a.f__law_form a.f__law_form_d
  b__law_form : Binds K a.f__law_form_d ["_law_pool_here", "_law_words_here", "_law_depth"] []
  g__law_form : mg "_law_form" = some (.ref a.f__law_form)
  F__law_rank : Fun K "_law_rank" "_law_rank" s__law_rank a.f__law_rank a.f__law_rank_d
  b__law_rank : Binds K a.f__law_rank_d ["_law_form_here"] []
  g__law_rank : mg "_law_rank" = some (.ref a.f__law_rank)
  F__law_words : Fun K "_law_words" "_law_words" s__law_words a.f__law_words a.f__law_words_d
  b__law_words : Binds K a.f__law_words_d ["_law_form_here", "_law_rank_here", "_law_extra"] []
  g__law_words : mg "_law_words" = some (.ref a.f__law_words)
  F__law_holds : Fun K "_law_holds" "_law_holds" s__law_holds a.f__law_holds a.f__law_holds_d
  b__law_holds : Binds K a.f__law_holds_d ["_law_form_here", "_law_row"] []
  g__law_holds : mg "_law_holds" = some (.ref a.f__law_holds)
  F_law : Fun K "law" "law" s_law a.f_law a.f_law_d
  g_law : mg "law" = some (.ref a.f_law)
  cl_Tokens : Cls K a.c_Tokens
  mg_Tokens : mg "Tokens" = some (.ref a.c_Tokens)
  n_Tokens_found : NoAttr K a.c_Tokens "found"
  n_Tokens_taken : NoAttr K a.c_Tokens "taken"
  cl_Condition : Cls K a.c_Condition
  mg_Condition : mg "Condition" = some (.ref a.c_Condition)
  n_Condition__parts : NoAttr K a.c_Condition "_parts"
  int : mg "int" = none
  len : mg "len" = none
  all : mg "all" = none
  max : mg "max" = none
  isinstance : mg "isinstance" = none
  str : mg "str" = none
  tuple : mg "tuple" = none
  range : mg "range" = none
  bool : mg "bool" = none
  list : mg "list" = none
  g_LETTERS : ∃ t, mg "LETTERS" = some (.str LET t)
  g_DIGITS : ∃ t, mg "DIGITS" = some (.str DIG t)
  g_BLANKS : ∃ t, mg "BLANKS" = some (.str " \n" t)
  g_NAME : ∃ t, mg "NAME" = some (.str "NAME" t)
  g_NUMBER : ∃ t, mg "NUMBER" = some (.str "NUMBER" t)
  g_WRONG : ∃ t, mg "WRONG" = some (.str "WRONG" t)
  g_END : ∃ t, mg "END" = some (.str "END" t)
  g_MOST_DIGITS : ∃ t, mg "MOST_DIGITS" = some (.int 12 t)
  g_MOST_AROUND : ∃ t, mg "MOST_AROUND" = some (.int 30 t)
  g_KEYWORDS : mg "KEYWORDS" = some (.ref a.t_KEYWORDS)
  q_KEYWORDS : ∀ H, SqT K H a.t_KEYWORDS kws
  g_SIGNS : mg "SIGNS" = some (.ref a.t_SIGNS)
  q_SIGNS : ∀ H, SqT K H a.t_SIGNS sgs
  g_FIELDS : mg "FIELDS" = some (.ref a.t_FIELDS)
  q_FIELDS : ∀ H, SqT K H a.t_FIELDS fds
  g_ANSWERS : mg "ANSWERS" = some (.ref a.t_ANSWERS)
  q_ANSWERS : ∀ H, SqT K H a.t_ANSWERS ans
  g_PARTS_OF_ROWS : mg "PARTS_OF_ROWS" = some (.ref a.t_PARTS_OF_ROWS)
  kd_PARTS_OF_ROWS_function : KDct K w a.t_PARTS_OF_ROWS "function" (.int 0)
  kd_PARTS_OF_ROWS_place : KDct K w a.t_PARTS_OF_ROWS "place" (.int 1)
  kd_PARTS_OF_ROWS_kind : KDct K w a.t_PARTS_OF_ROWS "kind" (.int 2)
  kd_PARTS_OF_ROWS_verdict : KDct K w a.t_PARTS_OF_ROWS "verdict" (.int 3)
  fi : PySem.W.fnIn K a.f_Condition___call__ = true

/-! ### the mirror of tokens -/
def letter (c : Nat) : Bool := decide (c ∈ LET.cps.toList)
def digit (c : Nat) : Bool := decide (c ∈ DIG.cps.toList)
def blank (c : Nat) : Bool := decide (c ∈ (Str.ofString " \n").cps.toList)
def alnum (c : Nat) : Bool := letter c || digit c
def isW (z : Str) : Bool := match tl z with
  | [] => false
  | c :: r => letter c && (c :: r).all alnum
def isNum (z : Str) : Bool := match tl z with
  | [] => false
  | c :: r => if decide (V.str ⟨#[c]⟩ = V.str (Str.ofString "0")) = true then decide (V.str z = V.str (Str.ofString "0")) else (c :: r).all digit
def kindOf (z : Str) : Str := if isW z = true then (if inV (.str z) kws = true then z else "NAME") else if isNum z = true then "NUMBER" else if inV (.str z) sgs = true then z else "WRONG"
def runLen (cs : List Nat) : Nat := (cs.takeWhile alnum).length
abbrev Tok3 := Str × Str × Nat
def toksF : Nat → List Nat → Nat → List Tok3
  | 0, _, _ => []
  | _ + 1, [], _ => []
  | n + 1, c :: r, p => if blank c = true then toksF n r (p + 1) else
      (kindOf ⟨((c :: r).take (max 1 (runLen (c :: r)))).toArray⟩, ⟨((c :: r).take (max 1 (runLen (c :: r)))).toArray⟩, p) :: toksF n ((c :: r).drop (max 1 (runLen (c :: r)))) (p + max 1 (runLen (c :: r)))
def toksL (cs : List Nat) (p : Nat) : List Tok3 := toksF cs.length cs p
def toks (z : Str) : List Tok3 := toksL (tl z) 0 ++ ([("END", "", z.length)] : List Tok3)
theorem toksF_fuel : ∀ (n m : Nat) (cs : List Nat) (p : Nat), cs.length ≤ n → cs.length ≤ m → toksF n cs p = toksF m cs p
  | 0, 0, _, _, _, _ => rfl
  | 0, m + 1, [], _, _, _ => rfl
  | 0, m + 1, c :: r, _, h, _ => by simp at h
  | n + 1, 0, [], _, _, _ => rfl
  | n + 1, 0, c :: r, _, _, h => by simp at h
  | n + 1, m + 1, [], _, _, _ => rfl
  | n + 1, m + 1, c :: r, p, h1, h2 => by
    have l1 : r.length ≤ n := by simpa using h1
    have l2 : r.length ≤ m := by simpa using h2
    have ld : ((c :: r).drop (max 1 (runLen (c :: r)))).length ≤ r.length := by
      rw [List.length_drop, List.length_cons]
      omega
    show (if blank c = true then toksF n r (p + 1) else _ :: toksF n _ _) = (if blank c = true then toksF m r (p + 1) else _ :: toksF m _ _)
    rw [toksF_fuel n m r (p + 1) l1 l2, toksF_fuel n m _ (p + max 1 (runLen (c :: r))) (Nat.le_trans ld l1) (Nat.le_trans ld l2)]
theorem toksL_nil (p : Nat) : toksL [] p = [] := rfl
theorem toksL_blank {c : Nat} {r : List Nat} {p : Nat} (h : blank c = true) : toksL (c :: r) p = toksL r (p + 1) := by
  show (if blank c = true then toksF r.length r (p + 1) else _) = _
  rw [if_pos h]
  rfl
theorem toksL_tok {c : Nat} {r : List Nat} {p : Nat} (h : blank c = false) : toksL (c :: r) p =
    (kindOf ⟨((c :: r).take (max 1 (runLen (c :: r)))).toArray⟩, ⟨((c :: r).take (max 1 (runLen (c :: r)))).toArray⟩, p) :: toksL ((c :: r).drop (max 1 (runLen (c :: r)))) (p + max 1 (runLen (c :: r))) := by
  show (if blank c = true then _ else _ :: toksF r.length _ _) = _
  rw [if_neg (by rw [h]; exact Bool.false_ne_true)]
  congr 1
  exact toksF_fuel _ _ _ _ (by rw [List.length_drop, List.length_cons]; omega) (Nat.le_refl _)
theorem isW_cons {z : Str} {c : Nat} {r : List Nat} (e : tl z = c :: r) (hc : letter c = true) : isW z = ((tl z).map alnum).all id := by
  unfold isW
  rw [e]
  show (letter c && (c :: r).all alnum) = ((c :: r).map alnum).all id
  rw [hc, Bool.true_and, List.all_map]
  rfl
theorem isW_not {z : Str} {c : Nat} {r : List Nat} (e : tl z = c :: r) (hc : letter c = false) : isW z = false := by
  unfold isW
  rw [e]
  show (letter c && (c :: r).all alnum) = false
  rw [hc, Bool.false_and]
theorem isW_nil {z : Str} (e : tl z = []) : isW z = false := by
  unfold isW
  rw [e]
theorem tl_empty : tl (Str.ofString "") = [] := by decide +kernel
theorem at0 {z : Str} {c : Nat} {r : List Nat} (e : tl z = c :: r) : atI z.cps.toList 0 = some c := by
  show atI (tl z) 0 = some c
  rw [e]
  exact atI_nat (j := 0) rfl
def spWord : Sp := fun vs H Q _ => ∃ z, vs = [.str z] ∧ Big z ∧ ∀ H', Same H H' → Q (.bl (isW z)) H'
def spNumb : Sp := fun vs H Q _ => ∃ z, vs = [.str z] ∧ Big z ∧ tl z ≠ [] ∧ ∀ H', Same H H' → Q (.bl (isNum z)) H'
def spKind : Sp := fun vs H Q _ => ∃ z, vs = [.str z] ∧ Big z ∧ tl z ≠ [] ∧ ∀ H', Same H H' → Q (.str (kindOf z)) H'
def spRun : Sp := fun vs H Q _ => ∃ (z : Str) (i : Nat), vs = [.str z, .int i] ∧ Big z ∧ i < z.length ∧ Q (.int ((i + max 1 (runLen ((tl z).drop i)) : Nat) : Int)) H
section
variable {P : Program} {w : World} {K : PySem.W.Frag} {mg : Str → Option Value} {base : Heap} {a : Ads}
theorem sc_is_word : FnScope ["text", "sign"] ["text"] (defScope s_is_word) := ⟨rfl, rfl, rfl, by decide +kernel, rfl, by decide +kernel, by decide +kernel⟩
theorem ok_is_word (T : Txt w K mg a) : FnOk P w K mg base CX0 1 a.f_is_word a.f_is_word_d ["text"] spWord := by
  refine T.F_is_word.ok sc_is_word (fun vs H Q E h => ?_) (fun cdv A outer s H vs Q E hr h => ?_)
  · obtain ⟨z, rfl, _⟩ := h
    rfl
  obtain ⟨z, rfl, hz, q⟩ := h
  refine ⟨_, (pss_cons (ps_if (PW.pt (pw_or (pt_cmpR op_eq (pv 0) pe_str (nomark _)) (pw_or1 (pt_cmpR op_notIn_sign (pe_ix ix_str (pv 0) pe_int (fun _ _ => rfl)) (pe_gs rfl T.g_LETTERS) (by rfl)))))
      (pss_one (ps_ret pe_bl))
      pss_nil)
    (pss_one (ps_ret (pe_callB (cr_all rfl) (by rfl) T.all (by decide +kernel) (pa_cons (pe_lc (own := [("sign", 1)]) (g := gName 1) (tt := tYes) (by rfl) sc_is_word.nd (pi_str (pv 0)) (blkOk_by (own := [("sign", 1)]) (N := ["text", "sign"]) (sc := defScope s_is_word) (by decide +kernel)) (fun _ _ _ _ _ => pg_name (i := 1) sc_is_word.nd rfl (Or.inl rfl)) (fun _ _ _ _ _ => pts_nil) (fun _ _ _ _ _ => (pe_or (pe_cmpR op_in_sign (pv 1) (pe_gs rfl T.g_LETTERS) (by rfl)) (pe_one (pe_cmpR op_in_sign (pv 1) (pe_gs rfl T.g_DIGITS) (by rfl)))))) pa_nil))))), ?_⟩
  cases hc : tl z with
  | nil =>
    have ez : z = Str.ofString "" := ext_tl (hc.trans tl_empty.symm)
    refine st_seq (st_yes (ans_or1 (ans_eq (fun Q q => ⟨_, rfl, q⟩) (fun Q q => q) rfl (decide_eq_true (congrArg V.str ez)))) ?_)
    have := q H (Same.refl H)
    rw [isW_nil hc] at this
    exact this
  | cons c r =>
    have ez : ¬ z = Str.ofString "" := fun e => by
      rw [e, tl_empty] at hc
      cases hc
    refine st_seq (st_ite (ans_or (ans_eq (fun Q q => ⟨_, rfl, q⟩) (fun Q q => q) rfl (decide_eq_false fun e => ez (V.str.inj e))) (b := !letter c) (fun Q q => ⟨_, rfl, z, 0, c, rfl, rfl, bigLe hz, at0 hc, c, LET, rfl, rfl, _, rfl, q⟩)) (fun e => ?_) (fun e => ?_))
    · have := q H (Same.refl H)
      rw [isW_not hc (by simpa using e)] at this
      exact this
    · have hl : letter c = true := by simpa using e
      refine ⟨_, rfl, z, rfl, fun D hD => lc_signs alnum hz hD (fun c' H' Q' q' => ⟨rfl, _, rfl, c', LET, rfl, rfl, _, rfl, ite2 (fun e => ?_) (fun e => ?_)⟩) (fun H' s2 hD2 => ⟨D, _, rfl, SqL.of hD2, ?_⟩)⟩
      · have : alnum c' = true := by unfold alnum letter; rw [e]; rfl
        rw [this] at q'
        exact q'
      · refine ⟨_, rfl, c', DIG, rfl, rfl, ?_⟩
        have : alnum c' = digit c' := by unfold alnum letter; rw [Bool.eq_false_iff.mpr e, Bool.false_or]
        rw [this] at q'
        exact q'
      · rw [← isW_cons hc hl]
        exact q _ s2
theorem sc_is_number : FnScope ["piece", "sign"] ["piece"] (defScope s_is_number) := ⟨rfl, rfl, rfl, by decide +kernel, rfl, by decide +kernel, by decide +kernel⟩
theorem ok_is_number (T : Txt w K mg a) : FnOk P w K mg base CX0 1 a.f_is_number a.f_is_number_d ["piece"] spNumb := by
  refine T.F_is_number.ok sc_is_number (fun vs H Q E h => ?_) (fun cdv A outer s H vs Q E hr h => ?_)
  · obtain ⟨z, rfl, _⟩ := h
    rfl
  obtain ⟨z, rfl, hz, hne, q⟩ := h
  refine ⟨_, (pss_cons (ps_if (pt_cmpR op_eq (pe_ix ix_str (pv 0) pe_int (fun _ _ => rfl)) pe_str (nomark _))
      (pss_one (ps_ret (pe_cmpR op_eq (pv 0) pe_str (nomark _))))
      pss_nil)
    (pss_one (ps_ret (pe_callB (cr_all rfl) (by rfl) T.all (by decide +kernel) (pa_cons (pe_lc (own := [("sign", 1)]) (g := gName 1) (tt := tYes) (by rfl) sc_is_number.nd (pi_str (pv 0)) (blkOk_by (own := [("sign", 1)]) (N := ["piece", "sign"]) (sc := defScope s_is_number) (by decide +kernel)) (fun _ _ _ _ _ => pg_name (i := 1) sc_is_number.nd rfl (Or.inl rfl)) (fun _ _ _ _ _ => pts_nil) (fun _ _ _ _ _ => (pe_cmpR op_in_sign (pv 1) (pe_gs rfl T.g_DIGITS) (by rfl)))) pa_nil))))), ?_⟩
  cases hc : tl z with
  | nil => exact absurd hc hne
  | cons c r =>
    refine st_seq (st_ite (b := decide (V.str ⟨#[c]⟩ = V.str (Str.ofString "0"))) (fun Q q => ⟨_, rfl, z, 0, c, rfl, rfl, bigLe hz, at0 hc, rfl, _, rfl, q⟩) (fun e => ?_) (fun e => ?_))
    · refine ⟨_, rfl, rfl, ?_⟩
      have := q H (Same.refl H)
      unfold isNum at this
      rw [hc] at this
      dsimp only at this
      rw [if_pos e] at this
      exact this
    · refine ⟨_, rfl, z, rfl, fun D hD => lc_signs digit hz hD (fun c' H' Q' q' => ⟨rfl, _, rfl, c', DIG, rfl, rfl, q'⟩) (fun H' s2 hD2 => ⟨D, _, rfl, SqL.of hD2, ?_⟩)⟩
      have := q H' s2
      unfold isNum at this
      rw [hc] at this
      dsimp only at this
      rw [if_neg (by rw [e]; exact Bool.false_ne_true)] at this
      rw [hc, List.all_map]
      exact this
theorem kws_flat : kws.all flatV = true := by decide +kernel
theorem sgs_flat : sgs.all flatV = true := by decide +kernel
theorem sc_kind_of : FnScope ["piece"] ["piece"] (defScope s_kind_of) := ⟨rfl, rfl, rfl, by decide +kernel, rfl, by decide +kernel, by decide +kernel⟩
theorem ok_kind_of (T : Txt w K mg a) : FnOk P w K mg base CX0 2 a.f_kind_of a.f_kind_of_d ["piece"] spKind := by
  refine T.F_kind_of.ok sc_kind_of (fun vs H Q E h => ?_) (fun cdv A outer s H vs Q E hr h => ?_)
  · obtain ⟨z, rfl, _⟩ := h
    rfl
  obtain ⟨z, rfl, hz, hne, q⟩ := h
  refine ⟨_, (pss_cons (ps_if (pt_val (pe_call (ok_is_word T) (hr.mono (by decide)) (by rfl) T.g_is_word T.F_is_word.kp T.b_is_word .nil pass0 (pa_cons (pv 0) pa_nil)))
      (pss_one (ps_ret (pe_ifExp (pt_cmpR op_in_seq (pv 0) (pe_gr rfl T.g_KEYWORDS) (by rfl)) (pv 0) (pe_gs rfl T.g_NAME))))
      pss_nil)
    (pss_cons (ps_if (pt_val (pe_call (ok_is_number T) (hr.mono (by decide)) (by rfl) T.g_is_number T.F_is_number.kp T.b_is_number .nil pass0 (pa_cons (pv 0) pa_nil)))
      (pss_one (ps_ret (pe_gs rfl T.g_NUMBER)))
      pss_nil)
    (pss_cons (ps_if (pt_cmpR op_in_seq (pv 0) (pe_gr rfl T.g_SIGNS) (by rfl))
      (pss_one (ps_ret (pv 0)))
      pss_nil)
    (pss_one (ps_ret (pe_gs rfl T.g_WRONG)))))), ?_⟩
  refine ⟨_, rfl, z, rfl, hz, fun H1 s1 => ⟨_, rfl, ite2 (fun e1 => ?_) (fun e1 => ?_)⟩⟩
  · refine ⟨_, rfl, _, kws, rfl, .inr (T.q_KEYWORDS H1), rfl, kws_flat, _, rfl, ite2 (fun e2 => ⟨_, rfl, ?_⟩) (fun e2 => ?_)⟩
    · have e2' : inV (.str z) kws = true := e2
      have := q H1 s1
      unfold kindOf at this
      rw [if_pos e1, if_pos e2'] at this
      exact this
    · have e2' : ¬ inV (.str z) kws = true := e2
      have := q H1 s1
      unfold kindOf at this
      rw [if_pos e1, if_neg e2'] at this
      exact this
  · refine ⟨_, rfl, z, rfl, hz, hne, fun H2 s2 => ⟨_, rfl, ite2 (fun e2 => ?_) (fun e2 => ?_)⟩⟩
    · have := q H2 (s1.trans s2)
      unfold kindOf at this
      rw [if_neg e1, if_pos e2] at this
      exact this
    · refine ⟨_, rfl, _, sgs, rfl, .inr (T.q_SIGNS H2), rfl, sgs_flat, _, rfl, ite2 (fun e3 => ⟨_, rfl, ?_⟩) (fun e3 => ?_)⟩
      · have e3' : inV (.str z) sgs = true := e3
        have := q H2 (s1.trans s2)
        unfold kindOf at this
        rw [if_neg e1, if_neg e2, if_pos e3'] at this
        exact this
      · have e3' : ¬ inV (.str z) sgs = true := e3
        have := q H2 (s1.trans s2)
        unfold kindOf at this
        rw [if_neg e1, if_neg e2, if_neg e3'] at this
        exact this
end
end K34
namespace K34
open PySem PySem.Spec PyProof.Rows L2 TL
theorem cutS_nat (z : Str) {p e : Nat} (h1 : p ≤ e) (h2 : e ≤ z.length) : cutS z (some (p : Int)) (some (e : Int)) = ⟨(((tl z).drop p).take (e - p)).toArray⟩ := by
  unfold cutS
  rw [HT.sIx_nat, HT.sIx_nat, Nat.min_eq_left h2, Nat.min_eq_left (Nat.le_trans h1 h2)]
theorem cutS_len (z : Str) (lo hi : Option Int) : (cutS z lo hi).length ≤ z.length := by
  rw [len_tl, len_tl z]
  show ((z.cps.toList.drop _).take _).toArray.toList.length ≤ _
  rw [List.length_take, List.length_drop]
  show _ ≤ z.cps.toList.length
  omega
theorem atI_tl {z : Str} {j : Nat} (h : j < z.length) : ∃ c, atI z.cps.toList (j : Int) = some c ∧ (tl z).drop j = c :: (tl z).drop (j + 1) := by
  have hj : j < (tl z).length := by rw [← len_tl]; exact h
  exact ⟨(tl z)[j], atI_nat (List.getElem?_eq_getElem hj), List.drop_eq_getElem_cons hj⟩
theorem runLen_hit {c : Nat} {r : List Nat} (h : alnum c = true) : runLen (c :: r) = runLen r + 1 := by
  unfold runLen
  rw [List.takeWhile_cons_of_pos h]
  rfl
theorem runLen_miss {c : Nat} {r : List Nat} (h : alnum c = false) : runLen (c :: r) = 0 := by
  unfold runLen
  rw [List.takeWhile_cons_of_neg (by rw [h]; exact Bool.false_ne_true)]
  rfl
theorem runLen_le (l : List Nat) : runLen l ≤ l.length := by
  unfold runLen
  exact (List.takeWhile_sublist _).length_le
def tok (t : Tok3) : List V := [.str t.1, .str t.2.1, .int (t.2.2 : Int)]
def Rep (H : Hp) : List Addr → List Tok3 → Prop
  | [], [] => True
  | a :: as, t :: ts => H a = some (.tup (tok t)) ∧ Rep H as ts
  | _, _ => False
theorem Rep.same {H H' : Hp} (s : Same H H') : ∀ {as : List Addr} {ts : List Tok3}, Rep H as ts → Rep H' as ts
  | [], [], _ => trivial
  | _ :: _, _ :: _, h => ⟨s _ _ h.1, Rep.same s h.2⟩
  | [], _ :: _, h => h.elim
  | _ :: _, [], h => h.elim
theorem Rep.app {H : Hp} {a : Addr} {t : Tok3} (ha : H a = some (.tup (tok t))) : ∀ {as : List Addr} {ts : List Tok3}, Rep H as ts → Rep H (as ++ [a]) (ts ++ [t])
  | [], [], _ => ⟨ha, trivial⟩
  | _ :: _, _ :: _, h => ⟨h.1, Rep.app ha h.2⟩
  | [], _ :: _, h => h.elim
  | _ :: _, [], h => h.elim
theorem Rep.len {H : Hp} : ∀ {as : List Addr} {ts : List Tok3}, Rep H as ts → as.length = ts.length
  | [], [], _ => rfl
  | _ :: _, _ :: _, h => by rw [List.length_cons, List.length_cons, Rep.len h.2]
  | [], _ :: _, h => h.elim
  | _ :: _, [], h => h.elim
theorem Rep.get {H : Hp} : ∀ {as : List Addr} {ts : List Tok3} {j : Nat} {t : Tok3}, Rep H as ts → ts[j]? = some t → ∃ a, (as.map V.ref)[j]? = some (.ref a) ∧ H a = some (.tup (tok t))
  | [], [], j, t, _, h => by simp at h
  | a :: _, _ :: _, 0, t, h, e => by
    have e' := Option.some.inj e
    subst e'
    exact ⟨a, rfl, h.1⟩
  | _ :: as, _ :: ts, j + 1, t, h, e => by
    obtain ⟨a, h1, h2⟩ := Rep.get (j := j) (t := t) h.2 e
    exact ⟨a, h1, h2⟩
  | [], _ :: _, _, _, h, _ => h.elim
  | _ :: _, [], _, _, h, _ => h.elim
theorem Rep.off {H : Hp} {L : Addr} {xs : List V} {o : HO} (hL : H L = some (.lst xs)) : ∀ {as : List Addr} {ts : List Tok3}, Rep H as ts → Rep (upd H L o) as ts
  | [], [], _ => trivial
  | _ :: _, _ :: _, h => ⟨by rw [upd_ne (ne_of h.1 hL (by intro z; cases z))]; exact h.1, Rep.off hL h.2⟩
  | [], _ :: _, h => h.elim
  | _ :: _, [], h => h.elim
theorem Rep.offI {H : Hp} {o C dx : Addr} {fs : List (Str × V)} {u : HO} (ho : H o = some (.ins C dx fs)) : ∀ {as : List Addr} {ts : List Tok3}, Rep H as ts → Rep (upd H o u) as ts
  | [], [], _ => trivial
  | _ :: _, _ :: _, h => ⟨by rw [upd_ne (ne_of h.1 ho (by intro z; cases z))]; exact h.1, Rep.offI ho h.2⟩
  | [], _ :: _, h => h.elim
  | _ :: _, [], h => h.elim
def spToks : Sp := fun vs H Q _ => ∃ z, vs = [.str z] ∧ Big z ∧ ∀ H' L as, Same H H' → H L = none → H' L = some (.lst (as.map V.ref)) → Rep H' as (toks z) → Q (.ref L) H'
/-! ### a Tokens object -/
def tf (L : Addr) (i : Nat) : List (Str × V) := putF "taken" (.int i) (putF "found" (.ref L) [])
theorem ct : ¬ (("found" : Str) = "taken") := by decide +kernel
theorem tf_eq (L : Addr) (i : Nat) : tf L i = ([("found", V.ref L), ("taken", V.int i)] : List (Str × V)) := by
  show (if ("found" : Str) = "taken" then [(("found" : Str), V.int i)] else (("found" : Str), V.ref L) :: putF "taken" (V.int i) []) = ([("found", V.ref L), ("taken", V.int i)] : List (Str × V))
  rw [if_neg ct]
  all_goals rfl
theorem tf_found (L : Addr) (i : Nat) : (tf L i).lookup ("found" : Str) = some (.ref L) := by
  unfold tf
  rw [lookup_putF, if_neg ct, lookup_putF, if_pos rfl]
theorem tf_taken (L : Addr) (i : Nat) : (tf L i).lookup ("taken" : Str) = some (.int i) := by
  unfold tf
  rw [lookup_putF, if_pos rfl]
theorem tf_no (L : Addr) (i : Nat) {m : Str} (h1 : ¬ m = "taken") (h2 : ¬ m = "found") : (tf L i).lookup m = none := by
  unfold tf
  rw [lookup_putF, if_neg h1, lookup_putF, if_neg h2]
  all_goals rfl
theorem tf_put (L : Addr) (i j : Nat) : putF "taken" (.int j) (tf L i) = tf L j := by
  rw [tf_eq, tf_eq]
  show (if ("found" : Str) = "taken" then _ else (("found" : Str), V.ref L) :: (if ("taken" : Str) = "taken" then [(("taken" : Str), V.int j)] else _)) = ([("found", V.ref L), ("taken", V.int j)] : List (Str × V))
  rw [if_neg ct, if_pos rfl]
/-- a Tokens object at o: its tokens ts, i of them taken -/
def TkAt (C : Addr) (H : Hp) (o L : Addr) (ts : List Tok3) (i : Nat) : Prop := ∃ dx as, H o = some (.ins C dx (tf L i)) ∧ H L = some (.lst (as.map V.ref)) ∧ Rep H as ts ∧ i ≤ ts.length ∧ ts.length ≤ 1000001
theorem TkAt.same {C : Addr} {H H' : Hp} {o L : Addr} {ts : List Tok3} {i : Nat} (h : TkAt C H o L ts i) (s : Same H H') : TkAt C H' o L ts i := by
  obtain ⟨dx, as, h1, h2, h3, h4⟩ := h
  exact ⟨dx, as, s _ _ h1, s _ _ h2, h3.same s, h4⟩
theorem Rep.offX {H : Hp} {L : Addr} {u o : HO} (hL : H L = some u) (hu : ∀ xs, u ≠ .tup xs) : ∀ {as : List Addr} {ts : List Tok3}, Rep H as ts → Rep (upd H L o) as ts
  | [], [], _ => trivial
  | _ :: _, _ :: _, h => ⟨by rw [upd_ne (ne_of h.1 hL (fun z => hu _ z.symm))]; exact h.1, Rep.offX hL hu h.2⟩
  | [], _ :: _, h => h.elim
  | _ :: _, [], h => h.elim
/-- something else changes -/
theorem TkAt.off {C : Addr} {H : Hp} {o L b : Addr} {ts : List Tok3} {i : Nat} {u x : HO} (h : TkAt C H o L ts i) (hb : H b = some u) (h1 : ∀ xs, u ≠ .tup xs) (h2 : ∀ C dx fs, u ≠ .ins C dx fs) (h3 : b ≠ L) : TkAt C (upd H b x) o L ts i := by
  obtain ⟨dx, as, e1, e2, e3, e4⟩ := h
  refine ⟨dx, as, ?_, ?_, e3.offX hb h1, e4⟩
  · rw [upd_ne (ne_of e1 hb (fun z => h2 _ _ _ z.symm))]
    exact e1
  · rw [upd_ne h3.symm]
    exact e2
theorem TkAt.move {C : Addr} {H : Hp} {o : Addr} {ts : List Tok3} {i j : Nat} {L dx : Addr} {as : List Addr} (h1 : H o = some (.ins C dx (tf L i))) (h2 : H L = some (.lst (as.map V.ref))) (h3 : Rep H as ts) (hj : j ≤ ts.length) (hl : ts.length ≤ 1000001) :
    TkAt C (upd H o (.ins C dx (tf L j))) o L ts j := by
  refine ⟨dx, as, upd_same, ?_, ?_, hj, hl⟩
  · rw [upd_ne (ne_of h2 h1 (by intro z; cases z))]
    exact h2
  · clear h2 hj hl
    revert ts
    induction as with
    | nil =>
      intro ts h3
      cases ts with
      | nil => exact trivial
      | cons _ _ => exact h3.elim
    | cons b bs ih =>
      intro ts h3
      cases ts with
      | nil => exact h3.elim
      | cons t ts =>
        refine ⟨?_, ih h3.2⟩
        rw [upd_ne (ne_of h3.1 h1 (by intro z; cases z))]
        exact h3.1
/-- but for o all is as it was -/
def But (o : Addr) (H H' : Hp) : Prop := ∀ b, b ≠ o → H' b = H b
def spInit (C : Addr) : Sp := fun vs H Q _ => ∃ (o dx : Addr) (z : Str), vs = [.ref o, .str z] ∧ H o = some (.ins C dx []) ∧ Big z ∧ ∀ H' L, TkAt C H' o L (toks z) 0 → H L = none → (∀ b x, H b = some x → b ≠ o → H' b = some x) → Q .non H'
def spAhead (C : Addr) : Sp := fun vs H Q _ => ∃ (o L : Addr) (f : Nat) (ts : List Tok3) (i : Nat) (t : Tok3), vs = [.ref o, .int f] ∧ TkAt C H o L ts i ∧ ts[i + f]? = some t ∧ Q (.str t.1) H
def spTake (C : Addr) : Sp := fun vs H Q _ => ∃ (o L : Addr) (ts : List Tok3) (i : Nat) (t : Tok3), vs = [.ref o, .str t.1] ∧ TkAt C H o L ts i ∧ ts[i]? = some t ∧ ∀ H', TkAt C H' o L ts (i + 1) → But o H H' → Q (.str t.2.1) H'
def spSkip (C : Addr) : Sp := fun vs H Q _ => ∃ (o L : Addr) (k : Str) (ts : List Tok3) (i : Nat) (t : Tok3), vs = [.ref o, .str k] ∧ TkAt C H o L ts i ∧ ts[i]? = some t ∧
  (t.1 = k → ∀ H', TkAt C H' o L ts (i + 1) → But o H H' → Q (.bl true) H') ∧ (¬ t.1 = k → Q (.bl false) H)
section
variable {P : Program} {w : World} {K : PySem.W.Frag} {mg : Str → Option Value} {base : Heap} {a : Ads}
theorem sc_run_end : FnScope ["text", "start", "at"] ["text", "start"] (defScope s_run_end) := ⟨rfl, rfl, rfl, by decide +kernel, rfl, by decide +kernel, by decide +kernel⟩
theorem ok_run_end (T : Txt w K mg a) : FnOk P w K mg base CX0 1 a.f_run_end a.f_run_end_d ["text", "start"] spRun := by
  refine T.F_run_end.ok sc_run_end (fun vs H Q E h => ?_) (fun cdv A outer s H vs Q E hr h => ?_)
  · obtain ⟨z, i, rfl, _⟩ := h
    rfl
  obtain ⟨z, i, rfl, hz, hi, q⟩ := h
  refine ⟨_, (pss_cons (ps_set (i := 2) sc_run_end.nd rfl (Or.inl rfl) (pv 1))
    (pss_cons (ps_while PassesOwn.never (PW.pt (pw_and (pt_cmpR op_lt (pv 2) (pe_callB call_len_str (by rfl) T.len PySem.boot_len (pa_cons (pv 0) pa_nil)) (nomark _)) (pw_and1 (PW.pt (pw_or (pt_cmpR op_in_sign (pe_ix ix_str (pv 0) (pv 2) (fun _ _ => rfl)) (pe_gs rfl T.g_LETTERS) (by rfl)) (pw_or1 (pt_cmpR op_in_sign (pe_ix ix_str (pv 0) (pv 2) (fun _ _ => rfl)) (pe_gs rfl T.g_DIGITS) (by rfl))))))))
      (pss_one (ps_aug (i := 2) sc_run_end.nd rfl (Or.inl rfl) pe_int ip_add)))
    (pss_one (ps_ret (pe_callB (call_max2 rfl) (by rfl) T.max (by decide +kernel) (pa_cons (pv 2) (pa_cons (pe_op op_add (pv 1) pe_int) pa_nil))))))), ?_⟩
  refine st_seq (st_set (fun Q q => ⟨_, rfl, q⟩) (st_seq (while_ans (fun m σ H' => ∃ j : Nat, σ = [some (.str z), some (.int i), some (.int j)] ∧ H' = H ∧ i ≤ j ∧ j ≤ z.length ∧ m = z.length - j ∧ runLen ((tl z).drop i) = (j - i) + runLen ((tl z).drop j))
    (z.length - i) ⟨i, rfl, rfl, Nat.le_refl _, Nat.le_of_lt hi, rfl, by omega⟩ ?_)))
  rintro m σ H' ⟨j, rfl, rfl, hij, hj, rfl, hrun⟩
  by_cases hlt : j < z.length
  · obtain ⟨c, hc, hd⟩ := atI_tl hlt
    have t1 : Ans (tTest (tOp (rI0 fun i j => .bl (decide (i < j))) (tVar 2) (tCB (fun xs H Q => ∃ z, xs = [.str z] ∧ z.length ≤ sizeLine ∧ Q (.int z.length) H) (tCons (tVar 0) tNil)))) [some (.str z), some (.int i), some (.int j)] H' true :=
      fun Q q => ⟨_, rfl, _, rfl, z, rfl, bigLe hz, _, _, rfl, rfl, _, rfl, (by rw [decide_eq_true (show (j : Int) < (z.length : Int) by omega)]; exact q)⟩
    refine ⟨alnum c, ?_, fun e => ?_, fun e => ?_⟩
    · refine ans_and t1 ?_
      by_cases hl : letter c = true
      · have : alnum c = true := by unfold alnum; rw [hl]; rfl
        rw [this]
        exact ans_or1 (fun Q q => ⟨_, rfl, _, rfl, z, j, c, rfl, rfl, bigLe hz, hc, c, LET, rfl, rfl, _, rfl, (by rw [show decide (c ∈ LET.cps.toList) = true from hl]; exact q)⟩)
      · have hl' : letter c = false := Bool.eq_false_iff.mpr hl
        have : alnum c = digit c := by unfold alnum; rw [hl', Bool.false_or]
        rw [this]
        exact ans_or (fun Q q => ⟨_, rfl, _, rfl, z, j, c, rfl, rfl, bigLe hz, hc, c, LET, rfl, rfl, _, rfl, (by rw [show decide (c ∈ LET.cps.toList) = false from hl']; exact q)⟩)
          (fun Q q => ⟨_, rfl, _, rfl, z, j, c, rfl, rfl, bigLe hz, hc, c, DIG, rfl, rfl, _, rfl, q⟩)
    · refine ⟨_, rfl, _, _, rfl, rfl, z.length - (j + 1), by omega, j + 1, rfl, rfl, by omega, by omega, rfl, ?_⟩
      rw [hrun, hd, runLen_hit e]
      omega
    · refine ⟨_, rfl, _, rfl, _, _, rfl, rfl, _, _, rfl, ?_⟩
      rw [hd, runLen_miss e] at hrun
      rw [hrun] at q
      by_cases hm : j = i
      · subst hm
        rw [if_pos (by omega)]
        rw [show j + max 1 (j - j + 0) = j + 1 by omega] at q
        exact q
      · rw [if_neg (by omega)]
        rw [show i + max 1 (j - i + 0) = j by omega] at q
        exact q
  · have hj' : j = z.length := by omega
    refine ⟨false, ans_and0 (fun Q q => ⟨_, rfl, _, rfl, z, rfl, bigLe hz, _, _, rfl, rfl, _, rfl, (by rw [decide_eq_false (show ¬ (j : Int) < (z.length : Int) by omega)]; exact q)⟩), fun e => (by cases e), fun _ => ?_⟩
    refine ⟨_, rfl, _, rfl, _, _, rfl, rfl, _, _, rfl, ?_⟩
    have e0 : (tl z).drop j = [] := List.drop_eq_nil_of_le (by rw [← len_tl]; omega)
    rw [e0] at hrun
    rw [hrun] at q
    rw [if_neg (by omega)]
    rw [show i + max 1 (j - i + runLen []) = j by show i + max 1 (j - i + 0) = j; omega] at q
    exact q
theorem sc_tokens_of : FnScope ["text", "found", "at", "end"] ["text"] (defScope s_tokens_of) := ⟨rfl, rfl, rfl, by decide +kernel, rfl, by decide +kernel, by decide +kernel⟩
theorem ok_tokens_of (T : Txt w K mg a) : FnOk P w K mg base CX0 3 a.f_tokens_of a.f_tokens_of_d ["text"] spToks := by
  refine T.F_tokens_of.ok sc_tokens_of (fun vs H Q E h => ?_) (fun cdv A outer s H vs Q E hr h => ?_)
  · obtain ⟨z, rfl, _⟩ := h
    rfl
  obtain ⟨z, rfl, hz, q⟩ := h
  refine ⟨_, (pss_cons (ps_set (i := 1) sc_tokens_of.nd rfl (Or.inl rfl) (pe_lst pa_nil))
    (pss_cons (ps_set (i := 2) sc_tokens_of.nd rfl (Or.inl rfl) pe_int)
    (pss_cons (ps_while PassesOwn.never (pt_cmpR op_lt (pv 2) (pe_callB call_len_str (by rfl) T.len PySem.boot_len (pa_cons (pv 0) pa_nil)) (nomark _))
      (pss_one (ps_if (pt_cmpR op_in_sign (pe_ix ix_str (pv 0) (pv 2) (fun _ _ => rfl)) (pe_gs rfl T.g_BLANKS) (by rfl))
        (pss_one (ps_aug (i := 2) sc_tokens_of.nd rfl (Or.inl rfl) pe_int ip_add))
        (pss_cons (ps_set (i := 3) sc_tokens_of.nd rfl (Or.inl rfl) (pe_call (ok_run_end T) (hr.mono (by decide)) (by rfl) T.g_run_end T.F_run_end.kp T.b_run_end .nil pass0 (pa_cons (pv 0) (pa_cons (pv 2) pa_nil))))
        (pss_cons (ps_expr (pe_bm PySem.F.plainAttrs_list PySem.F.slot_list_append PySem.F.type_list_append mt_append (pv 1) (pa_cons (pe_tup (pa_cons (pe_call (ok_kind_of T) (hr.mono (by decide)) (by rfl) T.g_kind_of T.F_kind_of.kp T.b_kind_of .nil pass0 (pa_cons (pe_slice sl_str (pv 0) (po_some (pv 2)) (po_some (pv 3))) pa_nil)) (pa_cons (pe_slice sl_str (pv 0) (po_some (pv 2)) (po_some (pv 3))) (pa_cons (pv 2) pa_nil)))) pa_nil)))
        (pss_one (ps_set (i := 2) sc_tokens_of.nd rfl (Or.inl rfl) (pv 3))))))))
    (pss_cons (ps_expr (pe_bm PySem.F.plainAttrs_list PySem.F.slot_list_append PySem.F.type_list_append mt_append (pv 1) (pa_cons (pe_tup (pa_cons (pe_gs rfl T.g_END) (pa_cons pe_str (pa_cons (pe_callB call_len_str (by rfl) T.len PySem.boot_len (pa_cons (pv 0) pa_nil)) pa_nil)))) pa_nil)))
    (pss_one (ps_ret (pv 1))))))), ?_⟩
  refine ⟨Nat.zero_le _, fun L hL => ?_⟩
  dsimp only [gName]
  refine st_seq (st_set (fun Q q => q) (st_seq (while_ans (fun m σ H' => ∃ (p : Nat) (as : List Addr) (pre : List Tok3) (v3 : Option V), σ = [some (.str z), some (.ref L), some (.int p), v3] ∧ Same H H' ∧ p ≤ z.length ∧ m = z.length - p ∧
      H' L = some (.lst (as.map V.ref)) ∧ Rep H' as pre ∧ as.length ≤ p ∧ pre ++ toksL ((tl z).drop p) p = toksL (tl z) 0)
    z.length ⟨0, [], [], none, rfl, same_upd hL, Nat.zero_le _, rfl, upd_same, trivial, Nat.le_refl _, rfl⟩ ?_)))
  rintro m σ H' ⟨p, as, pre, v3, rfl, s1, hp, rfl, hLa, hR, hlen, hpre⟩
  have hz' : z.length ≤ 1000000 := hz
  by_cases hlt : p < z.length
  · refine ⟨true, (fun Q q => ⟨_, rfl, _, rfl, z, rfl, bigLe hz, _, _, rfl, rfl, _, rfl, (by rw [decide_eq_true (show (p : Int) < (z.length : Int) by omega)]; exact q)⟩), fun _ => ?_, fun e => (by cases e)⟩
    obtain ⟨c, hc, hd⟩ := atI_tl hlt
    refine st_ite (b := blank c) (fun Q q => ⟨_, rfl, _, rfl, z, p, c, rfl, rfl, bigLe hz, hc, c, _, rfl, rfl, _, rfl, q⟩) (fun e => ?_) (fun e => ?_)
    · refine ⟨_, rfl, _, _, rfl, rfl, z.length - (p + 1), by omega, p + 1, as, pre, v3, rfl, s1, by omega, rfl, hLa, hR, by omega, ?_⟩
      rw [← hpre, hd, toksL_blank e]
    · refine ⟨_, rfl, _, rfl, z, p, rfl, hz, hlt, ?_⟩
      have hk : max 1 (runLen ((tl z).drop p)) ≤ z.length - p := by
        have h1 := runLen_le ((tl z).drop p)
        rw [List.length_drop, ← len_tl] at h1
        omega
      have hcut : cutS z (some (p : Int)) (some ((p + max 1 (runLen ((tl z).drop p)) : Nat) : Int)) = ⟨((c :: (tl z).drop (p + 1)).take (max 1 (runLen (c :: (tl z).drop (p + 1))))).toArray⟩ := by
        rw [cutS_nat z (by omega) (by omega), ← hd, Nat.add_sub_cancel_left]
      have hbig : Big (cutS z (some (p : Int)) (some ((p + max 1 (runLen ((tl z).drop p)) : Nat) : Int))) := Nat.le_trans (cutS_len _ _ _) hz
      have hne : tl (cutS z (some (p : Int)) (some ((p + max 1 (runLen ((tl z).drop p)) : Nat) : Int))) ≠ [] := by
        rw [hcut]
        show (c :: (tl z).drop (p + 1)).take (max 1 (runLen (c :: (tl z).drop (p + 1)))) ≠ []
        intro e
        have := congrArg List.length e
        rw [List.length_take, List.length_cons] at this
        simp at this
      refine ⟨_, rfl, .inl ⟨rfl, _, SqL.of hLa⟩, _, rfl, _, rfl, _, rfl, _, rfl, _, rfl, z, rfl, bigLe hz, _, rfl, hbig, hne, fun H1 s2 => ?_⟩
      refine ⟨_, rfl, _, rfl, _, rfl, _, rfl, _, rfl, z, rfl, bigLe hz, _, rfl, (by show 3 ≤ sizeLine; decide), fun t ht => ?_⟩
      have htL : t ≠ L := fun e => by
        rw [e, s2 _ _ hLa] at ht
        cases ht
      refine ⟨L, _, _, rfl, rfl, (by rw [upd_ne htL.symm]; exact s2 _ _ hLa), (by rw [List.length_map]; exact bigLine (by omega)), ?_⟩
      refine ⟨_, rfl, z.length - (p + max 1 (runLen ((tl z).drop p))), by omega, p + max 1 (runLen ((tl z).drop p)), as ++ [t], pre ++ [(kindOf (cutS z (some (p : Int)) (some ((p + max 1 (runLen ((tl z).drop p)) : Nat) : Int))), cutS z (some (p : Int)) (some ((p + max 1 (runLen ((tl z).drop p)) : Nat) : Int)), p)], _, rfl, ?_, by omega, rfl, ?_, ?_, ?_, ?_⟩
      · exact same_mut (same_mut (s1.trans s2) (s1.free (s2.free ht))) hL
      · rw [upd_same, List.map_append]
        rfl
      · have r1 : Rep (upd H1 t (.tup (tok (kindOf (cutS z (some (p : Int)) (some ((p + max 1 (runLen ((tl z).drop p)) : Nat) : Int))), cutS z (some (p : Int)) (some ((p + max 1 (runLen ((tl z).drop p)) : Nat) : Int)), p)))) (as ++ [t]) (pre ++ [(kindOf (cutS z (some (p : Int)) (some ((p + max 1 (runLen ((tl z).drop p)) : Nat) : Int))), cutS z (some (p : Int)) (some ((p + max 1 (runLen ((tl z).drop p)) : Nat) : Int)), p)]) :=
          Rep.app upd_same ((hR.same s2).same (same_upd ht))
        exact Rep.off (L := L) (xs := as.map V.ref) (by rw [upd_ne htL.symm]; exact s2 _ _ hLa) r1
      · rw [List.length_append]
        show as.length + 1 ≤ _
        omega
      · rw [← hpre, List.append_assoc, hcut, hd, toksL_tok e]
        congr 1
        rw [← hd, List.drop_drop]
        rfl
  · have hp' : p = z.length := by omega
    refine ⟨false, (fun Q q => ⟨_, rfl, _, rfl, z, rfl, bigLe hz, _, _, rfl, rfl, _, rfl, (by rw [decide_eq_false (show ¬ (p : Int) < (z.length : Int) by omega)]; exact q)⟩), fun e => (by cases e), fun _ => ?_⟩
    refine ⟨_, rfl, .inl ⟨rfl, _, SqL.of hLa⟩, _, rfl, z, rfl, bigLe hz, (by show 3 ≤ sizeLine; decide), fun t ht => ?_⟩
    have htL : t ≠ L := fun e => by
      rw [e, hLa] at ht
      cases ht
    refine ⟨L, _, _, rfl, rfl, (by rw [upd_ne htL.symm]; exact hLa), (by rw [List.length_map]; exact bigLine (by omega)), ?_⟩
    have e0 : (tl z).drop p = [] := List.drop_eq_nil_of_le (by rw [← len_tl]; omega)
    rw [e0, toksL_nil, List.append_nil] at hpre
    refine ⟨_, rfl, q _ L (as ++ [t]) (same_mut (same_mut s1 (s1.free ht)) hL) hL ?_ ?_⟩
    · rw [upd_same, List.map_append]
      rfl
    · unfold toks
      rw [← hpre]
      exact Rep.off (L := L) (xs := as.map V.ref) (by rw [upd_ne htL.symm]; exact hLa) (Rep.app (t := ("END", "", z.length)) upd_same (hR.same (same_upd ht)))
theorem toksF_len : ∀ (n : Nat) (cs : List Nat) (p : Nat), (toksF n cs p).length ≤ cs.length
  | 0, cs, p => by simp [toksF]
  | n + 1, [], p => by simp [toksF]
  | n + 1, c :: r, p => by
    have h1 := toksF_len n r (p + 1)
    have h2 := toksF_len n ((c :: r).drop (max 1 (runLen (c :: r)))) (p + max 1 (runLen (c :: r)))
    rw [List.length_drop, List.length_cons] at h2
    show (if blank c = true then toksF n r (p + 1) else _ :: toksF n _ _).length ≤ r.length + 1
    by_cases hb : blank c = true
    · rw [if_pos hb]
      omega
    · rw [if_neg hb, List.length_cons]
      omega
theorem toks_len (z : Str) : (toks z).length ≤ z.length + 1 := by
  unfold toks toksL
  rw [List.length_append]
  have := toksF_len (tl z).length (tl z) 0
  rw [← len_tl] at this
  rw [← len_tl]
  show _ + 1 ≤ _
  omega
theorem sc_Tokens___init__ : FnScope ["self", "text"] ["self", "text"] (defScope s_Tokens___init__) := ⟨rfl, rfl, rfl, by decide +kernel, rfl, by decide +kernel, by decide +kernel⟩
theorem ok_Tokens___init__ (T : Txt w K mg a) : FnOk P w K mg base CX0 4 a.f_Tokens___init__ a.f_Tokens___init___d ["self", "text"] (spInit a.c_Tokens) := by
  refine T.F_Tokens___init__.ok sc_Tokens___init__ (fun vs H Q E h => ?_) (fun cdv A outer s H vs Q E hr h => ?_)
  · obtain ⟨o, dx, z, rfl, _⟩ := h
    rfl
  obtain ⟨o, dx, z, rfl, ho, hz, q⟩ := h
  refine ⟨_, (pss_cons (ps_fld (pv 0) (pe_call (ok_tokens_of T) (hr.mono (by decide)) (by rfl) T.g_tokens_of T.F_tokens_of.kp T.b_tokens_of .nil pass0 (pa_cons (pv 1) pa_nil)) rfl)
    (pss_one (ps_fld (pv 0) pe_int rfl))), ?_⟩
  refine ⟨_, rfl, z, rfl, hz, fun H1 L as s1 nL hL hR => ?_⟩
  have ho1 := s1 _ _ ho
  have hoL : o ≠ L := ne_of_none ho nL
  refine ⟨_, rfl, o, a.c_Tokens, dx, [], rfl, ho1, T.cl_Tokens, T.n_Tokens_found, (by show 0 < 1000; decide), _, rfl, o, a.c_Tokens, dx, _, rfl, upd_same, T.cl_Tokens, T.n_Tokens_taken, (by show 1 < 1000; decide), ?_⟩
  refine q _ L ⟨dx, as, upd_same, ?_, ?_, Nat.zero_le _, ?_⟩ nL (fun b x e hb => ?_)
  · rw [upd_ne hoL.symm, upd_ne hoL.symm]
    exact hL
  · exact Rep.offI (C := a.c_Tokens) (dx := dx) upd_same (Rep.offI ho1 hR)
  · have := toks_len z
    have hz' : z.length ≤ 1000000 := hz
    omega
  · rw [upd_ne hb, upd_ne hb]
    exact s1 _ _ e
theorem sc_Tokens_kind_ahead : FnScope ["self", "further"] ["self", "further"] (defScope s_Tokens_kind_ahead) := ⟨rfl, rfl, rfl, by decide +kernel, rfl, by decide +kernel, by decide +kernel⟩
theorem ok_Tokens_kind_ahead (T : Txt w K mg a) : FnOk P w K mg base CX0 1 a.f_Tokens_kind_ahead a.f_Tokens_kind_ahead_d ["self", "further"] (spAhead a.c_Tokens) := by
  refine T.F_Tokens_kind_ahead.ok sc_Tokens_kind_ahead (fun vs H Q E h => ?_) (fun cdv A outer s H vs Q E hr h => ?_)
  · obtain ⟨o, L, f, ts, i, t, rfl, _⟩ := h
    rfl
  obtain ⟨o, L, f, ts, i, t, rfl, ⟨dx, as, ho, hL, hR, hi, hl⟩, ht, q⟩ := h
  refine ⟨_, PSs.nox (pss_one (ps_ret (pe_ix ix_tup (pe_ix ix_list (pe_fld (pv 0) rfl) (pe_op op_add (pe_fld (pv 0) rfl) (pv 1)) (fun _ _ => rfl)) pe_int (fun _ _ => rfl)))), ?_⟩
  obtain ⟨b, hb, hb2⟩ := hR.get ht
  refine ⟨_, rfl, o, a.c_Tokens, dx, _, _, rfl, ho, T.cl_Tokens, T.n_Tokens_found, tf_found _ _, _, rfl, o, a.c_Tokens, dx, _, _, rfl, ho, T.cl_Tokens, T.n_Tokens_taken, tf_taken _ _, _, rfl, _, _, rfl, rfl, L, _, _, _, rfl, rfl, SqL.of hL, at_of (j := i + f) (by omega) hb, b, _, _, _, rfl, rfl, SqT.of hb2, atI_nat (j := 0) rfl, q⟩
theorem sc_Tokens_take : FnScope ["self", "kind"] ["self", "kind"] (defScope s_Tokens_take) := ⟨rfl, rfl, rfl, by decide +kernel, rfl, by decide +kernel, by decide +kernel⟩
theorem ok_Tokens_take (T : Txt w K mg a) : FnOk P w K mg base CX0 2 a.f_Tokens_take a.f_Tokens_take_d ["self", "kind"] (spTake a.c_Tokens) := by
  refine T.F_Tokens_take.ok sc_Tokens_take (fun vs H Q E h => ?_) (fun cdv A outer s H vs Q E hr h => ?_)
  · obtain ⟨o, L, ts, i, t, rfl, _⟩ := h
    rfl
  obtain ⟨o, L, ts, i, t, rfl, hT, ht, q⟩ := h
  obtain ⟨dx, as, ho, hL, hR, hi, hl⟩ := id hT
  obtain ⟨ds_Tokens_kind_ahead, v_Tokens_kind_ahead, b_Tokens_kind_ahead⟩ := T.b_Tokens_kind_ahead
  refine ⟨_, (pss_cons (ps_if (pt_cmpR op_ne (pe_meth0 (pv 0) T.cl_Tokens T.m_Tokens_kind_ahead (ok_Tokens_kind_ahead T) (hr.mono (by decide)) b_Tokens_kind_ahead v_Tokens_kind_ahead pass0) (pv 1) (nomark _))
      (pss_one ps_never)
      pss_nil)
    (pss_cons (ps_fldaug (pv 0) pe_int in_add)
    (pss_one (ps_ret (pe_ix ix_tup (pe_ix ix_list (pe_fld (pv 0) rfl) (pe_op op_sub (pe_fld (pv 0) rfl) pe_int) (fun _ _ => rfl)) pe_int (fun _ _ => rfl)))))), ?_⟩
  have hi' : i < ts.length := (List.getElem?_eq_some_iff.mp ht).1
  refine ⟨_, rfl, o, dx, _, rfl, ho, tf_no _ _ (by decide +kernel) (by decide +kernel), o, L, 0, ts, i, t, rfl, hT, ht, _, rfl, rfl, _, rfl, iteNS rfl ?_⟩
  refine ⟨_, rfl, o, a.c_Tokens, dx, _, _, rfl, ho, T.cl_Tokens, T.n_Tokens_taken, tf_taken _ _, _, _, rfl, rfl, _, _, ho, (by rw [tf_eq]; show 2 < 1000; decide), ?_⟩
  have e1 : putF "taken" (V.int ((i : Int) + 1)) (tf L i) = tf L (i + 1) := tf_put L i (i + 1)
  obtain ⟨b, hb, hb2⟩ := hR.get ht
  have ho1 : (upd H o (.ins a.c_Tokens dx (putF "taken" (V.int ((i : Int) + 1)) (tf L i)))) o = some (.ins a.c_Tokens dx (tf L (i + 1))) := by rw [upd_same, e1]
  have hTm : TkAt a.c_Tokens (upd H o (.ins a.c_Tokens dx (putF "taken" (V.int ((i : Int) + 1)) (tf L i)))) o L ts (i + 1) := by
    rw [e1]
    exact TkAt.move ho hL hR (by omega) hl
  have hb3 : (upd H o (.ins a.c_Tokens dx (putF "taken" (V.int ((i : Int) + 1)) (tf L i)))) b = some (.tup (tok t)) := by
    rw [upd_ne (ne_of hb2 ho (by intro z; cases z))]
    exact hb2
  have hL3 : (upd H o (.ins a.c_Tokens dx (putF "taken" (V.int ((i : Int) + 1)) (tf L i)))) L = some (.lst (as.map V.ref)) := by
    rw [upd_ne (ne_of hL ho (by intro z; cases z))]
    exact hL
  refine ⟨_, rfl, o, a.c_Tokens, dx, _, _, rfl, ho1, T.cl_Tokens, T.n_Tokens_found, tf_found _ _, _, rfl, o, a.c_Tokens, dx, _, _, rfl, ho1, T.cl_Tokens, T.n_Tokens_taken, tf_taken _ _, _, _, rfl, rfl, L, _, _, _, rfl, rfl, SqL.of hL3, at_of (j := i) (by omega) hb, b, _, _, _, rfl, rfl, SqT.of hb3, atI_nat (j := 1) rfl, ?_⟩
  exact q _ hTm fun b hb => upd_ne hb
end
end K34
namespace K34
open PySem PySem.Spec PyProof.Rows L2 TL
/-- the i-th token is of this kind and text -/
def At (ts : List Tok3) (i : Nat) (k p : Str) : Prop := ∃ pos, ts[i]? = some (k, p, pos)
/-- all but o stands -/
def Ext (o : Addr) (H H' : Hp) : Prop := ∀ b x, H b = some x → b ≠ o → H' b = some x
theorem Ext.refl (o : Addr) (H : Hp) : Ext o H H := fun _ _ h _ => h
theorem Ext.trans {o : Addr} {H H1 H2 : Hp} (a : Ext o H H1) (b : Ext o H1 H2) : Ext o H H2 := fun c x h n => b c x (a c x h n) n
theorem Ext.of {o : Addr} {H H1 : Hp} (s : Same H H1) : Ext o H H1 := fun c x h _ => s c x h
theorem Ext.but {o : Addr} {H H1 : Hp} (s : But o H H1) : Ext o H H1 := fun c x h n => by
  rw [s c n]
  exact h
theorem Ext.mut {o : Addr} {H H1 : Hp} {p : Addr} {u : HO} (s : Ext o H H1) (h : H p = none) : Ext o H (upd H1 p u) := fun b x e n => by
  rw [upd_ne (ne_of_none e h)]
  exact s _ _ e n
theorem Ext.free {o : Addr} {H H' : Hp} (e : Ext o H H') {l : Addr} (h : H' l = none) (n : l ≠ o) : H l = none := by
  cases q : H l with
  | none => rfl
  | some x =>
    rw [e l x q n] at h
    cases h
theorem TkAt.no {C : Addr} {H : Hp} {o L b : Addr} {ts : List Tok3} {i : Nat} (h : TkAt C H o L ts i) (hb : H b = none) : b ≠ o ∧ b ≠ L := by
  obtain ⟨dx, as, e1, e2, _⟩ := h
  exact ⟨(ne_of_none e1 hb).symm, (ne_of_none e2 hb).symm⟩
/-- numbers as they are written -/
structure Good (d : Str) (n : Int) : Prop where
  int : PySem.intText? d = some n
  len : d.length ≤ 12
  lo : 0 ≤ n
  hi : n < 1000000000000
def numT (i : Int) : Str := Str.ofString (toString i)
/-! ### forms -/
inductive Fd where
  | fn | kd | vd | ch
inductive Fm where
  | any
  | place (n : Nat)
  | word (f : Fd) (x : Str)
  | no (x : Fm)
  | and (x y : Fm)
  | or (x y : Fm)
def fdS : Fd → Str
  | .fn => "function"
  | .kd => "kind"
  | .vd => "verdict"
  | .ch => "changes"
def Fm.dep : Fm → Nat
  | .no x => x.dep + 1
  | .and x y => max x.dep y.dep + 1
  | .or x y => max x.dep y.dep + 1
  | _ => 0
def rk : Fm → Nat
  | .or _ _ => 0
  | .and _ _ => 1
  | _ => 2
def br (b : Bool) (ws : List Str) : List Str := if b = true then ("(" : Str) :: (ws ++ [(")" : Str)]) else ws
def wds : Fm → Nat → List Str
  | .any, _ => [("any" : Str)]
  | .place n, _ => [("place" : Str), numT (n : Int)]
  | .word f x, _ => [fdS f, x]
  | .no x, _ => ("not" : Str) :: wds x 2
  | .and x y, r => br (decide (1 < r)) (wds x 1 ++ ("and" : Str) :: wds y 2)
  | .or x y, r => br (decide (0 < r)) (wds x 0 ++ ("or" : Str) :: wds y 1)
theorem letters_no {c : Nat} (h1 : 48 ≤ c) (h2 : c ≤ 57) : letter c = false ∧ digit c = true := by
  have : c = 48 ∨ c = 49 ∨ c = 50 ∨ c = 51 ∨ c = 52 ∨ c = 53 ∨ c = 54 ∨ c = 55 ∨ c = 56 ∨ c = 57 := by omega
  rcases this with rfl | rfl | rfl | rfl | rfl | rfl | rfl | rfl | rfl | rfl <;> exact ⟨by decide +kernel, by decide +kernel⟩
structure NameOk (v : Str) : Prop where
  ex : ∃ c ds, tl v = c :: ds ∧ letter c = true ∧ ds ≠ [] ∧ ∀ d ∈ ds, 48 ≤ d ∧ d ≤ 57
  len : v.length ≤ 20
theorem NameOk.ne {v : Str} (h : NameOk v) : tl v ≠ [] := by
  obtain ⟨⟨c, ds, e, _⟩, _⟩ := h
  rw [e]
  exact List.cons_ne_nil _ _
theorem NameOk.run {v : Str} (h : NameOk v) : (tl v).all alnum = true := by
  obtain ⟨⟨c, ds, e, hc, _, hd⟩, _⟩ := h
  rw [e, List.all_eq_true]
  intro x hx
  rcases List.mem_cons.mp hx with rfl | hx
  · unfold alnum
    rw [hc]
    rfl
  · obtain ⟨a, b⟩ := hd x hx
    unfold alnum
    rw [(letters_no a b).2, Bool.or_true]
theorem kws_plain : ∀ y ∈ kws, ∃ z : Str, y = .str z ∧ ∀ c ∈ tl z, digit c = false := by
  intro y hy
  have h : kws.all (fun v => match v with | .str z => (tl z).all fun c => !digit c | _ => false) = true := by decide +kernel
  have := List.all_eq_true.mp h y hy
  cases y with
  | str z =>
    refine ⟨z, rfl, fun c hc => ?_⟩
    have := List.all_eq_true.mp this c hc
    simpa using this
  | _ => cases this
theorem NameOk.kind {v : Str} (h : NameOk v) : kindOf v = "NAME" := by
  have hr := h.run
  obtain ⟨⟨c, ds, e, hc, h0, hd⟩, _⟩ := h
  have hw : isW v = true := by
    unfold isW
    rw [e] at hr ⊢
    show (letter c && (c :: ds).all alnum) = true
    rw [hc, hr]
    rfl
  have hk : ¬ inV (.str v) kws = true := by
    intro hi
    unfold inV at hi
    obtain ⟨y, hy, he⟩ := List.any_eq_true.mp hi
    obtain ⟨z, rfl, hz⟩ := kws_plain y hy
    have ez : z = v := by
      have : (z == v) = true := he
      exact eq_of_beq this
    subst ez
    obtain ⟨d, r, rfl⟩ : ∃ d r, ds = d :: r := by
      cases ds with
      | nil => exact absurd rfl h0
      | cons d r => exact ⟨d, r, rfl⟩
    have hdm := hd d List.mem_cons_self
    have := hz d (by rw [e]; simp)
    rw [(letters_no hdm.1 hdm.2).2] at this
    cases this
  unfold kindOf
  rw [if_pos hw, if_neg hk]
theorem numL_head : ∀ (n : Nat) (r : List Nat), numL n = 48 :: r → n = 0 := by
  intro n
  induction n using Nat.strongRecOn with
  | _ n ih =>
    intro r h
    by_cases hn : n < 10
    · rw [numL_lt hn] at h
      have := (List.cons.inj h).1
      omega
    · rw [numL_step (by omega)] at h
      cases hq : numL (n / 10) with
      | nil => exact absurd hq (numL_ne _)
      | cons x xs =>
        rw [hq] at h
        have hx : x = 48 := (List.cons.inj h).1
        rw [hx] at hq
        have := ih (n / 10) (by omega) xs hq
        omega
theorem num_digit {n d : Nat} (h : d ∈ numL n) : 48 ≤ d ∧ d ≤ 57 := by
  have := numL_digits n d h
  first
    | exact this
    | (constructor <;> omega)
    | simpa using this
theorem num_run (n : Nat) : (numL n).all alnum = true := by
  rw [List.all_eq_true]
  intro x hx
  obtain ⟨a, b⟩ := num_digit hx
  unfold alnum
  rw [(letters_no a b).2, Bool.or_true]
theorem numT_tl (n : Nat) : tl (numT (n : Int)) = numL n := by
  unfold numT
  exact tl_num n
theorem num_kind (n : Nat) : kindOf (numT (n : Int)) = "NUMBER" := by
  cases hq : numL n with
  | nil => exact absurd hq (numL_ne _)
  | cons x xs =>
    have hx := num_digit (n := n) (d := x) (by rw [hq]; exact List.mem_cons_self)
    have hw : ¬ isW (numT (n : Int)) = true := by
      rw [isW_not (by rw [numT_tl]; exact hq) (letters_no hx.1 hx.2).1]
      exact Bool.false_ne_true
    have hn : isNum (numT (n : Int)) = true := by
      unfold isNum
      rw [numT_tl, hq]
      dsimp only
      by_cases e : decide (V.str ⟨#[x]⟩ = V.str (Str.ofString "0")) = true
      · rw [if_pos e]
        have e1 : (⟨#[x]⟩ : Str) = Str.ofString "0" := V.str.inj (of_decide_eq_true e)
        have e2 : x = 48 := by
          have := congrArg tl e1
          rw [show tl (Str.ofString "0") = [48] from by decide +kernel] at this
          exact (List.cons.inj this).1
        rw [e2] at hq
        have := numL_head n xs hq
        subst this
        exact decide_eq_true (by decide +kernel)
      · rw [if_neg e, List.all_eq_true]
        intro y hy
        have hy' := num_digit (n := n) (d := y) (by rw [hq]; exact hy)
        exact (letters_no hy'.1 hy'.2).2
    unfold kindOf
    rw [if_neg hw, if_pos hn]
theorem num_good {n : Nat} (h : (n : Int) < 1000000000000) : Good (numT (n : Int)) (n : Int) := by
  have hl : (numL n).length ≤ 12 := numL_len (by decide) (by have e : (10 : Nat) ^ 12 = 1000000000000 := by decide
                                                             rw [e]; omega)
  refine ⟨int_num (by omega), ?_, by omega, h⟩
  rw [len_tl, numT_tl]
  exact hl
def OkF : Fm → Prop
  | .any => True
  | .place n => (n : Int) < 1000000000000
  | .word .vd x => inV (.str x) ans = true
  | .word _ x => NameOk x
  | .no x => OkF x
  | .and x y => OkF x ∧ OkF y
  | .or x y => OkF x ∧ OkF y
def andS : Fm → Fm × List Fm
  | .and x y => ((andS x).1, (andS x).2 ++ [y])
  | x => (x, [])
def orS : Fm → Fm × List Fm
  | .or x y => ((orS x).1, (orS x).2 ++ [y])
  | x => (x, [])
def flat (k : Str) (r : Nat) : List Fm → List Str
  | [] => []
  | x :: xs => k :: (wds x r ++ flat k r xs)
theorem flat_app (k : Str) (r : Nat) : ∀ (xs : List Fm) (y : Fm), flat k r (xs ++ [y]) = flat k r xs ++ k :: wds y r
  | [], y => by
    show k :: (wds y r ++ []) = _
    rw [List.append_nil]
    rfl
  | x :: xs, y => by
    show k :: (wds x r ++ flat k r (xs ++ [y])) = k :: (wds x r ++ flat k r xs) ++ _
    rw [flat_app k r xs y, ← List.append_assoc]
    rfl
theorem and_words : ∀ fm : Fm, wds fm 1 = wds (andS fm).1 2 ++ flat "and" 2 (andS fm).2
  | .and x y => by
    show wds x 1 ++ ("and" : Str) :: wds y 2 = wds (andS x).1 2 ++ flat "and" 2 ((andS x).2 ++ [y])
    rw [flat_app, and_words x, List.append_assoc]
  | .any => (List.append_nil _).symm
  | .place _ => (List.append_nil _).symm
  | .word _ _ => (List.append_nil _).symm
  | .no _ => (List.append_nil _).symm
  | .or _ _ => (List.append_nil _).symm
theorem or_words : ∀ fm : Fm, wds fm 0 = wds (orS fm).1 1 ++ flat "or" 1 (orS fm).2
  | .or x y => by
    show wds x 0 ++ ("or" : Str) :: wds y 1 = wds (orS x).1 1 ++ flat "or" 1 ((orS x).2 ++ [y])
    rw [flat_app, or_words x, List.append_assoc]
  | .any => (List.append_nil _).symm
  | .place _ => (List.append_nil _).symm
  | .word _ _ => (List.append_nil _).symm
  | .no _ => (List.append_nil _).symm
  | .and _ _ => (List.append_nil _).symm
theorem and_fold : ∀ fm : Fm, (andS fm).2.foldl .and (andS fm).1 = fm
  | .and x y => by
    show ((andS x).2 ++ [y]).foldl .and (andS x).1 = _
    rw [List.foldl_append, and_fold x]
    rfl
  | .any => rfl
  | .place _ => rfl
  | .word _ _ => rfl
  | .no _ => rfl
  | .or _ _ => rfl
theorem or_fold : ∀ fm : Fm, (orS fm).2.foldl .or (orS fm).1 = fm
  | .or x y => by
    show ((orS x).2 ++ [y]).foldl .or (orS x).1 = _
    rw [List.foldl_append, or_fold x]
    rfl
  | .any => rfl
  | .place _ => rfl
  | .word _ _ => rfl
  | .no _ => rfl
  | .and _ _ => rfl
theorem and_first : ∀ fm : Fm, (rk fm ≠ 1 → (andS fm).1 = fm) ∧ (rk fm = 1 → (andS fm).1.dep < fm.dep) ∧ (andS fm).1.dep ≤ fm.dep ∧ (∀ x ∈ (andS fm).2, x.dep < fm.dep) ∧ (OkF fm → OkF (andS fm).1 ∧ ∀ x ∈ (andS fm).2, OkF x)
  | .and x y => by
    obtain ⟨_, _, h3, h4, h5⟩ := and_first x
    have d1 : (Fm.and x y).dep = max x.dep y.dep + 1 := rfl
    refine ⟨fun h => absurd rfl h, fun _ => ?_, ?_, fun z hz => ?_, fun ok => ⟨(h5 ok.1).1, fun z hz => ?_⟩⟩
    · show (andS x).1.dep < _
      omega
    · show (andS x).1.dep ≤ _
      omega
    · rcases List.mem_append.mp hz with h | h
      · have := h4 z h
        omega
      · obtain rfl : z = y := by simpa using h
        omega
    · rcases List.mem_append.mp hz with h | h
      · exact (h5 ok.1).2 z h
      · obtain rfl : z = y := by simpa using h
        exact ok.2
  | .any => ⟨fun _ => rfl, (fun h => by cases h), Nat.le_refl _, (fun x h => by cases h), fun ok => ⟨ok, (fun x h => by cases h)⟩⟩
  | .place _ => ⟨fun _ => rfl, (fun h => by cases h), Nat.le_refl _, (fun x h => by cases h), fun ok => ⟨ok, (fun x h => by cases h)⟩⟩
  | .word _ _ => ⟨fun _ => rfl, (fun h => by cases h), Nat.le_refl _, (fun x h => by cases h), fun ok => ⟨ok, (fun x h => by cases h)⟩⟩
  | .no _ => ⟨fun _ => rfl, (fun h => by cases h), Nat.le_refl _, (fun x h => by cases h), fun ok => ⟨ok, (fun x h => by cases h)⟩⟩
  | .or _ _ => ⟨fun _ => rfl, (fun h => by cases h), Nat.le_refl _, (fun x h => by cases h), fun ok => ⟨ok, (fun x h => by cases h)⟩⟩
theorem or_first : ∀ fm : Fm, (rk fm ≠ 0 → (orS fm).1 = fm) ∧ (rk fm = 0 → (orS fm).1.dep < fm.dep) ∧ (orS fm).1.dep ≤ fm.dep ∧ (∀ x ∈ (orS fm).2, x.dep < fm.dep) ∧ (OkF fm → OkF (orS fm).1 ∧ ∀ x ∈ (orS fm).2, OkF x)
  | .or x y => by
    obtain ⟨_, _, h3, h4, h5⟩ := or_first x
    have d1 : (Fm.or x y).dep = max x.dep y.dep + 1 := rfl
    refine ⟨fun h => absurd rfl h, fun _ => ?_, ?_, fun z hz => ?_, fun ok => ⟨(h5 ok.1).1, fun z hz => ?_⟩⟩
    · show (orS x).1.dep < _
      omega
    · show (orS x).1.dep ≤ _
      omega
    · rcases List.mem_append.mp hz with h | h
      · have := h4 z h
        omega
      · obtain rfl : z = y := by simpa using h
        omega
    · rcases List.mem_append.mp hz with h | h
      · exact (h5 ok.1).2 z h
      · obtain rfl : z = y := by simpa using h
        exact ok.2
  | .any => ⟨fun _ => rfl, (fun h => by cases h), Nat.le_refl _, (fun x h => by cases h), fun ok => ⟨ok, (fun x h => by cases h)⟩⟩
  | .place _ => ⟨fun _ => rfl, (fun h => by cases h), Nat.le_refl _, (fun x h => by cases h), fun ok => ⟨ok, (fun x h => by cases h)⟩⟩
  | .word _ _ => ⟨fun _ => rfl, (fun h => by cases h), Nat.le_refl _, (fun x h => by cases h), fun ok => ⟨ok, (fun x h => by cases h)⟩⟩
  | .no _ => ⟨fun _ => rfl, (fun h => by cases h), Nat.le_refl _, (fun x h => by cases h), fun ok => ⟨ok, (fun x h => by cases h)⟩⟩
  | .and _ _ => ⟨fun _ => rfl, (fun h => by cases h), Nat.le_refl _, (fun x h => by cases h), fun ok => ⟨ok, (fun x h => by cases h)⟩⟩
/-- how far in a form goes, for the count around -/
def wt (fm : Fm) : Nat := 3 * fm.dep - (if rk fm < 2 then 1 else 0)
theorem wt_le (fm : Fm) : wt fm ≤ 3 * fm.dep := Nat.sub_le _ _
theorem wt_rk {fm : Fm} (h : rk fm < 2) : wt fm = 3 * fm.dep - 1 := by
  unfold wt
  rw [if_pos h]
theorem wt_plain {fm : Fm} (h : rk fm = 2) : wt fm = 3 * fm.dep := by
  unfold wt
  rw [if_neg (by omega)]
  rfl
theorem dep_pos {fm : Fm} (h : rk fm < 2) : 1 ≤ fm.dep := by
  cases fm with
  | and x y => exact Nat.le_add_left _ _
  | or x y => exact Nat.le_add_left _ _
  | _ => exact absurd h (show ¬ 2 < 2 by decide)
/-! ### words among the tokens -/
def Ws (ts : List Tok3) (i : Nat) (ws : List Str) : Prop := ∀ (j : Nat) (x : Str), ws[j]? = some x → At ts (i + j) (kindOf x) x
theorem Ws.left {ts : List Tok3} {i : Nat} {a b : List Str} (h : Ws ts i (a ++ b)) : Ws ts i a := fun j x e => h j x (by
  rw [List.getElem?_append_left (List.getElem?_eq_some_iff.mp e).1]
  exact e)
theorem Ws.right {ts : List Tok3} {i : Nat} {a b : List Str} (h : Ws ts i (a ++ b)) : Ws ts (i + a.length) b := fun j x e => by
  have := h (a.length + j) x (by rw [List.getElem?_append_right (Nat.le_add_right _ _), Nat.add_sub_cancel_left]; exact e)
  rw [Nat.add_assoc]
  exact this
theorem Ws.head {ts : List Tok3} {i : Nat} {x : Str} {r : List Str} (h : Ws ts i (x :: r)) : At ts i (kindOf x) x := h 0 x rfl
theorem Ws.tail {ts : List Tok3} {i : Nat} {x : Str} {r : List Str} (h : Ws ts i (x :: r)) : Ws ts (i + 1) r := fun j y e => by
  have := h (j + 1) y e
  rw [Nat.add_assoc, Nat.add_comm 1 j]
  exact this
/-- the token at i is not this word -/
def Nt (ts : List Tok3) (i : Nat) (k : Str) : Prop := ∃ t, ts[i]? = some t ∧ t.2.1 ≠ k
/-! ### conditions as objects -/
def CoAt (C : Addr) (H : Hp) : Fm → V → Prop
  | .any, v => ∃ c dx p, v = .ref c ∧ H c = some (.ins C dx [("_parts", .ref p)]) ∧ H p = some (.tup [.str "any"])
  | .place n, v => ∃ c dx p, v = .ref c ∧ H c = some (.ins C dx [("_parts", .ref p)]) ∧ H p = some (.tup [.str "place", .int (n : Nat)])
  | .word f x, v => ∃ c dx p, v = .ref c ∧ H c = some (.ins C dx [("_parts", .ref p)]) ∧ H p = some (.tup [.str (fdS f), .str x])
  | .no x, v => ∃ c dx p u, v = .ref c ∧ H c = some (.ins C dx [("_parts", .ref p)]) ∧ H p = some (.tup [.str "not", u]) ∧ CoAt C H x u
  | .and x y, v => ∃ c dx p u1 u2, v = .ref c ∧ H c = some (.ins C dx [("_parts", .ref p)]) ∧ H p = some (.tup [.str "and", u1, u2]) ∧ CoAt C H x u1 ∧ CoAt C H y u2
  | .or x y, v => ∃ c dx p u1 u2, v = .ref c ∧ H c = some (.ins C dx [("_parts", .ref p)]) ∧ H p = some (.tup [.str "or", u1, u2]) ∧ CoAt C H x u1 ∧ CoAt C H y u2
/-- what keeps tuples and conditions keeps a condition -/
theorem CoAt.imp {C : Addr} {H H' : Hp} (k1 : ∀ b xs, H b = some (.tup xs) → H' b = some (.tup xs)) (k2 : ∀ b dx p, H b = some (.ins C dx [("_parts", .ref p)]) → H' b = some (.ins C dx [("_parts", .ref p)])) : ∀ {fm : Fm} {v : V}, CoAt C H fm v → CoAt C H' fm v
  | .any, _, ⟨c, dx, p, e, h1, h2⟩ => ⟨c, dx, p, e, k2 _ _ _ h1, k1 _ _ h2⟩
  | .place _, _, ⟨c, dx, p, e, h1, h2⟩ => ⟨c, dx, p, e, k2 _ _ _ h1, k1 _ _ h2⟩
  | .word _ _, _, ⟨c, dx, p, e, h1, h2⟩ => ⟨c, dx, p, e, k2 _ _ _ h1, k1 _ _ h2⟩
  | .no _, _, ⟨c, dx, p, u, e, h1, h2, h3⟩ => ⟨c, dx, p, u, e, k2 _ _ _ h1, k1 _ _ h2, CoAt.imp k1 k2 h3⟩
  | .and _ _, _, ⟨c, dx, p, u1, u2, e, h1, h2, h3, h4⟩ => ⟨c, dx, p, u1, u2, e, k2 _ _ _ h1, k1 _ _ h2, CoAt.imp k1 k2 h3, CoAt.imp k1 k2 h4⟩
  | .or _ _, _, ⟨c, dx, p, u1, u2, e, h1, h2, h3, h4⟩ => ⟨c, dx, p, u1, u2, e, k2 _ _ _ h1, k1 _ _ h2, CoAt.imp k1 k2 h3, CoAt.imp k1 k2 h4⟩
theorem CoAt.same {C : Addr} {H H' : Hp} (s : Same H H') {fm : Fm} {v : V} (h : CoAt C H fm v) : CoAt C H' fm v := h.imp (fun _ _ e => s _ _ e) fun _ _ _ e => s _ _ e
theorem CoAt.ext {C C' : Addr} {H H' : Hp} {o L : Addr} {ts : List Tok3} {i : Nat} (t : TkAt C' H o L ts i) (s : Ext o H H') {fm : Fm} {v : V} (h : CoAt C H fm v) : CoAt C H' fm v := by
  obtain ⟨dx, as, ho, _⟩ := t
  refine h.imp (fun b xs e => s _ _ e (ne_of e ho (by intro z; cases z))) fun b dx' p e => s _ _ e (ne_of e ho fun z => ?_)
  injection z with _ _ z3
  rw [tf_eq] at z3
  have := congrArg List.length z3
  cases this
/-! ### promises -/
def spCInit (a : Ads) : Sp := fun vs H Q _ => ∃ (c dx : Addr) (v : V), vs = [.ref c, v] ∧ H c = some (.ins a.c_Condition dx []) ∧ Q .non (upd H c (.ins a.c_Condition dx [("_parts", v)]))
def spWAhead (C : Addr) : Sp := fun vs H Q _ => ∃ (o L : Addr) (ts : List Tok3) (i : Nat) (t : Tok3), vs = [.ref o] ∧ TkAt C H o L ts i ∧ ts[i]? = some t ∧ Q (.str t.2.1) H
def spSkipW (C : Addr) : Sp := fun vs H Q _ => ∃ (o L : Addr) (k : Str) (ts : List Tok3) (i : Nat) (t : Tok3), vs = [.ref o, .str k] ∧ TkAt C H o L ts i ∧ ts[i]? = some t ∧
  (t.2.1 = k → ∀ H', TkAt C H' o L ts (i + 1) → But o H H' → Q (.bl true) H') ∧ (¬ t.2.1 = k → Q (.bl false) H)
def spTakeW (K : PySem.W.Frag) (C : Addr) : Sp := fun vs H Q _ => ∃ (o L q : Addr) (ys : List V) (ts : List Tok3) (i : Nat) (t : Tok3), vs = [.ref o, .ref q] ∧ SqT K H q ys ∧ ys.all flatV = true ∧ inV (.str t.2.1) ys = true ∧ TkAt C H o L ts i ∧ ts[i]? = some t ∧
  ∀ H', TkAt C H' o L ts (i + 1) → But o H H' → Q (.str t.2.1) H'
def spNum (C : Addr) : Sp := fun vs H Q _ => ∃ (o L : Addr) (ts : List Tok3) (i : Nat) (d : Str) (n : Int), vs = [.ref o] ∧ TkAt C H o L ts i ∧ At ts i "NUMBER" d ∧ Good d n ∧
  ∀ H', But o H H' → TkAt C H' o L ts (i + 1) → Q (.int n) H'
def valV' : Fm → V
  | .place n => .int (n : Nat)
  | .word _ x => .str x
  | _ => .non
def fldS : Fm → Str
  | .place _ => "place"
  | .word f _ => fdS f
  | _ => ""
def spValue (C : Addr) : Sp := fun vs H Q _ => ∃ (o L : Addr) (ts : List Tok3) (i : Nat) (fm : Fm) (x : Str), vs = [.ref o, .str (fldS fm)] ∧ wds fm 2 = [fldS fm, x] ∧ OkF fm ∧ TkAt C H o L ts i ∧ At ts i (kindOf x) x ∧
  ∀ H', TkAt C H' o L ts (i + 1) → But o H H' → Q (valV' fm) H'
def spOne (a : Ads) (R : Fm → Prop) (r : Nat) (W : Fm → Nat) (ks : List Str) : Sp := fun vs H Q _ => ∃ (o L : Addr) (ts : List Tok3) (i ar : Nat) (fm : Fm), vs = [.ref o, .int (ar : Nat)] ∧ TkAt a.c_Tokens H o L ts i ∧ Ws ts i (wds fm r) ∧ OkF fm ∧ R fm ∧ ar + W fm ≤ 25 ∧
  (∀ k ∈ ks, Nt ts (i + (wds fm r).length) k) ∧ ∀ H' c, Ext o H H' → H c = none → TkAt a.c_Tokens H' o L ts (i + (wds fm r).length) → CoAt a.c_Condition H' fm (.ref c) → Q (.ref c) H'
end K34
namespace K34
open PySem PySem.Spec PyProof.Rows L2 TL
theorem fds_flat : (fds ++ [V.str "any", V.str "not", V.str "("]).all flatV = true := by decide +kernel
theorem ans_flat : ans.all flatV = true := by decide +kernel
theorem eqV_self (y : Str) : eqV (.str y) (.str y) = true := by
  unfold eqV
  exact beq_self_eq_true y
theorem TkAt.put {C : Addr} {H : Hp} {o L dx : Addr} {as : List Addr} {ts : List Tok3} {i : Nat} (ho : H o = some (.ins C dx (tf L i))) (hL : H L = some (.lst (as.map V.ref))) (hR : Rep H as ts) (hi : i < ts.length) (hl : ts.length ≤ 1000001) :
    TkAt C (upd H o (.ins C dx (putF "taken" (V.int ((i : Int) + 1)) (tf L i)))) o L ts (i + 1) := by
  have e1 : putF "taken" (V.int ((i : Int) + 1)) (tf L i) = tf L (i + 1) := tf_put L i (i + 1)
  rw [e1]
  exact TkAt.move ho hL hR (by omega) hl
section
variable {P : Program} {w : World} {K : PySem.W.Frag} {mg : Str → Option Value} {base : Heap} {a : Ads}
theorem sc_Condition___init__ : FnScope ["self", "parts"] ["self", "parts"] (defScope s_Condition___init__) := ⟨rfl, rfl, rfl, by decide +kernel, rfl, by decide +kernel, by decide +kernel⟩
theorem ok_Condition___init__ (T : Txt w K mg a) : FnOk P w K mg base CX0 1 a.f_Condition___init__ a.f_Condition___init___d ["self", "parts"] (spCInit a) := by
  refine T.F_Condition___init__.ok sc_Condition___init__ (fun vs H Q E h => ?_) (fun cdv A outer s H vs Q E hr h => ?_)
  · obtain ⟨c, dx, v, rfl, _⟩ := h
    rfl
  obtain ⟨c, dx, v, rfl, hc, q⟩ := h
  refine ⟨_, (pss_one (ps_fld (pv 0) (pv 1) rfl)), ?_⟩
  exact ⟨_, rfl, _, rfl, c, _, dx, _, rfl, hc, T.cl_Condition, T.n_Condition__parts, (by show 0 < 1000; decide), q⟩
theorem sc_Tokens_word_ahead : FnScope ["self"] ["self"] (defScope s_Tokens_word_ahead) := ⟨rfl, rfl, rfl, by decide +kernel, rfl, by decide +kernel, by decide +kernel⟩
theorem ok_Tokens_word_ahead (T : Txt w K mg a) : FnOk P w K mg base CX0 1 a.f_Tokens_word_ahead a.f_Tokens_word_ahead_d ["self"] (spWAhead a.c_Tokens) := by
  refine T.F_Tokens_word_ahead.ok sc_Tokens_word_ahead (fun vs H Q E h => ?_) (fun cdv A outer s H vs Q E hr h => ?_)
  · obtain ⟨o, L, ts, i, t, rfl, _⟩ := h
    rfl
  obtain ⟨o, L, ts, i, t, rfl, ⟨dx, as, ho, hL, hR, hi, hl⟩, ht, q⟩ := h
  refine ⟨_, PSs.nox (pss_one (ps_ret (pe_ix ix_tup (pe_ix ix_list (pe_fld (pv 0) rfl) (pe_fld (pv 0) rfl) (fun _ _ => rfl)) pe_int (fun _ _ => rfl)))), ?_⟩
  obtain ⟨b, hb, hb2⟩ := hR.get ht
  refine ⟨_, rfl, o, a.c_Tokens, dx, _, _, rfl, ho, T.cl_Tokens, T.n_Tokens_found, tf_found _ _, _, rfl, o, a.c_Tokens, dx, _, _, rfl, ho, T.cl_Tokens, T.n_Tokens_taken, tf_taken _ _, L, _, _, _, rfl, rfl, SqL.of hL, atI_nat hb, b, _, _, _, rfl, rfl, SqT.of hb2, atI_nat (j := 1) rfl, q⟩
theorem sc_Tokens_skip_word : FnScope ["self", "word"] ["self", "word"] (defScope s_Tokens_skip_word) := ⟨rfl, rfl, rfl, by decide +kernel, rfl, by decide +kernel, by decide +kernel⟩
theorem ok_Tokens_skip_word (T : Txt w K mg a) : FnOk P w K mg base CX0 2 a.f_Tokens_skip_word a.f_Tokens_skip_word_d ["self", "word"] (spSkipW a.c_Tokens) := by
  refine T.F_Tokens_skip_word.ok sc_Tokens_skip_word (fun vs H Q E h => ?_) (fun cdv A outer s H vs Q E hr h => ?_)
  · obtain ⟨o, L, k, ts, i, t, rfl, _⟩ := h
    rfl
  obtain ⟨o, L, k, ts, i, t, rfl, hT, ht, q1, q2⟩ := h
  obtain ⟨dx, as, ho, hL, hR, hi, hl⟩ := id hT
  have hi' : i < ts.length := (List.getElem?_eq_some_iff.mp ht).1
  refine ⟨_, (pss_cons (ps_if (pt_cmpR op_ne (pe_meth0 (pv 0) T.cl_Tokens T.m_Tokens_word_ahead (ok_Tokens_word_ahead T) (hr.mono (by decide)) T.b_Tokens_word_ahead .nil pass0) (pv 1) (nomark _))
      (pss_one (ps_ret pe_bl))
      pss_nil)
    (pss_cons (ps_fldaug (pv 0) pe_int in_add)
    (pss_one (ps_ret pe_bl)))), ?_⟩
  refine ⟨_, rfl, o, dx, _, rfl, ho, tf_no _ _ (by decide +kernel) (by decide +kernel), o, L, ts, i, t, rfl, hT, ht, _, rfl, rfl, _, rfl, ite2 (fun e => ?_) (fun e => ?_)⟩
  · exact q2 fun z => by
      rw [decide_eq_true (congrArg V.str z)] at e
      cases e
  · have hk : t.2.1 = k := by
      by_cases z : t.2.1 = k
      · exact z
      · exact absurd (by rw [decide_eq_false fun y => z (V.str.inj y)]; rfl) e
    refine ⟨_, rfl, o, a.c_Tokens, dx, _, _, rfl, ho, T.cl_Tokens, T.n_Tokens_taken, tf_taken _ _, _, _, rfl, rfl, _, _, ho, (by rw [tf_eq]; show 2 < 1000; decide), ?_⟩
    exact q1 hk _ (TkAt.put ho hL hR hi' hl) fun b hb => upd_ne hb
theorem sc_Tokens_take_word : FnScope ["self", "words", "word"] ["self", "words"] (defScope s_Tokens_take_word) := ⟨rfl, rfl, rfl, by decide +kernel, rfl, by decide +kernel, by decide +kernel⟩
theorem ok_Tokens_take_word (T : Txt w K mg a) : FnOk P w K mg base CX0 2 a.f_Tokens_take_word a.f_Tokens_take_word_d ["self", "words"] (spTakeW K a.c_Tokens) := by
  refine T.F_Tokens_take_word.ok sc_Tokens_take_word (fun vs H Q E h => ?_) (fun cdv A outer s H vs Q E hr h => ?_)
  · obtain ⟨o, L, q, ys, ts, i, t, rfl, _⟩ := h
    rfl
  obtain ⟨o, L, qa, ys, ts, i, t, rfl, hq, hf, hin, hT, ht, q⟩ := h
  obtain ⟨dx, as, ho, hL, hR, hi, hl⟩ := id hT
  have hi' : i < ts.length := (List.getElem?_eq_some_iff.mp ht).1
  refine ⟨_, (pss_cons (ps_set (i := 2) sc_Tokens_take_word.nd rfl (Or.inl rfl) (pe_meth0 (pv 0) T.cl_Tokens T.m_Tokens_word_ahead (ok_Tokens_word_ahead T) (hr.mono (by decide)) T.b_Tokens_word_ahead .nil pass0))
    (pss_cons (ps_if (pt_cmpR op_notIn_seq (pv 2) (pv 1) (by rfl))
      (pss_one ps_never)
      pss_nil)
    (pss_cons (ps_fldaug (pv 0) pe_int in_add)
    (pss_one (ps_ret (pv 2)))))), ?_⟩
  refine ⟨_, rfl, o, dx, _, rfl, ho, tf_no _ _ (by decide +kernel) (by decide +kernel), o, L, ts, i, t, rfl, hT, ht, ?_⟩
  refine ⟨_, rfl, _, rfl, qa, ys, rfl, .inr hq, rfl, hf, _, rfl, ite2 (fun e => ?_) (fun _ => ?_)⟩
  · have e2 : (!inV (.str t.2.1) ys) = true := e
    rw [hin] at e2
    cases e2
  refine ⟨_, rfl, o, a.c_Tokens, dx, _, _, rfl, ho, T.cl_Tokens, T.n_Tokens_taken, tf_taken _ _, _, _, rfl, rfl, _, _, ho, (by rw [tf_eq]; show 2 < 1000; decide), ?_⟩
  exact ⟨_, rfl, q _ (TkAt.put ho hL hR hi' hl) fun b hb => upd_ne hb⟩
theorem sc_read_number : FnScope ["tokens", "digits"] ["tokens"] (defScope s_read_number) := ⟨rfl, rfl, rfl, by decide +kernel, rfl, by decide +kernel, by decide +kernel⟩
theorem ok_read_number (T : Txt w K mg a) : FnOk P w K mg base CX0 3 a.f_read_number a.f_read_number_d ["tokens"] (spNum a.c_Tokens) := by
  refine T.F_read_number.ok sc_read_number (fun vs H Q E h => ?_) (fun cdv A outer s H vs Q E hr h => ?_)
  · obtain ⟨o, L, ts, i, d, n, rfl, _⟩ := h
    rfl
  obtain ⟨o, L, ts, i, d, n, rfl, hT, ⟨pos, ht⟩, g, q⟩ := h
  obtain ⟨dx, as, ho, _⟩ := id hT
  refine ⟨_, (pss_cons (ps_set (i := 1) sc_read_number.nd rfl (Or.inl rfl) (pe_meth (pv 0) T.cl_Tokens T.m_Tokens_take (ok_Tokens_take T) (hr.mono (by decide)) T.b_Tokens_take .nil pass0 (pa_cons (pe_gs rfl T.g_NUMBER) pa_nil)))
    (pss_cons (ps_if (pt_cmpR op_gt (pe_callB call_len_str (by rfl) T.len PySem.boot_len (pa_cons (pv 1) pa_nil)) (pe_gi rfl T.g_MOST_DIGITS) (nomark _))
      (pss_one ps_never)
      pss_nil)
    (pss_one (ps_ret (pe_callTy call_int_str (by rfl) T.int (by decide +kernel) (pa_cons (pv 1) pa_nil)))))), ?_⟩
  refine ⟨_, rfl, o, dx, _, rfl, ho, tf_no _ _ (by decide +kernel) (by decide +kernel), o, L, ts, i, _, rfl, hT, ht, fun H1 hT1 b1 => ?_⟩
  have hd := g.len
  refine ⟨_, rfl, d, rfl, bigLe (by omega), _, _, rfl, rfl, _, rfl, ite2 (fun e => ?_) (fun e => ?_)⟩
  · have := of_decide_eq_true e
    omega
  · exact ⟨_, rfl, d, n, rfl, g.int, by omega, q H1 b1 hT1⟩
theorem sc_read_value : FnScope ["tokens", "word"] ["tokens", "word"] (defScope s_read_value) := ⟨rfl, rfl, rfl, by decide +kernel, rfl, by decide +kernel, by decide +kernel⟩
theorem ok_read_value (T : Txt w K mg a) : FnOk P w K mg base CX0 4 a.f_read_value a.f_read_value_d ["tokens", "word"] (spValue a.c_Tokens) := by
  refine T.F_read_value.ok sc_read_value (fun vs H Q E h => ?_) (fun cdv A outer s H vs Q E hr h => ?_)
  · obtain ⟨o, L, ts, i, fm, x, rfl, _⟩ := h
    rfl
  obtain ⟨o, L, ts, i, fm, x, rfl, hw, ok, hT, hA, q⟩ := h
  obtain ⟨dx, as, ho, _⟩ := id hT
  refine ⟨_, (pss_cons (ps_if (pt_cmpR op_eq (pv 1) pe_str (nomark _))
      (pss_one (ps_ret (pe_call (ok_read_number T) (hr.mono (by decide)) (by rfl) T.g_read_number T.F_read_number.kp T.b_read_number .nil pass0 (pa_cons (pv 0) pa_nil))))
      pss_nil)
    (pss_cons (ps_if (pt_cmpR op_eq (pv 1) pe_str (nomark _))
      (pss_one (ps_ret (pe_meth (pv 0) T.cl_Tokens T.m_Tokens_take_word (ok_Tokens_take_word T) (hr.mono (by decide)) T.b_Tokens_take_word .nil pass0 (pa_cons (pe_gr rfl T.g_ANSWERS) pa_nil))))
      pss_nil)
    (pss_one (ps_ret (pe_meth (pv 0) T.cl_Tokens T.m_Tokens_take (ok_Tokens_take T) (hr.mono (by decide)) T.b_Tokens_take .nil pass0 (pa_cons (pe_gs rfl T.g_NAME) pa_nil)))))), ?_⟩
  cases fm with
  | any => cases hw
  | no y => cases (List.cons.inj hw).1
  | and y z => cases (List.cons.inj hw).1
  | or y z => cases (List.cons.inj hw).1
  | place n =>
    have hx : x = numT (n : Int) := (List.cons.inj (List.cons.inj hw).2).1.symm
    subst hx
    have ok : (n : Int) < 1000000000000 := ok
    rw [num_kind] at hA
    refine ⟨_, rfl, rfl, _, rfl, ite2 (fun _ => ?_) (fun e => absurd (decide_eq_true rfl) e)⟩
    exact ⟨_, rfl, o, L, ts, i, _, _, rfl, hT, hA, num_good ok, fun H1 b1 t1 => q H1 t1 b1⟩
  | word f y =>
    have hx : x = y := (List.cons.inj (List.cons.inj hw).2).1.symm
    subst hx
    obtain ⟨pos, hA⟩ := hA
    have nm : ∀ f : Fd, decide (V.str (fdS f) = V.str "place") = false := fun f => by cases f <;> decide +kernel
    refine ⟨_, rfl, rfl, _, rfl, ite2 (fun e => absurd e (by rw [show decide (V.str (fldS (.word f x)) = V.str "place") = false from nm f]; decide)) (fun _ => ?_)⟩
    by_cases hv : f = .vd
    · subst hv
      refine ⟨_, rfl, rfl, _, rfl, ite2 (fun _ => ?_) (fun e => absurd (decide_eq_true rfl) e)⟩
      refine ⟨_, rfl, o, dx, _, rfl, ho, tf_no _ _ (by decide +kernel) (by decide +kernel), o, L, a.t_ANSWERS, ans, ts, i, (kindOf x, x, pos), rfl, T.q_ANSWERS H, ans_flat, ok, hT, hA, fun H1 t1 b1 => q H1 t1 b1⟩
    · have nv : decide (V.str (fdS f) = V.str "verdict") = false := by
        cases f with
        | vd => exact absurd rfl hv
        | _ => decide +kernel
      have ok : NameOk x := by
        cases f with
        | vd => exact absurd rfl hv
        | _ => exact ok
      rw [ok.kind] at hA
      refine ⟨_, rfl, rfl, _, rfl, ite2 (fun e => absurd e (by rw [show decide (V.str (fldS (.word f x)) = V.str "verdict") = false from nv]; decide)) (fun _ => ?_)⟩
      exact ⟨_, rfl, o, dx, _, rfl, ho, tf_no _ _ (by decide +kernel) (by decide +kernel), o, L, ts, i, _, rfl, hT, hA, fun H1 t1 b1 => q H1 t1 b1⟩
end
end K34
namespace K34
open PySem PySem.Spec PyProof.Rows L2 TL
theorem no_b {b : Bool} {p : Prop} (h : b = false) : b = true → p := fun e => by rw [h] at e; cases e
theorem yes_b {b : Bool} {p : Prop} (h : b = true) : ¬ b = true → p := fun e => absurd h e
theorem made {H : Hp} {C x dx : Addr} {fs : List (Str × V)} (nx : H x = none) (nd : H dx = none) (hne : dx ≠ x) : Same H (upd (upd (upd H dx (.own x)) x (.ins C dx [])) x (.ins C dx fs)) := fun b o e => by
  rw [upd_ne (ne_of_none e nx), upd_ne (ne_of_none e nx), upd_ne (ne_of_none e nd)]
  exact e
theorem TkAt.ob {C : Addr} {H : Hp} {o L : Addr} {ts : List Tok3} {i : Nat} (h : TkAt C H o L ts i) : ∃ dx, H o = some (.ins C dx (tf L i)) := by
  obtain ⟨dx, as, ho, _⟩ := h
  exact ⟨dx, ho⟩
theorem Ext.new {o : Addr} {H H' : Hp} (e : Ext o H H') {C L : Addr} {ts : List Tok3} {i : Nat} (t : TkAt C H o L ts i) (t' : TkAt C H' o L ts j) {l : Addr} (h : H' l = none) : H l = none := by
  obtain ⟨dx, ho⟩ := t'.ob
  exact e.free h fun z => by rw [z, ho] at h; cases h
theorem dn {x y : Str} (h : x ≠ y) : decide (V.str x = V.str y) = false := decide_eq_false fun e => h (V.str.inj e)
def W1 (fm : Fm) : Nat := if rk fm = 1 then 3 * fm.dep - 1 else 3 * fm.dep
theorem flat_cut (k : Str) (r : Nat) : ∀ (xs : List Fm) (j : Nat), flat k r xs = flat k r (xs.take j) ++ flat k r (xs.drop j)
  | _, 0 => rfl
  | [], _ + 1 => rfl
  | x :: xs, j + 1 => by
    show k :: (wds x r ++ flat k r xs) = k :: (wds x r ++ flat k r (xs.take j)) ++ flat k r (xs.drop j)
    rw [flat_cut k r xs j, List.cons_append, List.append_assoc]
theorem nt_of {ts : List Tok3} {i : Nat} {k x : Str} (h : At ts i (kindOf x) x) (n : x ≠ k) : Nt ts i k := by
  obtain ⟨pos, h⟩ := h
  exact ⟨_, h, n⟩
section
variable {P : Program} {w : World} {K : PySem.W.Frag} {mg : Str → Option Value} {base : Heap} {a : Ads}
theorem sc_read_one : FnScope ["tokens", "around", "word", "found"] ["tokens", "around"] (defScope s_read_one) := ⟨rfl, rfl, rfl, by decide +kernel, rfl, by decide +kernel, by decide +kernel⟩
theorem ok_read_one1 (T : Txt w K mg a) {k D E : Nat} (hk : 4 ≤ k) (F1 : FnOk P w K mg base CX0 k a.f_read_one a.f_read_one_d ["tokens", "around"] (spOne a (fun x => x.dep < D) 2 (fun x => 3 * x.dep) []))
    (F2 : FnOk P w K mg base CX0 k a.f_read_or a.f_read_or_d ["tokens", "around"] (spOne a (fun x => x.dep < E) 0 wt ["and", "or"])) (hE : E ≤ D + 1) :
    FnOk P w K mg base CX0 (k + 1) a.f_read_one a.f_read_one_d ["tokens", "around"] (spOne a (fun x => rk x = 2 ∧ x.dep < D + 1 ∨ x.dep < E) 2 (fun x => 3 * x.dep) []) := by
  refine T.F_read_one.ok sc_read_one (fun vs H Q E h => ?_) (fun cdv A outer s H vs Q E' hr h => ?_)
  · obtain ⟨o, L, ts, i, ar, fm, rfl, _⟩ := h
    rfl
  obtain ⟨o, L, ts, i, ar, fm, rfl, hT, hW, ok, hR, hw, _, q⟩ := h
  refine ⟨_, (pss_cons (ps_if (pt_cmpR op_gt (pv 1) (pe_gi rfl T.g_MOST_AROUND) (nomark _))
      (pss_one ps_never)
      pss_nil)
    (pss_cons (ps_set (i := 2) sc_read_one.nd rfl (Or.inl rfl) (pe_meth (pv 0) T.cl_Tokens T.m_Tokens_take_word (ok_Tokens_take_word T) (hr.mono (by omega)) T.b_Tokens_take_word .nil pass0 (pa_cons (pe_op op_catA (pe_gr rfl T.g_FIELDS) (pe_tup (pa_cons pe_str (pa_cons pe_str (pa_cons pe_str pa_nil))))) pa_nil)))
    (pss_cons (ps_if (pt_cmpR op_eq (pv 2) pe_str (nomark _))
      (pss_one (ps_ret (pe_make T.mk_Condition (ok_Condition___init__ T) (hr.mono (by omega)) (by rfl) T.mg_Condition T.b_Condition___init__ .nil pass0 (pa_cons (pe_tup (pa_cons pe_str (pa_cons (pe_call F1 (hr.mono (by omega)) (by rfl) T.g_read_one T.F_read_one.kp T.b_read_one .nil pass0 (pa_cons (pv 0) (pa_cons (pe_op op_add (pv 1) pe_int) pa_nil))) pa_nil))) pa_nil))))
      pss_nil)
    (pss_cons (ps_if (pt_cmpR op_eq (pv 2) pe_str (nomark _))
      (pss_cons (ps_set (i := 3) sc_read_one.nd rfl (Or.inl rfl) (pe_call F2 (hr.mono (by omega)) (by rfl) T.g_read_or T.F_read_or.kp T.b_read_or .nil pass0 (pa_cons (pv 0) (pa_cons (pe_op op_add (pv 1) pe_int) pa_nil))))
      (pss_cons (ps_expr (pe_meth (pv 0) T.cl_Tokens T.m_Tokens_take (ok_Tokens_take T) (hr.mono (by omega)) T.b_Tokens_take .nil pass0 (pa_cons pe_str pa_nil)))
      (pss_one (ps_ret (pv 3)))))
      pss_nil)
    (pss_cons (ps_if (pt_cmpR op_eq (pv 2) pe_str (nomark _))
      (pss_one (ps_ret (pe_make T.mk_Condition (ok_Condition___init__ T) (hr.mono (by omega)) (by rfl) T.mg_Condition T.b_Condition___init__ .nil pass0 (pa_cons (pe_tup (pa_cons pe_str pa_nil)) pa_nil))))
      pss_nil)
    (pss_one (ps_ret (pe_make T.mk_Condition (ok_Condition___init__ T) (hr.mono (by omega)) (by rfl) T.mg_Condition T.b_Condition___init__ .nil pass0 (pa_cons (pe_tup (pa_cons (pv 2) (pa_cons (pe_call (ok_read_value T) (hr.mono (by omega)) (by rfl) T.g_read_value T.F_read_value.kp T.b_read_value .nil pass0 (pa_cons (pv 0) (pa_cons (pv 2) pa_nil))) pa_nil))) pa_nil))))))))), ?_⟩
  obtain ⟨w0, rest, hw0, hin⟩ : ∃ w0 rest, wds fm 2 = w0 :: rest ∧ inV (.str w0) (fds ++ [V.str "any", V.str "not", V.str "("]) = true := by
    cases fm with
    | any => exact ⟨_, _, rfl, by decide +kernel⟩
    | place n => exact ⟨_, _, rfl, by decide +kernel⟩
    | word f x => exact ⟨_, _, rfl, by cases f <;> decide +kernel⟩
    | no y => exact ⟨_, _, rfl, by decide +kernel⟩
    | and y z => exact ⟨_, _, rfl, by decide +kernel⟩
    | or y z => exact ⟨_, _, rfl, by decide +kernel⟩
  have hA : At ts i (kindOf w0) w0 := by
    rw [hw0] at hW
    exact hW.head
  obtain ⟨pos, hA⟩ := hA
  obtain ⟨dx, ho⟩ := hT.ob
  have hd : decide ((30 : Int) < (ar : Int)) = false := decide_eq_false (by have := hw; omega)
  refine ⟨_, rfl, _, _, rfl, rfl, _, rfl, ite2 (no_b hd) (fun _ => ?_)⟩
  refine ⟨_, rfl, o, dx, _, rfl, ho, tf_no _ _ (by decide +kernel) (by decide +kernel), (by show 3 ≤ sizeLine; decide), fun c nc => ?_⟩
  have s1 : Same H (upd H c (.tup [V.str "any", V.str "not", V.str "("])) := same_upd nc
  refine ⟨a.t_FIELDS, c, fds, _, rfl, rfl, T.q_FIELDS _, SqT.of upd_same, (by show 5 + 3 ≤ sizeLine; decide), fun z => (by cases z), fun _ z => (by cases z), fun _ _ p np => ?_⟩
  have s2 := s1.trans (same_upd (o := .tup (fds ++ [V.str "any", V.str "not", V.str "("])) np)
  refine ⟨o, L, p, _, ts, i, (kindOf w0, w0, pos), rfl, SqT.of upd_same, fds_flat, hin, hT.same s2, hA, fun H1 t1 b1 => ?_⟩
  have e1 : Ext o H H1 := (Ext.of s2).trans (Ext.but b1)
  clear s1 s2 nc np b1
  obtain ⟨dx1, ho1⟩ := t1.ob
  cases fm with
  | any =>
    cases hw0
    refine ⟨_, rfl, rfl, _, rfl, ite2 (no_b (dn (x := "any") (y := "not") (by decide +kernel))) (fun _ => ?_)⟩
    refine ⟨_, rfl, rfl, _, rfl, ite2 (no_b (dn (x := "any") (y := "(") (by decide +kernel))) (fun _ => ?_)⟩
    refine ⟨_, rfl, rfl, _, rfl, ite2 (fun _ => ?_) (yes_b (decide_eq_true rfl))⟩
    refine ⟨(by show 1 ≤ sizeLine; decide), fun p np => ?_⟩
    intro x dx nx nd hne
    have s3 := (same_upd (o := .tup [V.str "any"]) np).trans (made (C := a.c_Condition) (fs := [("_parts", .ref p)]) nx nd hne)
    exact ⟨x, dx, _, rfl, upd_same, rfl, q _ x (e1.trans (Ext.of s3)) (e1.new hT t1 ((same_upd np).free nx)) (t1.same s3) ⟨x, dx, p, rfl, upd_same, made nx nd hne _ _ upd_same⟩⟩
  | place n =>
    cases hw0
    refine ⟨_, rfl, rfl, _, rfl, ite2 (no_b (dn (x := "place") (y := "not") (by decide +kernel))) (fun _ => ?_)⟩
    refine ⟨_, rfl, rfl, _, rfl, ite2 (no_b (dn (x := "place") (y := "(") (by decide +kernel))) (fun _ => ?_)⟩
    refine ⟨_, rfl, rfl, _, rfl, ite2 (no_b (dn (x := "place") (y := "any") (by decide +kernel))) (fun _ => ?_)⟩
    refine ⟨_, rfl, _, rfl, _, rfl, o, L, ts, i + 1, .place n, numT (n : Int), rfl, rfl, ok, t1, hW.tail.head, fun H2 t2 b2 => ⟨(by show 2 ≤ sizeLine; decide), fun p np => ?_⟩⟩
    intro x dx nx nd hne
    have s3 := (same_upd (o := .tup [V.str "place", V.int (n : Nat)]) np).trans (made (C := a.c_Condition) (fs := [("_parts", .ref p)]) nx nd hne)
    have e2 := e1.trans (Ext.but b2)
    exact ⟨x, dx, _, rfl, upd_same, rfl, q _ x (e2.trans (Ext.of s3)) (e2.new hT t2 ((same_upd np).free nx)) (t2.same s3) ⟨x, dx, p, rfl, upd_same, made nx nd hne _ _ upd_same⟩⟩
  | word f y =>
    cases hw0
    refine ⟨_, rfl, rfl, _, rfl, ite2 (no_b (dn (x := fdS f) (y := "not") (by cases f <;> decide +kernel))) (fun _ => ?_)⟩
    refine ⟨_, rfl, rfl, _, rfl, ite2 (no_b (dn (x := fdS f) (y := "(") (by cases f <;> decide +kernel))) (fun _ => ?_)⟩
    refine ⟨_, rfl, rfl, _, rfl, ite2 (no_b (dn (x := fdS f) (y := "any") (by cases f <;> decide +kernel))) (fun _ => ?_)⟩
    refine ⟨_, rfl, _, rfl, _, rfl, o, L, ts, i + 1, .word f y, y, rfl, rfl, ok, t1, hW.tail.head, fun H2 t2 b2 => ⟨(by show 2 ≤ sizeLine; decide), fun p np => ?_⟩⟩
    intro x dx nx nd hne
    have s3 := (same_upd (o := .tup [V.str (fdS f), V.str y]) np).trans (made (C := a.c_Condition) (fs := [("_parts", .ref p)]) nx nd hne)
    have e2 := e1.trans (Ext.but b2)
    exact ⟨x, dx, _, rfl, upd_same, rfl, q _ x (e2.trans (Ext.of s3)) (e2.new hT t2 ((same_upd np).free nx)) (t2.same s3) ⟨x, dx, p, rfl, upd_same, made nx nd hne _ _ upd_same⟩⟩
  | no y =>
    cases hw0
    have dy : y.dep < D ∧ ar + 1 + 3 * y.dep ≤ 25 := by
      have d1 : (Fm.no y).dep = y.dep + 1 := rfl
      have hw : ar + 3 * (Fm.no y).dep ≤ 25 := hw
      rcases hR with h | h
      · have := h.2
        omega
      · have h : (Fm.no y).dep < E := h
        omega
    have hl : (wds (.no y) 2).length = (wds y 2).length + 1 := rfl
    refine ⟨_, rfl, rfl, _, rfl, ite2 (fun _ => ?_) (yes_b (decide_eq_true rfl))⟩
    refine ⟨_, rfl, _, rfl, _, _, rfl, rfl, o, L, ts, i + 1, ar + 1, y, rfl, t1, hW.tail, ok, dy.1, dy.2, fun k h => (by cases h), fun H2 c e2 nc t2 co2 => ⟨(by show 2 ≤ sizeLine; decide), fun p np => ?_⟩⟩
    intro x dx nx nd hne
    have s3 := (same_upd (o := .tup [V.str "not", V.ref c]) np).trans (made (C := a.c_Condition) (fs := [("_parts", .ref p)]) nx nd hne)
    have e12 := e1.trans e2
    have hp : i + (wds (.no y) 2).length = i + 1 + (wds y 2).length := by omega
    refine ⟨x, dx, _, rfl, upd_same, rfl, q _ x (e12.trans (Ext.of s3)) (e12.new hT t2 ((same_upd np).free nx)) ?_ ⟨x, dx, p, .ref c, rfl, upd_same, made nx nd hne _ _ upd_same, co2.same s3⟩⟩
    rw [hp]
    exact t2.same s3
  | and y z =>
    cases hw0
    have hW : Ws ts i (("(" : Str) :: (wds (.and y z) 0 ++ [(")" : Str)])) := hW
    have dy : (Fm.and y z).dep < E := hR.elim (fun h => by cases h.1) id
    have hw2 : ar + 1 + wt (.and y z) ≤ 25 := by
      have h1 := dep_pos (fm := .and y z) (show 1 < 2 by decide)
      rw [wt_rk (fm := .and y z) (show 1 < 2 by decide)]
      have hw : ar + 3 * (Fm.and y z).dep ≤ 25 := hw
      omega
    refine ⟨_, rfl, rfl, _, rfl, ite2 (no_b (dn (x := "(") (y := "not") (by decide +kernel))) (fun _ => ?_)⟩
    refine ⟨_, rfl, rfl, _, rfl, ite2 (fun _ => ?_) (yes_b (decide_eq_true rfl))⟩
    have hAc := hW.tail.right.head
    refine ⟨_, rfl, _, rfl, _, _, rfl, rfl, o, L, ts, i + 1, ar + 1, .and y z, rfl, t1, hW.tail.left, ok, dy, hw2, fun k h => ?_, fun H2 c e2 nc t2 co2 => ?_⟩
    · rcases List.mem_cons.mp h with rfl | h
      · exact nt_of hAc (by decide +kernel)
      · obtain rfl : k = "or" := by simpa using h
        exact nt_of hAc (by decide +kernel)
    obtain ⟨dx2, ho2⟩ := t2.ob
    obtain ⟨pos2, hAc⟩ := hAc
    rw [show kindOf (")" : Str) = ")" by decide +kernel] at hAc
    refine ⟨_, rfl, o, dx2, _, rfl, ho2, tf_no _ _ (by decide +kernel) (by decide +kernel), o, L, ts, _, _, rfl, t2, hAc, fun H3 t3 b3 => ?_⟩
    have e12 := e1.trans e2
    have hp : i + (wds (.and y z) 2).length = i + 1 + (wds (.and y z) 0).length + 1 := by
      show i + ((wds (.and y z) 0 ++ [(")" : Str)]).length + 1) = _
      rw [List.length_append]
      show _ + (_ + 1 + 1) = _
      omega
    refine ⟨_, rfl, q H3 c (e12.trans (Ext.but b3)) (e1.new hT t1 nc) ?_ (co2.ext t2 (Ext.but b3))⟩
    rw [hp]
    exact t3
  | or y z =>
    cases hw0
    have hW : Ws ts i (("(" : Str) :: (wds (.or y z) 0 ++ [(")" : Str)])) := hW
    have dy : (Fm.or y z).dep < E := hR.elim (fun h => by cases h.1) id
    have hw2 : ar + 1 + wt (.or y z) ≤ 25 := by
      have h1 := dep_pos (fm := .or y z) (show 0 < 2 by decide)
      rw [wt_rk (fm := .or y z) (show 0 < 2 by decide)]
      have hw : ar + 3 * (Fm.or y z).dep ≤ 25 := hw
      omega
    refine ⟨_, rfl, rfl, _, rfl, ite2 (no_b (dn (x := "(") (y := "not") (by decide +kernel))) (fun _ => ?_)⟩
    refine ⟨_, rfl, rfl, _, rfl, ite2 (fun _ => ?_) (yes_b (decide_eq_true rfl))⟩
    have hAc := hW.tail.right.head
    refine ⟨_, rfl, _, rfl, _, _, rfl, rfl, o, L, ts, i + 1, ar + 1, .or y z, rfl, t1, hW.tail.left, ok, dy, hw2, fun k h => ?_, fun H2 c e2 nc t2 co2 => ?_⟩
    · rcases List.mem_cons.mp h with rfl | h
      · exact nt_of hAc (by decide +kernel)
      · obtain rfl : k = "or" := by simpa using h
        exact nt_of hAc (by decide +kernel)
    obtain ⟨dx2, ho2⟩ := t2.ob
    obtain ⟨pos2, hAc⟩ := hAc
    rw [show kindOf (")" : Str) = ")" by decide +kernel] at hAc
    refine ⟨_, rfl, o, dx2, _, rfl, ho2, tf_no _ _ (by decide +kernel) (by decide +kernel), o, L, ts, _, _, rfl, t2, hAc, fun H3 t3 b3 => ?_⟩
    have e12 := e1.trans e2
    have hp : i + (wds (.or y z) 2).length = i + 1 + (wds (.or y z) 0).length + 1 := by
      show i + ((wds (.or y z) 0 ++ [(")" : Str)]).length + 1) = _
      rw [List.length_append]
      show _ + (_ + 1 + 1) = _
      omega
    refine ⟨_, rfl, q H3 c (e12.trans (Ext.but b3)) (e1.new hT t1 nc) ?_ (co2.ext t2 (Ext.but b3))⟩
    rw [hp]
    exact t3
theorem sc_read_and : FnScope ["tokens", "around", "found"] ["tokens", "around"] (defScope s_read_and) := ⟨rfl, rfl, rfl, by decide +kernel, rfl, by decide +kernel, by decide +kernel⟩
theorem ok_read_and1 (T : Txt w K mg a) {k D : Nat} (hk : 4 ≤ k) (F1 : FnOk P w K mg base CX0 k a.f_read_one a.f_read_one_d ["tokens", "around"] (spOne a (fun x => rk x = 2 ∧ x.dep < D + 1 ∨ x.dep < D) 2 (fun x => 3 * x.dep) [])) :
    FnOk P w K mg base CX0 (k + 1) a.f_read_and a.f_read_and_d ["tokens", "around"] (spOne a (fun x => 1 ≤ rk x ∧ x.dep < D + 1 ∨ x.dep < D) 1 W1 ["and"]) := by
  refine T.F_read_and.ok sc_read_and (fun vs H Q E h => ?_) (fun cdv A outer s H vs Q E' hr h => ?_)
  · obtain ⟨o, L, ts, i, ar, fm, rfl, _⟩ := h
    rfl
  obtain ⟨o, L, ts, i, ar, fm, rfl, hT, hW, ok, hR, hw, hks, q⟩ := h
  refine ⟨_, (pss_cons (ps_set (i := 2) sc_read_and.nd rfl (Or.inl rfl) (pe_call F1 (hr.mono (by omega)) (by rfl) T.g_read_one T.F_read_one.kp T.b_read_one .nil pass0 (pa_cons (pv 0) (pa_cons (pv 1) pa_nil))))
    (pss_cons (ps_while PassesOwn.never (pt_val (pe_meth (pv 0) T.cl_Tokens T.m_Tokens_skip_word (ok_Tokens_skip_word T) (hr.mono (by omega)) T.b_Tokens_skip_word .nil pass0 (pa_cons pe_str pa_nil)))
      (pss_one (ps_set (i := 2) sc_read_and.nd rfl (Or.inl rfl) (pe_make T.mk_Condition (ok_Condition___init__ T) (hr.mono (by omega)) (by rfl) T.mg_Condition T.b_Condition___init__ .nil pass0 (pa_cons (pe_tup (pa_cons pe_str (pa_cons (pv 2) (pa_cons (pe_call F1 (hr.mono (by omega)) (by rfl) T.g_read_one T.F_read_one.kp T.b_read_one .nil pass0 (pa_cons (pv 0) (pa_cons (pv 1) pa_nil))) pa_nil)))) pa_nil)))))
    (pss_one (ps_ret (pv 2))))), ?_⟩
  obtain ⟨c1, c2, c3, c4, c5⟩ := and_first fm
  obtain ⟨okf, okr⟩ := c5 ok
  have hlen : (wds fm 1).length = (wds (andS fm).1 2).length + (flat "and" 2 (andS fm).2).length := by rw [and_words fm, List.length_append]
  have hfold := and_fold fm
  rw [and_words fm] at hW
  rw [hlen] at hks q
  have fR : rk (andS fm).1 = 2 ∧ (andS fm).1.dep < D + 1 ∨ (andS fm).1.dep < D := by
    by_cases h : rk fm = 1
    · have := c2 h
      rcases hR with z | z
      · exact .inr (by omega)
      · exact .inr (by have z : fm.dep < D := z; omega)
    · rw [c1 h]
      rcases hR with z | z
      · have : rk fm ≤ 2 := by cases fm <;> simp [rk]
        exact .inl ⟨by omega, z.2⟩
      · exact .inr z
  have hdep : fm.dep < D + 1 := by
    rcases hR with z | z
    · exact z.2
    · have z : fm.dep < D := z
      omega
  have fW : ar + 3 * (andS fm).1.dep ≤ 25 := by
    unfold W1 at hw
    by_cases h : rk fm = 1
    · rw [if_pos h] at hw
      have := c2 h
      omega
    · rw [if_neg h] at hw
      rw [c1 h]
      exact hw
  have rR : ∀ x ∈ (andS fm).2, rk x = 2 ∧ x.dep < D + 1 ∨ x.dep < D := fun x hx => .inr (by have := c4 x hx; omega)
  have rW : ∀ x ∈ (andS fm).2, ar + 3 * x.dep ≤ 25 := fun x hx => by
    have := c4 x hx
    unfold W1 at hw
    split at hw <;> omega
  generalize (andS fm).1 = f at *
  generalize (andS fm).2 = rs at *
  have hWr := hW.right
  have pos_eq : ∀ j, (flat "and" 2 (rs.take j)).length + (flat "and" 2 (rs.drop j)).length = (flat "and" 2 rs).length := fun j => by rw [← List.length_append, ← flat_cut]
  have at_j : ∀ j (h : j < rs.length), Ws ts (i + (wds f 2).length + (flat "and" 2 (rs.take j)).length) (("and" : Str) :: (wds rs[j] 2 ++ flat "and" 2 (rs.drop (j + 1)))) := fun j h => by
    rw [flat_cut "and" 2 rs j] at hWr
    have := hWr.right
    rw [List.drop_eq_getElem_cons h] at this
    exact this
  have next_len : ∀ j (h : j < rs.length), (flat "and" 2 (rs.take (j + 1))).length = (flat "and" 2 (rs.take j)).length + 1 + (wds rs[j] 2).length := fun j h => by
    rw [List.take_add_one, List.getElem?_eq_getElem h]
    show (flat "and" 2 (rs.take j ++ [rs[j]])).length = _
    rw [flat_app, List.length_append, List.length_cons]
    omega

  refine ⟨_, rfl, _, rfl, o, L, ts, i, ar, f, rfl, hT, hW.left, okf, fR, fW, (fun k h => by cases h), fun H1 c e1 nc t1 co1 => ?_⟩
  refine ⟨fun m σ H' => ∃ (j : Nat) (c : Addr), m = rs.length - j ∧ j ≤ rs.length ∧ σ = [some (.ref o), some (.int (ar : Nat)), some (.ref c)] ∧ Ext o H H' ∧ H c = none ∧ TkAt a.c_Tokens H' o L ts (i + (wds f 2).length + (flat "and" 2 (rs.take j)).length) ∧ CoAt a.c_Condition H' ((rs.take j).foldl .and f) (.ref c),
    ⟨rs.length, 0, c, rfl, Nat.zero_le _, rfl, e1, nc, t1, co1⟩, ?_⟩
  rintro m σ H2 ⟨j, c2, rfl, hj, rfl, e2, nc2, t2, co2⟩
  obtain ⟨dx2, ho2⟩ := t2.ob
  by_cases hlt : j < rs.length
  · have hWj := at_j j hlt
    obtain ⟨pos, hA⟩ := hWj.head
    refine ⟨_, rfl, o, dx2, _, rfl, ho2, tf_no _ _ (by decide +kernel) (by decide +kernel), o, L, "and", ts, _, _, rfl, t2, hA, fun _ H3 t3 b3 => ⟨_, rfl, iteT ⟨_, fun σ' H' h => h, ?_⟩⟩, fun z => absurd rfl z⟩
    have e3 := e2.trans (Ext.but b3)
    have hm := List.getElem_mem hlt
    refine ⟨_, rfl, _, rfl, _, rfl, o, L, ts, _, ar, rs[j], rfl, t3, hWj.tail.left, okr _ hm, rR _ hm, rW _ hm, (fun k h => by cases h), fun H4 c4 e4 nc4 t4 co4 => ⟨(by show 3 ≤ sizeLine; decide), fun p np => ?_⟩⟩
    intro x dx nx nd hne
    have s5 := (same_upd (o := .tup [V.str "and", V.ref c2, V.ref c4]) np).trans (made (C := a.c_Condition) (fs := [("_parts", .ref p)]) nx nd hne)
    have e34 := e3.trans e4
    have co2' := (co2.ext t2 (Ext.but b3)).ext t3 e4
    refine ⟨x, dx, _, rfl, upd_same, rfl, rs.length - (j + 1), by omega, j + 1, x, rfl, by omega, rfl, e34.trans (Ext.of s5), e34.new hT t4 ((same_upd np).free nx), ?_, ?_⟩
    · rw [next_len j hlt]
      have := t4.same s5
      rw [show i + (wds f 2).length + (flat "and" 2 (rs.take j)).length + 1 + (wds rs[j] 2).length = i + (wds f 2).length + ((flat "and" 2 (rs.take j)).length + 1 + (wds rs[j] 2).length) by omega] at this
      exact this
    · rw [List.take_add_one, List.getElem?_eq_getElem hlt, List.foldl_append]
      exact ⟨x, dx, p, .ref c2, .ref c4, rfl, upd_same, made nx nd hne _ _ upd_same, co2'.same s5, co4.same s5⟩
  · have hje : j = rs.length := by omega
    subst hje
    rw [List.take_length] at t2 co2
    rw [hfold] at co2
    rw [Nat.add_assoc] at t2
    obtain ⟨t, ht, hne⟩ := hks "and" (by simp)
    refine ⟨_, rfl, o, dx2, _, rfl, ho2, tf_no _ _ (by decide +kernel) (by decide +kernel), o, L, "and", ts, _, t, rfl, t2, ht, fun z => absurd z hne, fun _ => ⟨_, rfl, iteF ?_⟩⟩
    exact ⟨_, rfl, q H2 c2 e2 nc2 t2 co2⟩
theorem sc_read_or : FnScope ["tokens", "around", "found"] ["tokens", "around"] (defScope s_read_or) := ⟨rfl, rfl, rfl, by decide +kernel, rfl, by decide +kernel, by decide +kernel⟩
theorem ok_read_or1 (T : Txt w K mg a) {k D : Nat} (hk : 4 ≤ k) (F1 : FnOk P w K mg base CX0 k a.f_read_and a.f_read_and_d ["tokens", "around"] (spOne a (fun x => 1 ≤ rk x ∧ x.dep < D + 1 ∨ x.dep < D) 1 W1 ["and"])) :
    FnOk P w K mg base CX0 (k + 1) a.f_read_or a.f_read_or_d ["tokens", "around"] (spOne a (fun x => x.dep < D + 1) 0 wt ["and", "or"]) := by
  refine T.F_read_or.ok sc_read_or (fun vs H Q E h => ?_) (fun cdv A outer s H vs Q E' hr h => ?_)
  · obtain ⟨o, L, ts, i, ar, fm, rfl, _⟩ := h
    rfl
  obtain ⟨o, L, ts, i, ar, fm, rfl, hT, hW, ok, hR, hw, hks, q⟩ := h
  refine ⟨_, (pss_cons (ps_set (i := 2) sc_read_or.nd rfl (Or.inl rfl) (pe_call F1 (hr.mono (by omega)) (by rfl) T.g_read_and T.F_read_and.kp T.b_read_and .nil pass0 (pa_cons (pv 0) (pa_cons (pv 1) pa_nil))))
    (pss_cons (ps_while PassesOwn.never (pt_val (pe_meth (pv 0) T.cl_Tokens T.m_Tokens_skip_word (ok_Tokens_skip_word T) (hr.mono (by omega)) T.b_Tokens_skip_word .nil pass0 (pa_cons pe_str pa_nil)))
      (pss_one (ps_set (i := 2) sc_read_or.nd rfl (Or.inl rfl) (pe_make T.mk_Condition (ok_Condition___init__ T) (hr.mono (by omega)) (by rfl) T.mg_Condition T.b_Condition___init__ .nil pass0 (pa_cons (pe_tup (pa_cons pe_str (pa_cons (pv 2) (pa_cons (pe_call F1 (hr.mono (by omega)) (by rfl) T.g_read_and T.F_read_and.kp T.b_read_and .nil pass0 (pa_cons (pv 0) (pa_cons (pv 1) pa_nil))) pa_nil)))) pa_nil)))))
    (pss_one (ps_ret (pv 2))))), ?_⟩
  obtain ⟨c1, c2, c3, c4, c5⟩ := or_first fm
  obtain ⟨okf, okr⟩ := c5 ok
  have hlen : (wds fm 0).length = (wds (orS fm).1 1).length + (flat "or" 1 (orS fm).2).length := by rw [or_words fm, List.length_append]
  have hfold := or_fold fm
  rw [or_words fm] at hW
  rw [hlen] at hks q
  have rk2 : ∀ x : Fm, rk x ≤ 2 := fun x => by cases x <;> simp [rk]
  have w1_le : ∀ x : Fm, W1 x ≤ 3 * x.dep := fun x => by unfold W1; split <;> omega
  have fR : 1 ≤ rk (orS fm).1 ∧ (orS fm).1.dep < D + 1 ∨ (orS fm).1.dep < D := by
    have hR : fm.dep < D + 1 := hR
    by_cases h : rk fm = 0
    · have := c2 h
      exact .inr (by omega)
    · rw [c1 h]
      exact .inl ⟨by omega, hR⟩
  have hdep : fm.dep < D + 1 := hR
  have wl := wt_le fm
  have fW : ar + W1 (orS fm).1 ≤ 25 := by
    by_cases h : rk fm = 0
    · have h1 := c2 h
      have h2 := w1_le (orS fm).1
      rw [wt_rk (by omega)] at hw
      omega
    · rw [c1 h]
      by_cases h1 : rk fm = 1
      · rw [wt_rk (by omega)] at hw
        unfold W1
        rw [if_pos h1]
        exact hw
      · have := rk2 fm
        rw [wt_plain (by omega)] at hw
        unfold W1
        rw [if_neg h1]
        exact hw
  have rR : ∀ x ∈ (orS fm).2, 1 ≤ rk x ∧ x.dep < D + 1 ∨ x.dep < D := fun x hx => .inr (by have := c4 x hx; omega)
  have rW : ∀ x ∈ (orS fm).2, ar + W1 x ≤ 25 := fun x hx => by
    have h1 := c4 x hx
    have h2 := w1_le x
    have h3 : 3 * fm.dep - 1 ≤ wt fm := by unfold wt; split <;> omega
    omega
  generalize (orS fm).1 = f at *
  generalize (orS fm).2 = rs at *
  have hWr := hW.right
  have pos_eq : ∀ j, (flat "or" 1 (rs.take j)).length + (flat "or" 1 (rs.drop j)).length = (flat "or" 1 rs).length := fun j => by rw [← List.length_append, ← flat_cut]
  have at_j : ∀ j (h : j < rs.length), Ws ts (i + (wds f 1).length + (flat "or" 1 (rs.take j)).length) (("or" : Str) :: (wds rs[j] 1 ++ flat "or" 1 (rs.drop (j + 1)))) := fun j h => by
    rw [flat_cut "or" 1 rs j] at hWr
    have := hWr.right
    rw [List.drop_eq_getElem_cons h] at this
    exact this
  have next_len : ∀ j (h : j < rs.length), (flat "or" 1 (rs.take (j + 1))).length = (flat "or" 1 (rs.take j)).length + 1 + (wds rs[j] 1).length := fun j h => by
    rw [List.take_add_one, List.getElem?_eq_getElem h]
    show (flat "or" 1 (rs.take j ++ [rs[j]])).length = _
    rw [flat_app, List.length_append, List.length_cons]
    omega
  have nt_end : Nt ts (i + ((wds f 1).length + (flat "or" 1 rs).length)) "and" := hks "and" (by simp)
  have nt_f : Nt ts (i + (wds f 1).length) "and" := by
    by_cases h : 0 < rs.length
    · exact nt_of (at_j 0 h).head (by decide +kernel)
    · have : rs = [] := List.length_eq_zero_iff.mp (by omega)
      subst this
      exact nt_end
  have nt_j : ∀ j (h : j < rs.length), Nt ts (i + (wds f 1).length + (flat "or" 1 (rs.take j)).length + 1 + (wds rs[j] 1).length) "and" := fun j h => by
    have e1 := next_len j h
    by_cases h2 : j + 1 < rs.length
    · have := nt_of (k := "and") (at_j (j + 1) h2).head (by decide +kernel)
      rw [e1] at this
      rw [show i + (wds f 1).length + (flat "or" 1 (rs.take j)).length + 1 + (wds rs[j] 1).length = i + (wds f 1).length + ((flat "or" 1 (rs.take j)).length + 1 + (wds rs[j] 1).length) by omega]
      exact this
    · have e2 : rs.take (j + 1) = rs := List.take_of_length_le (by omega)
      rw [e2] at e1
      rw [show i + (wds f 1).length + (flat "or" 1 (rs.take j)).length + 1 + (wds rs[j] 1).length = i + ((wds f 1).length + (flat "or" 1 rs).length) by omega]
      exact nt_end
  refine ⟨_, rfl, _, rfl, o, L, ts, i, ar, f, rfl, hT, hW.left, okf, fR, fW, (fun k h => by obtain rfl : k = "and" := (by simpa using h); exact nt_f), fun H1 c e1 nc t1 co1 => ?_⟩
  refine ⟨fun m σ H' => ∃ (j : Nat) (c : Addr), m = rs.length - j ∧ j ≤ rs.length ∧ σ = [some (.ref o), some (.int (ar : Nat)), some (.ref c)] ∧ Ext o H H' ∧ H c = none ∧ TkAt a.c_Tokens H' o L ts (i + (wds f 1).length + (flat "or" 1 (rs.take j)).length) ∧ CoAt a.c_Condition H' ((rs.take j).foldl .or f) (.ref c),
    ⟨rs.length, 0, c, rfl, Nat.zero_le _, rfl, e1, nc, t1, co1⟩, ?_⟩
  rintro m σ H2 ⟨j, c2, rfl, hj, rfl, e2, nc2, t2, co2⟩
  obtain ⟨dx2, ho2⟩ := t2.ob
  by_cases hlt : j < rs.length
  · have hWj := at_j j hlt
    obtain ⟨pos, hA⟩ := hWj.head
    refine ⟨_, rfl, o, dx2, _, rfl, ho2, tf_no _ _ (by decide +kernel) (by decide +kernel), o, L, "or", ts, _, _, rfl, t2, hA, fun _ H3 t3 b3 => ⟨_, rfl, iteT ⟨_, fun σ' H' h => h, ?_⟩⟩, fun z => absurd rfl z⟩
    have e3 := e2.trans (Ext.but b3)
    have hm := List.getElem_mem hlt
    refine ⟨_, rfl, _, rfl, _, rfl, o, L, ts, _, ar, rs[j], rfl, t3, hWj.tail.left, okr _ hm, rR _ hm, rW _ hm, (fun k h => by obtain rfl : k = "and" := (by simpa using h); exact nt_j j hlt), fun H4 c4 e4 nc4 t4 co4 => ⟨(by show 3 ≤ sizeLine; decide), fun p np => ?_⟩⟩
    intro x dx nx nd hne
    have s5 := (same_upd (o := .tup [V.str "or", V.ref c2, V.ref c4]) np).trans (made (C := a.c_Condition) (fs := [("_parts", .ref p)]) nx nd hne)
    have e34 := e3.trans e4
    have co2' := (co2.ext t2 (Ext.but b3)).ext t3 e4
    refine ⟨x, dx, _, rfl, upd_same, rfl, rs.length - (j + 1), by omega, j + 1, x, rfl, by omega, rfl, e34.trans (Ext.of s5), e34.new hT t4 ((same_upd np).free nx), ?_, ?_⟩
    · rw [next_len j hlt]
      have := t4.same s5
      rw [show i + (wds f 1).length + (flat "or" 1 (rs.take j)).length + 1 + (wds rs[j] 1).length = i + (wds f 1).length + ((flat "or" 1 (rs.take j)).length + 1 + (wds rs[j] 1).length) by omega] at this
      exact this
    · rw [List.take_add_one, List.getElem?_eq_getElem hlt, List.foldl_append]
      exact ⟨x, dx, p, .ref c2, .ref c4, rfl, upd_same, made nx nd hne _ _ upd_same, co2'.same s5, co4.same s5⟩
  · have hje : j = rs.length := by omega
    subst hje
    rw [List.take_length] at t2 co2
    rw [hfold] at co2
    rw [Nat.add_assoc] at t2
    obtain ⟨t, ht, hne⟩ := hks "or" (by simp)
    refine ⟨_, rfl, o, dx2, _, rfl, ho2, tf_no _ _ (by decide +kernel) (by decide +kernel), o, L, "or", ts, _, t, rfl, t2, ht, fun z => absurd z hne, fun _ => ⟨_, rfl, iteF ?_⟩⟩
    exact ⟨_, rfl, q H2 c2 e2 nc2 t2 co2⟩
/-- all depths -/
theorem ok_readers (T : Txt w K mg a) : ∀ D : Nat, FnOk P w K mg base CX0 (4 + 4 * D) a.f_read_one a.f_read_one_d ["tokens", "around"] (spOne a (fun x => x.dep < D) 2 (fun x => 3 * x.dep) []) ∧
    FnOk P w K mg base CX0 (4 + 4 * D) a.f_read_or a.f_read_or_d ["tokens", "around"] (spOne a (fun x => x.dep < D) 0 wt ["and", "or"])
  | 0 => ⟨⟨fun vs H Q E h => by obtain ⟨o, L, ts, i, ar, fm, _, _, _, _, h, _⟩ := h; exact absurd h (Nat.not_lt_zero _), fun A outer s H args us vs Q E _ _ _ _ h => by obtain ⟨o, L, ts, i, ar, fm, _, _, _, _, h, _⟩ := h; exact absurd h (Nat.not_lt_zero _)⟩,
    ⟨fun vs H Q E h => by obtain ⟨o, L, ts, i, ar, fm, _, _, _, _, h, _⟩ := h; exact absurd h (Nat.not_lt_zero _), fun A outer s H args us vs Q E _ _ _ _ h => by obtain ⟨o, L, ts, i, ar, fm, _, _, _, _, h, _⟩ := h; exact absurd h (Nat.not_lt_zero _)⟩⟩
  | D + 1 => by
    obtain ⟨F1, F2⟩ := ok_readers T D
    have Fm' := ok_read_one1 T (by omega) F1 F2 (by omega)
    have Fa := ok_read_and1 T (by omega) Fm'
    have Fo := ok_read_or1 T (by omega) Fa
    have G1 := ok_read_one1 T (k := 4 + 4 * D + 3) (by omega) (F1.mono (by omega)) Fo (Nat.le_refl _)
    have rk2 : ∀ x : Fm, rk x ≤ 2 := fun x => by cases x <;> simp [rk]
    refine ⟨(G1.imp fun vs H Q E h => ?_).mono (by omega), Fo.mono (by omega)⟩
    obtain ⟨o, L, ts, i, ar, fm, h1, h2, h3, h4, h5, h6⟩ := h
    exact ⟨o, L, ts, i, ar, fm, h1, h2, h3, h4, .inr h5, h6⟩
end
end K34
namespace K34
open PySem PySem.Spec PyProof.Rows L2 TL
/-! ### words in texts -/
abbrev tk (a b : Str) : Str × Str := (a, b)
def kp (t : Tok3) : Str × Str := (t.1, t.2.1)
def kt (cs : List Nat) : List (Str × Str) := (toksL cs 0).map kp
theorem toksF_kp : ∀ (n : Nat) (cs : List Nat) (p q : Nat), (toksF n cs p).map kp = (toksF n cs q).map kp
  | 0, _, _, _ => rfl
  | _ + 1, [], _, _ => rfl
  | n + 1, c :: r, p, q => by
    show (if blank c = true then toksF n r (p + 1) else _ :: toksF n _ _).map kp = (if blank c = true then toksF n r (q + 1) else _ :: toksF n _ _).map kp
    by_cases h : blank c = true
    · rw [if_pos h, if_pos h]
      exact toksF_kp n r _ _
    · rw [if_neg h, if_neg h, List.map_cons, List.map_cons, toksF_kp n _ _ (q + max 1 (runLen (c :: r)))]
      rfl
theorem kt_at (cs : List Nat) (p : Nat) : (toksL cs p).map kp = kt cs := toksF_kp _ _ _ _
theorem blanks_are : (Str.ofString " \n").cps.toList = [32, 10] := by decide +kernel
theorem kt_space {r : List Nat} : kt (32 :: r) = kt r := by
  unfold kt
  rw [toksL_blank (by decide +kernel)]
  exact kt_at r 1
theorem kt_spaces : ∀ (g : Nat) {r : List Nat}, kt (List.replicate g 32 ++ r) = kt r
  | 0, _ => rfl
  | g + 1, r => by
    show kt (32 :: (List.replicate g 32 ++ r)) = kt r
    rw [kt_space, kt_spaces g]
theorem alnum_solid {c : Nat} (h : alnum c = true) : blank c = false := by
  cases hb : blank c with
  | false => rfl
  | true =>
    have hm : c ∈ ([32, 10] : List Nat) := by
      have := of_decide_eq_true hb
      rw [blanks_are] at this
      exact this
    simp only [List.mem_cons, List.not_mem_nil, or_false] at hm
    rcases hm with rfl | rfl
    · exact absurd h (by decide +kernel)
    · exact absurd h (by decide +kernel)
def Stop (r : List Nat) : Prop := ∀ c s, r = c :: s → alnum c = false
theorem runLen_run : ∀ {w rest : List Nat}, w.all alnum = true → Stop rest → runLen (w ++ rest) = w.length
  | [], [], _, _ => rfl
  | [], c :: r, _, h => runLen_miss (h c r rfl)
  | c :: w, rest, h, hs => by
    have h' : (alnum c && w.all alnum) = true := h
    rw [Bool.and_eq_true] at h'
    rw [List.cons_append, runLen_hit h'.1, runLen_run h'.2 hs]
    rfl
theorem kt_run {w rest : List Nat} (h0 : w ≠ []) (h : w.all alnum = true) (hs : Stop rest) : kt (w ++ rest) = (kindOf ⟨w.toArray⟩, (⟨w.toArray⟩ : Str)) :: kt rest := by
  have hr := runLen_run h hs
  cases w with
  | nil => exact absurd rfl h0
  | cons c w =>
    have h' : (alnum c && w.all alnum) = true := h
    rw [Bool.and_eq_true] at h'
    have hm : max 1 (runLen (c :: (w ++ rest))) = (c :: w).length := by
      rw [show c :: (w ++ rest) = (c :: w) ++ rest from rfl, hr, List.length_cons]
      omega
    unfold kt
    rw [show (c :: w) ++ rest = c :: (w ++ rest) from rfl, toksL_tok (alnum_solid h'.1), hm, show c :: (w ++ rest) = (c :: w) ++ rest from rfl, List.take_left, List.drop_left, List.map_cons, kt_at]
    rfl
theorem kt_sign {c : Nat} {rest : List Nat} (h : alnum c = false) (hb : blank c = false) : kt (c :: rest) = (kindOf ⟨#[c]⟩, (⟨#[c]⟩ : Str)) :: kt rest := by
  unfold kt
  rw [toksL_tok hb, runLen_miss h]
  show _ :: (toksL rest (0 + 1)).map kp = _
  rw [kt_at]
  rfl
/-! ### what the law's words are -/
theorem at_kp {ts : List Tok3} {i : Nat} {k p : Str} (h : (ts.map kp)[i]? = some (k, p)) : At ts i k p := by
  rw [List.getElem?_map] at h
  cases e : ts[i]? with
  | none =>
    rw [e] at h
    cases h
  | some t =>
    rw [e] at h
    obtain ⟨k', p', pos⟩ := t
    have := Option.some.inj h
    have h1 : k' = k := congrArg Prod.fst this
    have h2 : p' = p := congrArg Prod.snd this
    exact ⟨pos, by rw [e, h1, h2]⟩
theorem toks_kp (z : Str) : (toks z).map kp = kt (tl z) ++ [tk "END" ""] := by
  unfold toks
  rw [List.map_append]
  rfl
theorem stop_sign {c : Nat} {r : List Nat} (h : alnum c = false) : Stop (c :: r) := fun c' s e => by
  rw [← (List.cons.inj e).1]
  exact h
structure WdOk (x : Str) : Prop where
  ok : (tl x ≠ [] ∧ (tl x).all alnum = true) ∨ ∃ c, tl x = [c] ∧ alnum c = false ∧ blank c = false
  len : x.length ≤ 20
theorem wd_kt {x : Str} (h : WdOk x) {rest : List Nat} (hs : Stop rest) : kt (tl x ++ rest) = tk (kindOf x) x :: kt rest := by
  rcases h.ok with ⟨h0, h1⟩ | ⟨c, e, h1, h2⟩
  · exact kt_run h0 h1 hs
  · have ex : (⟨#[c]⟩ : Str) = x := ext_tl e.symm
    rw [e, List.cons_append, List.nil_append, kt_sign h1 h2, ex]
theorem wds_kt : ∀ (ws : List Str) (rest : List Nat), (∀ v ∈ ws, WdOk v) → Stop rest → kt (joinL [32] (ws.map tl) ++ rest) = ws.map (fun v => tk (kindOf v) v) ++ kt rest
  | [], rest, _, _ => rfl
  | [v], rest, h, hs => wd_kt (h v List.mem_cons_self) hs
  | v :: u :: r, rest, h, hs => by
    show kt (tl v ++ ([32] ++ joinL [32] (tl u :: r.map tl)) ++ rest) = _
    rw [List.append_assoc]
    show kt (tl v ++ (32 :: (joinL [32] ((u :: r).map tl) ++ rest))) = _
    rw [wd_kt (h v List.mem_cons_self) (stop_sign (by decide +kernel)), kt_space, wds_kt (u :: r) rest (fun x hx => h x (List.mem_cons_of_mem _ hx)) hs]
    rfl
theorem join_toks {ws : List Str} (h : ∀ v ∈ ws, WdOk v) : (toks (Txt.join (Str.ofString " ") ws)).map kp = ws.map (fun v => tk (kindOf v) v) ++ [tk "END" ""] := by
  rw [toks_kp, join_eq, tl_join, show tl (Str.ofString " ") = [32] from by decide +kernel]
  have := wds_kt ws [] h (fun c s e => by cases e)
  rw [List.append_nil] at this
  rw [this, show kt [] = [] from rfl, List.append_nil]
theorem ws_of {ts : List Tok3} {ws : List Str} {post : List (Str × Str)} (h : ts.map kp = ws.map (fun v => tk (kindOf v) v) ++ post) : Ws ts 0 ws := fun j x e => by
  rw [Nat.zero_add]
  apply at_kp
  rw [h, List.getElem?_append_left (by rw [List.length_map]; exact (List.getElem?_eq_some_iff.mp e).1), List.getElem?_map, e]
  rfl
theorem end_of {ts : List Tok3} {ws : List Str} (h : ts.map kp = ws.map (fun v => tk (kindOf v) v) ++ [tk "END" ""]) : At ts ws.length "END" "" := by
  apply at_kp
  rw [h, List.getElem?_append_right (by rw [List.length_map]; exact Nat.le_refl _), List.length_map, Nat.sub_self]
  rfl
theorem joinL_len {m : Nat} : ∀ (xs : List (List Nat)), (∀ x ∈ xs, x.length ≤ m) → (joinL [32] xs).length ≤ xs.length * (m + 1)
  | [], _ => Nat.zero_le _
  | [x], h => by
    have := h x List.mem_cons_self
    show x.length ≤ 1 * (m + 1)
    omega
  | x :: y :: r, h => by
    have h1 := joinL_len (y :: r) fun z hz => h z (List.mem_cons_of_mem _ hz)
    have h2 := h x List.mem_cons_self
    show (x ++ ([32] ++ joinL [32] (y :: r))).length ≤ _
    rw [List.length_append, List.length_append, List.length_cons (a := x), Nat.add_mul]
    show x.length + (1 + _) ≤ _
    omega
theorem join_len {ws : List Str} (h : ∀ v ∈ ws, WdOk v) : (Txt.join (Str.ofString " ") ws).length ≤ ws.length * 21 := by
  rw [len_tl, join_eq, tl_join, show tl (Str.ofString " ") = [32] from by decide +kernel]
  have := joinL_len (m := 20) (ws.map tl) fun x hx => by
    obtain ⟨v, hv, rfl⟩ := List.mem_map.mp hx
    rw [← len_tl]
    exact (h v hv).len
  rw [List.length_map] at this
  exact this
theorem wds_sum : ∀ {ws : List Str}, (∀ v ∈ ws, WdOk v) → (ws.map fun x => x.length).sum ≤ ws.length * 20
  | [], _ => Nat.zero_le _
  | v :: r, h => by
    have h1 := wds_sum (ws := r) fun x hx => h x (List.mem_cons_of_mem _ hx)
    have h2 := (h v List.mem_cons_self).len
    rw [List.map_cons, List.sum_cons, List.length_cons, Nat.add_mul]
    omega
theorem ok_br {b : Bool} {ws : List Str} (h : ∀ v ∈ ws, WdOk v) : ∀ v ∈ br b ws, WdOk v := fun v hv => by
  unfold br at hv
  by_cases hb : b = true
  · rw [if_pos hb] at hv
    rcases List.mem_cons.mp hv with rfl | hv
    · exact ⟨.inr ⟨40, by decide +kernel, by decide +kernel, by decide +kernel⟩, by decide +kernel⟩
    rcases List.mem_append.mp hv with hv | hv
    · exact h v hv
    · obtain rfl : v = ")" := by simpa using hv
      exact ⟨.inr ⟨41, by decide +kernel, by decide +kernel, by decide +kernel⟩, by decide +kernel⟩
  · rw [if_neg hb] at hv
    exact h v hv
theorem ok_lit {x : Str} (h : (decide (tl x ≠ []) && (tl x).all alnum && decide (x.length ≤ 20)) = true) : WdOk x := by
  rw [Bool.and_eq_true, Bool.and_eq_true] at h
  exact ⟨.inl ⟨of_decide_eq_true h.1.1, h.1.2⟩, of_decide_eq_true h.2⟩
theorem NameOk.wd {x : Str} (h : NameOk x) : WdOk x := ⟨.inl ⟨h.ne, h.run⟩, h.len⟩
theorem num_wd {n : Nat} (h : (n : Int) < 1000000000000) : WdOk (numT (n : Int)) :=
  ⟨.inl ⟨by rw [numT_tl]; exact numL_ne n, by rw [numT_tl]; exact num_run n⟩, Nat.le_trans (num_good h).len (by decide)⟩
theorem ans_wd {x : Str} (h : inV (.str x) ans = true) : WdOk x := by
  have h : (ans.any fun y => eqV y (.str x)) = true := h
  obtain ⟨y, hy, e⟩ := List.any_eq_true.mp h
  have hx : ∀ z : Str, eqV (.str z) (.str x) = true → x = z := fun z e => (eq_of_beq (show (z == x) = true from e)).symm
  rcases List.mem_cons.mp hy with rfl | hy
  · rw [hx _ e]; exact ok_lit (by decide +kernel)
  rcases List.mem_cons.mp hy with rfl | hy
  · rw [hx _ e]; exact ok_lit (by decide +kernel)
  rcases List.mem_cons.mp hy with rfl | hy
  · rw [hx _ e]; exact ok_lit (by decide +kernel)
  cases hy
theorem wds_ok : ∀ (fm : Fm) (r : Nat), OkF fm → ∀ v ∈ wds fm r, WdOk v
  | .any, _, _, v, hv => by
    obtain rfl : v = "any" := by simpa [wds] using hv
    exact ok_lit (by decide +kernel)
  | .place n, _, ok, v, hv => by
    rcases List.mem_cons.mp hv with rfl | hv
    · exact ok_lit (by decide +kernel)
    · obtain rfl : v = numT (n : Int) := by simpa using hv
      exact num_wd ok
  | .word f x, _, ok, v, hv => by
    rcases List.mem_cons.mp hv with rfl | hv
    · cases f <;> exact ok_lit (by decide +kernel)
    · obtain rfl : v = x := by simpa using hv
      cases f with
      | vd => exact ans_wd ok
      | fn => exact NameOk.wd ok
      | kd => exact NameOk.wd ok
      | ch => exact NameOk.wd ok
  | .no x, _, ok, v, hv => by
    rcases List.mem_cons.mp hv with rfl | hv
    · exact ok_lit (by decide +kernel)
    · exact wds_ok x 2 ok v hv
  | .and x y, r, ok, v, hv => ok_br (fun v hv => by
    rcases List.mem_append.mp hv with h | h
    · exact wds_ok x 1 ok.1 v h
    · rcases List.mem_cons.mp h with rfl | h
      · exact ok_lit (by decide +kernel)
      · exact wds_ok y 2 ok.2 v h) v hv
  | .or x y, r, ok, v, hv => ok_br (fun v hv => by
    rcases List.mem_append.mp hv with h | h
    · exact wds_ok x 0 ok.1 v h
    · rcases List.mem_cons.mp h with rfl | h
      · exact ok_lit (by decide +kernel)
      · exact wds_ok y 1 ok.2 v h) v hv
theorem br_len (b : Bool) (ws : List Str) : (br b ws).length ≤ ws.length + 2 := by
  unfold br
  split
  · rw [List.length_cons, List.length_append]
    exact Nat.le_refl _
  · omega
theorem wds_len : ∀ (fm : Fm) (r : Nat), (wds fm r).length + 3 ≤ 6 * 2 ^ fm.dep
  | .any, _ => by show 1 + 3 ≤ 6 * 2 ^ 0; decide
  | .place _, _ => by show 2 + 3 ≤ 6 * 2 ^ 0; decide
  | .word _ _, _ => by show 2 + 3 ≤ 6 * 2 ^ 0; decide
  | .no x, _ => by
    have := wds_len x 2
    show (wds x 2).length + 1 + 3 ≤ 6 * 2 ^ (x.dep + 1)
    rw [Nat.pow_succ]
    have : 1 ≤ 2 ^ x.dep := Nat.one_le_two_pow
    omega
  | .and x y, r => by
    have h1 := wds_len x 1
    have h2 := wds_len y 2
    have h3 := br_len (decide (1 < r)) (wds x 1 ++ ("and" : Str) :: wds y 2)
    rw [List.length_append, List.length_cons] at h3
    have h4 : 2 ^ x.dep ≤ 2 ^ max x.dep y.dep := Nat.pow_le_pow_right (by decide) (Nat.le_max_left _ _)
    have h5 : 2 ^ y.dep ≤ 2 ^ max x.dep y.dep := Nat.pow_le_pow_right (by decide) (Nat.le_max_right _ _)
    show (br _ _).length + 3 ≤ 6 * 2 ^ (max x.dep y.dep + 1)
    rw [Nat.pow_succ]
    omega
  | .or x y, r => by
    have h1 := wds_len x 0
    have h2 := wds_len y 1
    have h3 := br_len (decide (0 < r)) (wds x 0 ++ ("or" : Str) :: wds y 1)
    rw [List.length_append, List.length_cons] at h3
    have h4 : 2 ^ x.dep ≤ 2 ^ max x.dep y.dep := Nat.pow_le_pow_right (by decide) (Nat.le_max_left _ _)
    have h5 : 2 ^ y.dep ≤ 2 ^ max x.dep y.dep := Nat.pow_le_pow_right (by decide) (Nat.le_max_right _ _)
    show (br _ _).length + 3 ≤ 6 * 2 ^ (max x.dep y.dep + 1)
    rw [Nat.pow_succ]
    omega
/-! ### rows -/
structure Rw where
  fn : Str
  pl : Int
  kd : Str
  vd : Str
  cs : List Str
def RowAt (H : Hp) (r : Addr) (R : Rw) : Prop := ∃ t, H r = some (.tup [.str R.fn, .int R.pl, .str R.kd, .str R.vd, .ref t]) ∧ H t = some (.tup (R.cs.map V.str))
theorem RowAt.same {H H' : Hp} (s : Same H H') {r : Addr} {R : Rw} (h : RowAt H r R) : RowAt H' r R := by
  obtain ⟨t, a, b⟩ := h
  exact ⟨t, s _ _ a, s _ _ b⟩
def holds (R : Rw) : Fm → Bool
  | .any => true
  | .place n => decide (V.int R.pl = V.int (n : Nat))
  | .word .fn x => decide (V.str R.fn = V.str x)
  | .word .kd x => decide (V.str R.kd = V.str x)
  | .word .vd x => decide (V.str R.vd = V.str x)
  | .word .ch x => inV (.str x) (R.cs.map V.str)
  | .no x => !holds R x
  | .and x y => holds R x && holds R y
  | .or x y => holds R x || holds R y
theorem flat_strs (ns : List Str) : (ns.map V.str).all flatV = true := by
  rw [List.all_map, List.all_eq_true]
  intro x _
  rfl
theorem CoAt.ref {C : Addr} {H : Hp} {fm : Fm} {v : V} (h : CoAt C H fm v) : ∃ c dx p, v = .ref c ∧ H c = some (.ins C dx [("_parts", .ref p)]) := by
  cases fm with
  | any => obtain ⟨c, dx, p, e, h1, _⟩ := h; exact ⟨c, dx, p, e, h1⟩
  | place n => obtain ⟨c, dx, p, e, h1, _⟩ := h; exact ⟨c, dx, p, e, h1⟩
  | word f x => obtain ⟨c, dx, p, e, h1, _⟩ := h; exact ⟨c, dx, p, e, h1⟩
  | no x => obtain ⟨c, dx, p, u, e, h1, _⟩ := h; exact ⟨c, dx, p, e, h1⟩
  | and x y => obtain ⟨c, dx, p, u, u', e, h1, _⟩ := h; exact ⟨c, dx, p, e, h1⟩
  | or x y => obtain ⟨c, dx, p, u, u', e, h1, _⟩ := h; exact ⟨c, dx, p, e, h1⟩
/-- the law's forms, tuples in tuples -/
def FmAt (H : Hp) : Fm → V → Prop
  | .any, v => ∃ p, v = .ref p ∧ H p = some (.tup [.str "any"])
  | .place n, v => ∃ p, v = .ref p ∧ H p = some (.tup [.str "place", .int (n : Nat)])
  | .word f x, v => ∃ p, v = .ref p ∧ H p = some (.tup [.str (fdS f), .str x])
  | .no x, v => ∃ p u, v = .ref p ∧ H p = some (.tup [.str "not", u]) ∧ FmAt H x u
  | .and x y, v => ∃ p u1 u2, v = .ref p ∧ H p = some (.tup [.str "and", u1, u2]) ∧ FmAt H x u1 ∧ FmAt H y u2
  | .or x y, v => ∃ p u1 u2, v = .ref p ∧ H p = some (.tup [.str "or", u1, u2]) ∧ FmAt H x u1 ∧ FmAt H y u2
theorem FmAt.imp {H H' : Hp} (k1 : ∀ b xs, H b = some (.tup xs) → H' b = some (.tup xs)) : ∀ {fm : Fm} {v : V}, FmAt H fm v → FmAt H' fm v
  | .any, _, ⟨p, e, h2⟩ => ⟨p, e, k1 _ _ h2⟩
  | .place _, _, ⟨p, e, h2⟩ => ⟨p, e, k1 _ _ h2⟩
  | .word _ _, _, ⟨p, e, h2⟩ => ⟨p, e, k1 _ _ h2⟩
  | .no _, _, ⟨p, u, e, h2, h3⟩ => ⟨p, u, e, k1 _ _ h2, FmAt.imp k1 h3⟩
  | .and _ _, _, ⟨p, u1, u2, e, h2, h3, h4⟩ => ⟨p, u1, u2, e, k1 _ _ h2, FmAt.imp k1 h3, FmAt.imp k1 h4⟩
  | .or _ _, _, ⟨p, u1, u2, e, h2, h3, h4⟩ => ⟨p, u1, u2, e, k1 _ _ h2, FmAt.imp k1 h3, FmAt.imp k1 h4⟩
theorem FmAt.same {H H' : Hp} (s : Same H H') {fm : Fm} {v : V} (h : FmAt H fm v) : FmAt H' fm v := h.imp fun _ _ e => s _ _ e
def wd0 : Fm → Str
  | .any => "any"
  | .place _ => "place"
  | .word f _ => fdS f
  | .no _ => "not"
  | .and _ _ => "and"
  | .or _ _ => "or"
theorem FmAt.tup {H : Hp} {fm : Fm} {v : V} (h : FmAt H fm v) : ∃ p r, v = .ref p ∧ H p = some (.tup (.str (wd0 fm) :: r)) := by
  cases fm with
  | any => obtain ⟨p, e, h1⟩ := h; exact ⟨p, _, e, h1⟩
  | place n => obtain ⟨p, e, h1⟩ := h; exact ⟨p, _, e, h1⟩
  | word f x => obtain ⟨p, e, h1⟩ := h; exact ⟨p, _, e, h1⟩
  | no x => obtain ⟨p, u, e, h1, _⟩ := h; exact ⟨p, _, e, h1⟩
  | and x y => obtain ⟨p, u, u', e, h1, _⟩ := h; exact ⟨p, _, e, h1⟩
  | or x y => obtain ⟨p, u, u', e, h1, _⟩ := h; exact ⟨p, _, e, h1⟩
end K34
namespace K34
open PySem PySem.Spec PyProof.Rows L2 TL
def spQT (C : Addr) : Sp := fun vs H Q _ => ∃ z : Str, vs = [.str z] ∧ Big z ∧ ∀ H' o L, Same H H' → H o = none → TkAt C H' o L (toks z) 0 → Q (.ref o) H'
def spRC (a : Ads) : Sp := fun vs H Q _ => ∃ (z : Str) (fm : Fm), vs = [.str z] ∧ Big z ∧ Ws (toks z) 0 (wds fm 0) ∧ OkF fm ∧ fm.dep < 5 ∧ At (toks z) (wds fm 0).length "END" "" ∧ ∀ H' c, Same H H' → CoAt a.c_Condition H' fm (.ref c) → Q (.ref c) H'
def spCall (a : Ads) (D : Nat) : Sp := fun vs H Q _ => ∃ (c r : Addr) (fm : Fm) (R : Rw), vs = [.ref c, .ref r] ∧ CoAt a.c_Condition H fm (.ref c) ∧ fm.dep < D ∧ RowAt H r R ∧ Q (.bl (holds R fm)) H
def spHolds (D : Nat) : Sp := fun vs H Q _ => ∃ (v : V) (r : Addr) (fm : Fm) (R : Rw), vs = [v, .ref r] ∧ FmAt H fm v ∧ fm.dep < D ∧ RowAt H r R ∧ ∀ H', Same H H' → Q (.bl (holds R fm)) H'
def spRank : Sp := fun vs H Q _ => ∃ (v : V) (fm : Fm), vs = [v] ∧ FmAt H fm v ∧ ∀ H', Same H H' → Q (.int (rk fm : Nat)) H'
def spWords (D : Nat) : Sp := fun vs H Q _ => ∃ (v : V) (r : Nat) (fm : Fm), vs = [v, .int (r : Nat), .bl false] ∧ FmAt H fm v ∧ fm.dep < D ∧ fm.dep ≤ 10 ∧ OkF fm ∧ r ≤ 2 ∧ ∀ H' q, Same H H' → H q = none → H' q = some (.lst ((wds fm r).map V.str)) → Q (.ref q) H'
theorem wds_small {fm : Fm} {r : Nat} (h : fm.dep ≤ 10) : (wds fm r).length ≤ 6200 := by
  have h1 := wds_len fm r
  have h2 : 2 ^ fm.dep ≤ 2 ^ 10 := Nat.pow_le_pow_right (by decide) h
  have h3 : (2 : Nat) ^ 10 = 1024 := by decide
  omega
theorem log_ok {i : Int} (h0 : 0 ≤ i) (h : i < 1000000000000000000) : i.natAbs.log2 < 1920 := by
  by_cases hz : i.natAbs = 0
  · rw [hz]
    decide
  · have e : (2 : Nat) ^ 60 = 1152921504606846976 := by decide
    have := (Nat.log2_lt (n := i.natAbs) (k := 60) hz).mpr (by rw [e]; omega)
    omega
theorem ne_eqv {x y : Str} (h : x ≠ y) : eqV (.str x) (.str y) = false := by
  unfold eqV
  exact beq_eq_false_iff_ne.mpr h
theorem iteN {A B : Prop} {b : Bool} (e : b = false) (h : B) : if b = true then A else B := by
  rw [e]
  exact h
section
variable {P : Program} {w : World} {K : PySem.W.Frag} {mg : Str → Option Value} {base : Heap} {a : Ads}
theorem sc_question_tokens : FnScope ["text"] ["text"] (defScope s_question_tokens) := ⟨rfl, rfl, rfl, by decide +kernel, rfl, by decide +kernel, by decide +kernel⟩
theorem ok_question_tokens (T : Txt w K mg a) : FnOk P w K mg base CX0 6 a.f_question_tokens a.f_question_tokens_d ["text"] (spQT a.c_Tokens) := by
  refine T.F_question_tokens.ok sc_question_tokens (fun vs H Q E h => ?_) (fun cdv A outer s H vs Q E hr h => ?_)
  · obtain ⟨z, rfl, _⟩ := h
    rfl
  obtain ⟨z, rfl, hz, q⟩ := h
  refine ⟨_, (pss_cons (ps_if (pt_not (pt_val (pe_callB call_isi (by rfl) T.isinstance (by decide +kernel) (pa_cons (pv 0) (pa_cons (pe_bltn (v := .ty "str") (by rfl) T.str (by decide +kernel) rfl) pa_nil)))))
      (pss_one ps_never)
      pss_nil)
    (pss_one (ps_ret (pe_make T.mk_Tokens (ok_Tokens___init__ T) (hr.mono (by decide)) (by rfl) T.mg_Tokens T.b_Tokens___init__ .nil pass0 (pa_cons (pv 0) pa_nil))))), ?_⟩
  refine ⟨_, rfl, .str z, .ty "str", .type "str", .type "str", true, rfl, .ty "str", .base (.str z), kit_ty (by decide +kernel), _, rfl, iteF ?_⟩
  refine ⟨_, rfl, ?_⟩
  intro x dx nx nd hne
  have s1 : Same H (upd (upd H dx (.own x)) x (.ins a.c_Tokens dx [])) := (same_upd nd).trans (same_upd (by rw [upd_ne (Ne.symm hne)]; exact nx))
  exact ⟨x, dx, z, rfl, upd_same, hz, fun H2 L t nL k => ⟨rfl, q H2 x L (fun b o e => k b o (s1 _ _ e) (ne_of_none e nx)) nx t⟩⟩
theorem sc_read_condition : FnScope ["text", "tokens", "error", "found"] ["text"] (defScope s_read_condition) := ⟨rfl, rfl, rfl, by decide +kernel, rfl, by decide +kernel, by decide +kernel⟩
theorem ok_read_condition (T : Txt w K mg a) : FnOk P w K mg base CX0 26 a.f_read_condition a.f_read_condition_d ["text"] (spRC a) := by
  refine T.F_read_condition.ok sc_read_condition (fun vs H Q E h => ?_) (fun cdv A outer s H vs Q E hr h => ?_)
  · obtain ⟨z, fm, rfl, _⟩ := h
    rfl
  obtain ⟨z, fm, rfl, hz, hW, ok, hd, hE, q⟩ := h
  have F2 := (ok_readers (P := P) (base := base) T 5).2
  refine ⟨_, (pss_cons (ps_set (i := 1) sc_read_condition.nd rfl (Or.inl rfl) (pe_call (ok_question_tokens T) (hr.mono (by decide)) (by rfl) T.g_question_tokens T.F_question_tokens.kp T.b_question_tokens .nil pass0 (pa_cons (pv 0) pa_nil)))
    (pss_cons (ps_try_thru0
      (pss_cons (ps_set (i := 3) sc_read_condition.nd rfl (Or.inl rfl) (pe_call F2 (hr.mono (by decide)) (by rfl) T.g_read_or T.F_read_or.kp T.b_read_or .nil pass0 (pa_cons (pv 1) (pa_cons pe_int pa_nil))))
      (pss_one (ps_expr (pe_meth (pv 1) T.cl_Tokens T.m_Tokens_take (ok_Tokens_take T) (hr.mono (by decide)) T.b_Tokens_take .nil pass0 (pa_cons (pe_gs rfl T.g_END) pa_nil))))))
    (pss_one (ps_ret (pv 3))))), ?_⟩
  refine ⟨_, rfl, z, rfl, hz, fun H1 o L s1 no t1 => ?_⟩
  have hw : 0 + wt fm ≤ 25 := by
    have := wt_le fm
    omega
  obtain ⟨pos, hE⟩ := hE
  refine ⟨_, rfl, o, L, toks z, 0, 0, fm, rfl, t1, hW, ok, hd, hw, fun k h => ?_, fun H2 c e2 nc t2 co2 => ?_⟩
  · rw [Nat.zero_add]
    have hk : ("" : Str) ≠ k := by
      rcases List.mem_cons.mp h with rfl | h
      · decide +kernel
      · obtain rfl : k = "or" := by simpa using h
        decide +kernel
    exact ⟨_, hE, hk⟩
  rw [Nat.zero_add] at t2
  obtain ⟨dx2, ho2⟩ := t2.ob
  refine ⟨_, rfl, o, dx2, _, rfl, ho2, tf_no _ _ (by decide +kernel) (by decide +kernel), o, L, _, _, _, rfl, t2, hE, fun H3 t3 b3 => ?_⟩
  refine ⟨_, rfl, q H3 c (fun b x e => (e2.trans (Ext.but b3)) b x (s1 _ _ e) (ne_of_none e no)) (co2.ext t2 (Ext.but b3))⟩
/-! ### a condition is called -/
theorem sc_Condition___call__ : FnScope ["self", "row", "parts"] ["self", "row"] (defScope s_Condition___call__) := ⟨rfl, rfl, rfl, by decide +kernel, rfl, by decide +kernel, by decide +kernel⟩
theorem ok_call (T : Txt w K mg a) : ∀ D : Nat, FnOk P w K mg base CX0 D a.f_Condition___call__ a.f_Condition___call___d ["self", "row"] (spCall a D)
  | 0 => ⟨fun vs H Q E h => by obtain ⟨c, r, fm, R, _, _, h, _⟩ := h; exact absurd h (Nat.not_lt_zero _), fun A outer s H args us vs Q E _ _ _ _ h => by obtain ⟨c, r, fm, R, _, _, h, _⟩ := h; exact absurd h (Nat.not_lt_zero _)⟩
  | D + 1 => by
    have F1 := ok_call T D
    have CO : StX.CallO K a.c_Condition a.f_Condition___call__ := ⟨T.m_Condition___call__.at_, T.m_Condition___call__.fn, T.fi⟩
    have FR := F1.raw T.b_Condition___call__ .nil
    refine T.F_Condition___call__.ok sc_Condition___call__ (fun vs H Q E h => ?_) (fun cdv A outer s H vs Q E hr h => ?_)
    · obtain ⟨c, r, fm, R, rfl, _⟩ := h
      rfl
    obtain ⟨c, r, fm, R, rfl, hC, hd, hR, q⟩ := h
    refine ⟨_, (pss_cons (ps_set (i := 2) sc_Condition___call__.nd rfl (Or.inl rfl) (pe_fld (pv 0) rfl))
    (pss_cons (ps_if (pt_cmpR op_eq (pe_ix ix_tup (pv 2) pe_int (fun _ _ => rfl)) pe_str (nomark _))
      (pss_one (ps_ret (pe_and (StX.pe_callO (pe_ix ix_tup (pv 2) pe_int (fun _ _ => rfl)) CO FR (hr.mono (by omega)) pass0 (pa_cons (pv 1) pa_nil)) (pe_one (StX.pe_callO (pe_ix ix_tup (pv 2) pe_int (fun _ _ => rfl)) CO FR (hr.mono (by omega)) pass0 (pa_cons (pv 1) pa_nil))))))
      pss_nil)
    (pss_cons (ps_if (pt_cmpR op_eq (pe_ix ix_tup (pv 2) pe_int (fun _ _ => rfl)) pe_str (nomark _))
      (pss_one (ps_ret (pe_or (StX.pe_callO (pe_ix ix_tup (pv 2) pe_int (fun _ _ => rfl)) CO FR (hr.mono (by omega)) pass0 (pa_cons (pv 1) pa_nil)) (pe_one (StX.pe_callO (pe_ix ix_tup (pv 2) pe_int (fun _ _ => rfl)) CO FR (hr.mono (by omega)) pass0 (pa_cons (pv 1) pa_nil))))))
      pss_nil)
    (pss_cons (ps_if (pt_cmpR op_eq (pe_ix ix_tup (pv 2) pe_int (fun _ _ => rfl)) pe_str (nomark _))
      (pss_one (ps_ret (pe_not (StX.pe_callO (pe_ix ix_tup (pv 2) pe_int (fun _ _ => rfl)) CO FR (hr.mono (by omega)) pass0 (pa_cons (pv 1) pa_nil)))))
      pss_nil)
    (pss_cons (ps_if (pt_cmpR op_eq (pe_ix ix_tup (pv 2) pe_int (fun _ _ => rfl)) pe_str (nomark _))
      (pss_one (ps_ret (pe_cmpR op_in_seq (pe_ix ix_tup (pv 2) pe_int (fun _ _ => rfl)) (pe_ix ix_tup (pv 1) pe_int (fun _ _ => rfl)) (by rfl))))
      pss_nil)
    (pss_one (ps_ret (pe_or (pe_cmpR op_eq (pe_ix ix_tup (pv 2) pe_int (fun _ _ => rfl)) pe_str (nomark _)) (pe_one (pe_cmpR op_eq (pe_ix ix_tup (pv 1) (pe_ix ix_kdict (pe_gr rfl T.g_PARTS_OF_ROWS) (pe_ix ix_tup (pv 2) pe_int (fun _ _ => rfl)) (fun _ _ => rfl)) (fun _ _ => rfl)) (pe_ix ix_tup (pv 2) pe_int (fun _ _ => rfl)) (nomark _))))))))))), ?_⟩
    obtain ⟨t, hr1, hr2⟩ := id hR
    cases fm with
    | any =>
      obtain ⟨c, dx, p, e, hc, hp⟩ := hC
      cases e
      refine ⟨_, rfl, c, _, dx, _, _, rfl, hc, T.cl_Condition, T.n_Condition__parts, rfl, ?_⟩
      refine ⟨_, rfl, p, _, _, _, rfl, rfl, SqT.of hp, atI_nat (j := 0) rfl, rfl, _, rfl, ite2 (no_b (dn (x := "any") (y := "and") (by decide +kernel))) (fun _ => ?_)⟩
      refine ⟨_, rfl, p, _, _, _, rfl, rfl, SqT.of hp, atI_nat (j := 0) rfl, rfl, _, rfl, ite2 (no_b (dn (x := "any") (y := "or") (by decide +kernel))) (fun _ => ?_)⟩
      refine ⟨_, rfl, p, _, _, _, rfl, rfl, SqT.of hp, atI_nat (j := 0) rfl, rfl, _, rfl, ite2 (no_b (dn (x := "any") (y := "not") (by decide +kernel))) (fun _ => ?_)⟩
      refine ⟨_, rfl, p, _, _, _, rfl, rfl, SqT.of hp, atI_nat (j := 0) rfl, rfl, _, rfl, ite2 (no_b (dn (x := "any") (y := "changes") (by decide +kernel))) (fun _ => ?_)⟩
      exact ⟨_, rfl, p, _, _, _, rfl, rfl, SqT.of hp, atI_nat (j := 0) rfl, rfl, _, rfl, iteT q⟩
    | place n =>
      obtain ⟨c, dx, p, e, hc, hp⟩ := hC
      cases e
      refine ⟨_, rfl, c, _, dx, _, _, rfl, hc, T.cl_Condition, T.n_Condition__parts, rfl, ?_⟩
      refine ⟨_, rfl, p, _, _, _, rfl, rfl, SqT.of hp, atI_nat (j := 0) rfl, rfl, _, rfl, ite2 (no_b (dn (x := "place") (y := "and") (by decide +kernel))) (fun _ => ?_)⟩
      refine ⟨_, rfl, p, _, _, _, rfl, rfl, SqT.of hp, atI_nat (j := 0) rfl, rfl, _, rfl, ite2 (no_b (dn (x := "place") (y := "or") (by decide +kernel))) (fun _ => ?_)⟩
      refine ⟨_, rfl, p, _, _, _, rfl, rfl, SqT.of hp, atI_nat (j := 0) rfl, rfl, _, rfl, ite2 (no_b (dn (x := "place") (y := "not") (by decide +kernel))) (fun _ => ?_)⟩
      refine ⟨_, rfl, p, _, _, _, rfl, rfl, SqT.of hp, atI_nat (j := 0) rfl, rfl, _, rfl, ite2 (no_b (dn (x := "place") (y := "changes") (by decide +kernel))) (fun _ => ?_)⟩
      refine ⟨_, rfl, p, _, _, _, rfl, rfl, SqT.of hp, atI_nat (j := 0) rfl, rfl, _, rfl, iteN (dn (x := "place") (y := "any") (by decide +kernel)) ?_⟩
      exact ⟨_, rfl, _, rfl, p, _, _, _, rfl, rfl, SqT.of hp, atI_nat (j := 0) rfl, a.t_PARTS_OF_ROWS, _, _, rfl, rfl, T.kd_PARTS_OF_ROWS_place, r, _, _, _, rfl, rfl, SqT.of hr1, atI_nat (j := 1) rfl, _, rfl, p, _, _, _, rfl, rfl, SqT.of hp, atI_nat (j := 1) rfl, rfl, q⟩
    | word f x =>
      obtain ⟨c, dx, p, e, hc, hp⟩ := hC
      cases e
      refine ⟨_, rfl, c, _, dx, _, _, rfl, hc, T.cl_Condition, T.n_Condition__parts, rfl, ?_⟩
      refine ⟨_, rfl, p, _, _, _, rfl, rfl, SqT.of hp, atI_nat (j := 0) rfl, rfl, _, rfl, ite2 (no_b (dn (x := fdS f) (y := "and") (by cases f <;> decide +kernel))) (fun _ => ?_)⟩
      refine ⟨_, rfl, p, _, _, _, rfl, rfl, SqT.of hp, atI_nat (j := 0) rfl, rfl, _, rfl, ite2 (no_b (dn (x := fdS f) (y := "or") (by cases f <;> decide +kernel))) (fun _ => ?_)⟩
      refine ⟨_, rfl, p, _, _, _, rfl, rfl, SqT.of hp, atI_nat (j := 0) rfl, rfl, _, rfl, ite2 (no_b (dn (x := fdS f) (y := "not") (by cases f <;> decide +kernel))) (fun _ => ?_)⟩
      cases f with
      | fn =>
        refine ⟨_, rfl, p, _, _, _, rfl, rfl, SqT.of hp, atI_nat (j := 0) rfl, rfl, _, rfl, ite2 (no_b (dn (x := "function") (y := "changes") (by decide +kernel))) (fun _ => ?_)⟩
        refine ⟨_, rfl, p, _, _, _, rfl, rfl, SqT.of hp, atI_nat (j := 0) rfl, rfl, _, rfl, iteN (dn (x := "function") (y := "any") (by decide +kernel)) ?_⟩
        exact ⟨_, rfl, _, rfl, p, _, _, _, rfl, rfl, SqT.of hp, atI_nat (j := 0) rfl, a.t_PARTS_OF_ROWS, _, _, rfl, rfl, T.kd_PARTS_OF_ROWS_function, r, _, _, _, rfl, rfl, SqT.of hr1, atI_nat (j := 0) rfl, _, rfl, p, _, _, _, rfl, rfl, SqT.of hp, atI_nat (j := 1) rfl, rfl, q⟩
      | kd =>
        refine ⟨_, rfl, p, _, _, _, rfl, rfl, SqT.of hp, atI_nat (j := 0) rfl, rfl, _, rfl, ite2 (no_b (dn (x := "kind") (y := "changes") (by decide +kernel))) (fun _ => ?_)⟩
        refine ⟨_, rfl, p, _, _, _, rfl, rfl, SqT.of hp, atI_nat (j := 0) rfl, rfl, _, rfl, iteN (dn (x := "kind") (y := "any") (by decide +kernel)) ?_⟩
        exact ⟨_, rfl, _, rfl, p, _, _, _, rfl, rfl, SqT.of hp, atI_nat (j := 0) rfl, a.t_PARTS_OF_ROWS, _, _, rfl, rfl, T.kd_PARTS_OF_ROWS_kind, r, _, _, _, rfl, rfl, SqT.of hr1, atI_nat (j := 2) rfl, _, rfl, p, _, _, _, rfl, rfl, SqT.of hp, atI_nat (j := 1) rfl, rfl, q⟩
      | vd =>
        refine ⟨_, rfl, p, _, _, _, rfl, rfl, SqT.of hp, atI_nat (j := 0) rfl, rfl, _, rfl, ite2 (no_b (dn (x := "verdict") (y := "changes") (by decide +kernel))) (fun _ => ?_)⟩
        refine ⟨_, rfl, p, _, _, _, rfl, rfl, SqT.of hp, atI_nat (j := 0) rfl, rfl, _, rfl, iteN (dn (x := "verdict") (y := "any") (by decide +kernel)) ?_⟩
        exact ⟨_, rfl, _, rfl, p, _, _, _, rfl, rfl, SqT.of hp, atI_nat (j := 0) rfl, a.t_PARTS_OF_ROWS, _, _, rfl, rfl, T.kd_PARTS_OF_ROWS_verdict, r, _, _, _, rfl, rfl, SqT.of hr1, atI_nat (j := 3) rfl, _, rfl, p, _, _, _, rfl, rfl, SqT.of hp, atI_nat (j := 1) rfl, rfl, q⟩
      | ch =>
        refine ⟨_, rfl, p, _, _, _, rfl, rfl, SqT.of hp, atI_nat (j := 0) rfl, rfl, _, rfl, ite2 (fun _ => ?_) (yes_b (decide_eq_true rfl))⟩
        exact ⟨_, rfl, p, _, _, _, rfl, rfl, SqT.of hp, atI_nat (j := 1) rfl, _, rfl, r, _, _, _, rfl, rfl, SqT.of hr1, atI_nat (j := 4) rfl, t, _, rfl, .inr (SqT.of hr2), rfl, flat_strs _, q⟩
    | no x =>
      obtain ⟨c, dx, p, u, e, hc, hp, hx⟩ := hC
      cases e
      obtain ⟨c1, dx1, p1, rfl, hc1⟩ := hx.ref
      have hd1 : x.dep < D := by have d : (Fm.no x).dep = x.dep + 1 := rfl
                                 omega
      refine ⟨_, rfl, c, _, dx, _, _, rfl, hc, T.cl_Condition, T.n_Condition__parts, rfl, ?_⟩
      refine ⟨_, rfl, p, _, _, _, rfl, rfl, SqT.of hp, atI_nat (j := 0) rfl, rfl, _, rfl, ite2 (no_b (dn (x := "not") (y := "and") (by decide +kernel))) (fun _ => ?_)⟩
      refine ⟨_, rfl, p, _, _, _, rfl, rfl, SqT.of hp, atI_nat (j := 0) rfl, rfl, _, rfl, ite2 (no_b (dn (x := "not") (y := "or") (by decide +kernel))) (fun _ => ?_)⟩
      refine ⟨_, rfl, p, _, _, _, rfl, rfl, SqT.of hp, atI_nat (j := 0) rfl, rfl, _, rfl, ite2 (fun _ => ?_) (yes_b (decide_eq_true rfl))⟩
      exact ⟨_, rfl, p, _, _, _, rfl, rfl, SqT.of hp, atI_nat (j := 1) rfl, c1, rfl, _, rfl, .inr ⟨dx1, _, hc1⟩, c1, r, x, R, rfl, hx, hd1, hR, _, rfl, q⟩
    | and x y =>
      obtain ⟨c, dx, p, u1, u2, e, hc, hp, hx, hy⟩ := hC
      cases e
      obtain ⟨c1, dx1, p1, rfl, hc1⟩ := hx.ref
      obtain ⟨c2, dx2, p2, rfl, hc2⟩ := hy.ref
      have hd1 : x.dep < D ∧ y.dep < D := by
        have d : (Fm.and x y).dep = max x.dep y.dep + 1 := rfl
        omega
      refine ⟨_, rfl, c, _, dx, _, _, rfl, hc, T.cl_Condition, T.n_Condition__parts, rfl, ?_⟩
      refine ⟨_, rfl, p, _, _, _, rfl, rfl, SqT.of hp, atI_nat (j := 0) rfl, rfl, _, rfl, ite2 (fun _ => ?_) (yes_b (decide_eq_true rfl))⟩
      refine ⟨_, rfl, p, _, _, _, rfl, rfl, SqT.of hp, atI_nat (j := 1) rfl, c1, rfl, _, rfl, .inr ⟨dx1, _, hc1⟩, c1, r, x, R, rfl, hx, hd1.1, hR, _, rfl, ite2 (fun e => ?_) (fun e => ?_)⟩
      · refine ⟨_, rfl, p, _, _, _, rfl, rfl, SqT.of hp, atI_nat (j := 2) rfl, c2, rfl, _, rfl, .inr ⟨dx2, _, hc2⟩, c2, r, y, R, rfl, hy, hd1.2, hR, ?_⟩
        have q : Q (.bl (holds R x && holds R y)) H := q
        rw [e, Bool.true_and] at q
        exact q
      · have q : Q (.bl (holds R x && holds R y)) H := q
        rw [Bool.eq_false_iff.mpr e, Bool.false_and] at q
        exact q
    | or x y =>
      obtain ⟨c, dx, p, u1, u2, e, hc, hp, hx, hy⟩ := hC
      cases e
      obtain ⟨c1, dx1, p1, rfl, hc1⟩ := hx.ref
      obtain ⟨c2, dx2, p2, rfl, hc2⟩ := hy.ref
      have hd1 : x.dep < D ∧ y.dep < D := by
        have d : (Fm.or x y).dep = max x.dep y.dep + 1 := rfl
        omega
      refine ⟨_, rfl, c, _, dx, _, _, rfl, hc, T.cl_Condition, T.n_Condition__parts, rfl, ?_⟩
      refine ⟨_, rfl, p, _, _, _, rfl, rfl, SqT.of hp, atI_nat (j := 0) rfl, rfl, _, rfl, ite2 (no_b (dn (x := "or") (y := "and") (by decide +kernel))) (fun _ => ?_)⟩
      refine ⟨_, rfl, p, _, _, _, rfl, rfl, SqT.of hp, atI_nat (j := 0) rfl, rfl, _, rfl, ite2 (fun _ => ?_) (yes_b (decide_eq_true rfl))⟩
      refine ⟨_, rfl, p, _, _, _, rfl, rfl, SqT.of hp, atI_nat (j := 1) rfl, c1, rfl, _, rfl, .inr ⟨dx1, _, hc1⟩, c1, r, x, R, rfl, hx, hd1.1, hR, _, rfl, ite2 (fun e => ?_) (fun e => ?_)⟩
      · have q : Q (.bl (holds R x || holds R y)) H := q
        rw [e, Bool.true_or] at q
        exact q
      · refine ⟨_, rfl, p, _, _, _, rfl, rfl, SqT.of hp, atI_nat (j := 2) rfl, c2, rfl, _, rfl, .inr ⟨dx2, _, hc2⟩, c2, r, y, R, rfl, hy, hd1.2, hR, ?_⟩
        have q : Q (.bl (holds R x || holds R y)) H := q
        rw [Bool.eq_false_iff.mpr e, Bool.false_or] at q
        exact q
/-! ### the law's rank, words and answer -/
theorem sc__law_rank : FnScope ["_law_form_here"] ["_law_form_here"] (defScope s__law_rank) := ⟨rfl, rfl, rfl, by decide +kernel, rfl, by decide +kernel, by decide +kernel⟩
theorem ok__law_rank (T : Txt w K mg a) : FnOk P w K mg base CX0 1 a.f__law_rank a.f__law_rank_d ["_law_form_here"] spRank := by
  refine T.F__law_rank.ok sc__law_rank (fun vs H Q E h => ?_) (fun cdv A outer s H vs Q E hr h => ?_)
  · obtain ⟨v, fm, rfl, _⟩ := h
    rfl
  obtain ⟨v, fm, rfl, hF, q⟩ := h
  refine ⟨_, (pss_one (ps_ret (pe_dget2 (hu_of hr) (pe_disp (pps_cons pe_str pe_int (pps_cons pe_str pe_int pps_nil)) rfl rfl (by simp) (by decide)) (pe_ix ix_tup (pv 0) pe_int (fun _ _ => rfl)) pe_int ⟨rfl, rfl, rfl, rfl⟩))), ?_⟩
  obtain ⟨p, r, rfl, hp⟩ := hF.tup
  intro d nd
  have s1 : Same H (upd H d (.dK [])) := same_upd nd
  refine ⟨upd_same, [(Sum.inr (Str.ofString "or"), .int 0), (Sum.inr (Str.ofString "and"), .int 1)], rfl, by decide, ?_⟩
  have s2 : Same H (upd (upd H d (.dK [])) d (.dK (mergeK [] [(Sum.inr (Str.ofString "or"), .int 0), (Sum.inr (Str.ofString "and"), .int 1)]))) := same_mut s1 nd
  refine ⟨d, rfl, .inl ⟨_, .inl upd_same⟩, _, rfl, p, _, _, _, rfl, rfl, SqT.of (s2 _ _ hp), atI_nat (j := 0) rfl, _, DGet.k (k := Sum.inr (wd0 fm)) upd_same, ?_⟩
  have e : (valV (mergeK [] [(Sum.inr (Str.ofString "or"), V.int 0), (Sum.inr (Str.ofString "and"), V.int 1)]) (Sum.inr (wd0 fm) : Key)).getD (.int 2) = .int (rk fm : Nat) := by
    have e0 : ∀ x ∈ ([("or", 0), ("and", 1), ("any", 2), ("not", 2), ("place", 2), ("function", 2), ("kind", 2), ("verdict", 2), ("changes", 2)] : List (Str × Nat)), (valV (mergeK [] [(Sum.inr (Str.ofString "or"), V.int 0), (Sum.inr (Str.ofString "and"), V.int 1)]) (Sum.inr x.1 : Key)).getD (.int 2) = .int (x.2 : Nat) := by decide +kernel
    cases fm with
    | any => exact e0 ("any", 2) (by simp)
    | place n => exact e0 ("place", 2) (by simp)
    | no x => exact e0 ("not", 2) (by simp)
    | and x y => exact e0 ("and", 1) (by simp)
    | or x y => exact e0 ("or", 0) (by simp)
    | word f x =>
      cases f with
      | fn => exact e0 ("function", 2) (by simp)
      | kd => exact e0 ("kind", 2) (by simp)
      | vd => exact e0 ("verdict", 2) (by simp)
      | ch => exact e0 ("changes", 2) (by simp)
  rw [e]
  exact q _ s2
theorem sc__law_holds : FnScope ["_law_form_here", "_law_row"] ["_law_form_here", "_law_row"] (defScope s__law_holds) := ⟨rfl, rfl, rfl, by decide +kernel, rfl, by decide +kernel, by decide +kernel⟩
theorem ok_holds (T : Txt w K mg a) : ∀ D : Nat, FnOk P w K mg base CX0 D a.f__law_holds a.f__law_holds_d ["_law_form_here", "_law_row"] (spHolds D)
  | 0 => ⟨fun vs H Q E h => by obtain ⟨v, r, fm, R, _, _, h, _⟩ := h; exact absurd h (Nat.not_lt_zero _), fun A outer s H args us vs Q E _ _ _ _ h => by obtain ⟨v, r, fm, R, _, _, h, _⟩ := h; exact absurd h (Nat.not_lt_zero _)⟩
  | D + 1 => by
    have F1 := ok_holds T D
    refine T.F__law_holds.ok sc__law_holds (fun vs H Q E h => ?_) (fun cdv A outer s H vs Q E hr h => ?_)
    · obtain ⟨v, r, fm, R, rfl, _⟩ := h
      rfl
    obtain ⟨v, r, fm, R, rfl, hF, hd, hR, q⟩ := h
    refine ⟨_, (pss_cons (ps_if (pt_cmpR op_eq (pe_ix ix_tup (pv 0) pe_int (fun _ _ => rfl)) pe_str (nomark _))
      (pss_one (ps_ret pe_bl))
      pss_nil)
    (pss_cons (ps_if (pt_cmpR op_eq (pe_ix ix_tup (pv 0) pe_int (fun _ _ => rfl)) pe_str (nomark _))
      (pss_one (ps_ret (pe_not (pe_call F1 (hr.mono (by omega)) (by rfl) T.g__law_holds T.F__law_holds.kp T.b__law_holds .nil pass0 (pa_cons (pe_ix ix_tup (pv 0) pe_int (fun _ _ => rfl)) (pa_cons (pv 1) pa_nil))))))
      pss_nil)
    (pss_cons (ps_if (pt_cmpR op_eq (pe_ix ix_tup (pv 0) pe_int (fun _ _ => rfl)) pe_str (nomark _))
      (pss_one (ps_ret (pe_and (pe_call F1 (hr.mono (by omega)) (by rfl) T.g__law_holds T.F__law_holds.kp T.b__law_holds .nil pass0 (pa_cons (pe_ix ix_tup (pv 0) pe_int (fun _ _ => rfl)) (pa_cons (pv 1) pa_nil))) (pe_one (pe_call F1 (hr.mono (by omega)) (by rfl) T.g__law_holds T.F__law_holds.kp T.b__law_holds .nil pass0 (pa_cons (pe_ix ix_tup (pv 0) pe_int (fun _ _ => rfl)) (pa_cons (pv 1) pa_nil)))))))
      pss_nil)
    (pss_cons (ps_if (pt_cmpR op_eq (pe_ix ix_tup (pv 0) pe_int (fun _ _ => rfl)) pe_str (nomark _))
      (pss_one (ps_ret (pe_or (pe_call F1 (hr.mono (by omega)) (by rfl) T.g__law_holds T.F__law_holds.kp T.b__law_holds .nil pass0 (pa_cons (pe_ix ix_tup (pv 0) pe_int (fun _ _ => rfl)) (pa_cons (pv 1) pa_nil))) (pe_one (pe_call F1 (hr.mono (by omega)) (by rfl) T.g__law_holds T.F__law_holds.kp T.b__law_holds .nil pass0 (pa_cons (pe_ix ix_tup (pv 0) pe_int (fun _ _ => rfl)) (pa_cons (pv 1) pa_nil)))))))
      pss_nil)
    (pss_cons (ps_if (pt_cmpR op_eq (pe_ix ix_tup (pv 0) pe_int (fun _ _ => rfl)) pe_str (nomark _))
      (pss_one (ps_ret (pe_cmpR op_in_seq (pe_ix ix_tup (pv 0) pe_int (fun _ _ => rfl)) (pe_ix ix_tup (pv 1) pe_int (fun _ _ => rfl)) (by rfl))))
      pss_nil)
    (pss_one (ps_ret (pe_cmpR op_eq (pe_ix ix_tup (pv 1) (pe_bm PySem.F.plainAttrs_list PySem.F.slot_list_index PySem.F.type_list_index mt_index (pe_lst (pa_cons pe_str (pa_cons pe_str (pa_cons pe_str (pa_cons pe_str pa_nil))))) (pa_cons (pe_ix ix_tup (pv 0) pe_int (fun _ _ => rfl)) pa_nil)) (fun _ _ => rfl)) (pe_ix ix_tup (pv 0) pe_int (fun _ _ => rfl)) (nomark _))))))))), ?_⟩
    obtain ⟨t, hr1, hr2⟩ := id hR
    cases fm with
    | any =>
      obtain ⟨p, rfl, hp⟩ := hF
      refine ⟨_, rfl, p, _, _, _, rfl, rfl, SqT.of hp, atI_nat (j := 0) rfl, rfl, _, rfl, ite2 (fun _ => ?_) (yes_b (decide_eq_true rfl))⟩
      exact q H (Same.refl H)
    | place n =>
      obtain ⟨p, rfl, hp⟩ := hF
      refine ⟨_, rfl, p, _, _, _, rfl, rfl, SqT.of hp, atI_nat (j := 0) rfl, rfl, _, rfl, ite2 (no_b (dn (x := "place") (y := "any") (by decide +kernel))) (fun _ => ?_)⟩
      refine ⟨_, rfl, p, _, _, _, rfl, rfl, SqT.of hp, atI_nat (j := 0) rfl, rfl, _, rfl, ite2 (no_b (dn (x := "place") (y := "not") (by decide +kernel))) (fun _ => ?_)⟩
      refine ⟨_, rfl, p, _, _, _, rfl, rfl, SqT.of hp, atI_nat (j := 0) rfl, rfl, _, rfl, ite2 (no_b (dn (x := "place") (y := "and") (by decide +kernel))) (fun _ => ?_)⟩
      refine ⟨_, rfl, p, _, _, _, rfl, rfl, SqT.of hp, atI_nat (j := 0) rfl, rfl, _, rfl, ite2 (no_b (dn (x := "place") (y := "or") (by decide +kernel))) (fun _ => ?_)⟩
      refine ⟨_, rfl, p, _, _, _, rfl, rfl, SqT.of hp, atI_nat (j := 0) rfl, rfl, _, rfl, ite2 (no_b (dn (x := "place") (y := "changes") (by decide +kernel))) (fun _ => ?_)⟩
      refine ⟨_, rfl, (by show 4 ≤ sizeLine; decide), fun l nl => ⟨.inl ⟨rfl, _, SqL.of upd_same⟩, _, rfl, p, _, _, _, rfl, rfl, SqT.of (same_upd nl _ _ hp), atI_nat (j := 0) rfl, l, _, _, 1, _, rfl, rfl, SqL.of upd_same, rfl, rfl, rfl, eqV_self _, ?_, r, _, _, _, rfl, rfl, SqT.of (same_upd nl _ _ hr1), atI_nat (j := 1) rfl, _, rfl, p, _, _, _, rfl, rfl, SqT.of (same_upd nl _ _ hp), atI_nat (j := 1) rfl, rfl, q _ (same_upd nl)⟩⟩
      intro m z' hm hz
      rcases m with _ | _ | _ | m
      all_goals first | omega | (cases (Option.some.inj hz); exact ne_eqv (by decide +kernel)) | skip
    | word f x =>
      obtain ⟨p, rfl, hp⟩ := hF
      refine ⟨_, rfl, p, _, _, _, rfl, rfl, SqT.of hp, atI_nat (j := 0) rfl, rfl, _, rfl, ite2 (no_b (dn (x := fdS f) (y := "any") (by cases f <;> decide +kernel))) (fun _ => ?_)⟩
      refine ⟨_, rfl, p, _, _, _, rfl, rfl, SqT.of hp, atI_nat (j := 0) rfl, rfl, _, rfl, ite2 (no_b (dn (x := fdS f) (y := "not") (by cases f <;> decide +kernel))) (fun _ => ?_)⟩
      refine ⟨_, rfl, p, _, _, _, rfl, rfl, SqT.of hp, atI_nat (j := 0) rfl, rfl, _, rfl, ite2 (no_b (dn (x := fdS f) (y := "and") (by cases f <;> decide +kernel))) (fun _ => ?_)⟩
      refine ⟨_, rfl, p, _, _, _, rfl, rfl, SqT.of hp, atI_nat (j := 0) rfl, rfl, _, rfl, ite2 (no_b (dn (x := fdS f) (y := "or") (by cases f <;> decide +kernel))) (fun _ => ?_)⟩
      cases f with
      | fn =>
        refine ⟨_, rfl, p, _, _, _, rfl, rfl, SqT.of hp, atI_nat (j := 0) rfl, rfl, _, rfl, ite2 (no_b (dn (x := "function") (y := "changes") (by decide +kernel))) (fun _ => ?_)⟩
        refine ⟨_, rfl, (by show 4 ≤ sizeLine; decide), fun l nl => ⟨.inl ⟨rfl, _, SqL.of upd_same⟩, _, rfl, p, _, _, _, rfl, rfl, SqT.of (same_upd nl _ _ hp), atI_nat (j := 0) rfl, l, _, _, 0, _, rfl, rfl, SqL.of upd_same, rfl, rfl, rfl, eqV_self _, ?_, r, _, _, _, rfl, rfl, SqT.of (same_upd nl _ _ hr1), atI_nat (j := 0) rfl, _, rfl, p, _, _, _, rfl, rfl, SqT.of (same_upd nl _ _ hp), atI_nat (j := 1) rfl, rfl, q _ (same_upd nl)⟩⟩
        intro m z' hm hz
        rcases m with _ | _ | _ | m
        all_goals first | omega | (cases (Option.some.inj hz); exact ne_eqv (by decide +kernel)) | skip
      | kd =>
        refine ⟨_, rfl, p, _, _, _, rfl, rfl, SqT.of hp, atI_nat (j := 0) rfl, rfl, _, rfl, ite2 (no_b (dn (x := "kind") (y := "changes") (by decide +kernel))) (fun _ => ?_)⟩
        refine ⟨_, rfl, (by show 4 ≤ sizeLine; decide), fun l nl => ⟨.inl ⟨rfl, _, SqL.of upd_same⟩, _, rfl, p, _, _, _, rfl, rfl, SqT.of (same_upd nl _ _ hp), atI_nat (j := 0) rfl, l, _, _, 2, _, rfl, rfl, SqL.of upd_same, rfl, rfl, rfl, eqV_self _, ?_, r, _, _, _, rfl, rfl, SqT.of (same_upd nl _ _ hr1), atI_nat (j := 2) rfl, _, rfl, p, _, _, _, rfl, rfl, SqT.of (same_upd nl _ _ hp), atI_nat (j := 1) rfl, rfl, q _ (same_upd nl)⟩⟩
        intro m z' hm hz
        rcases m with _ | _ | _ | m
        all_goals first | omega | (cases (Option.some.inj hz); exact ne_eqv (by decide +kernel)) | skip
      | vd =>
        refine ⟨_, rfl, p, _, _, _, rfl, rfl, SqT.of hp, atI_nat (j := 0) rfl, rfl, _, rfl, ite2 (no_b (dn (x := "verdict") (y := "changes") (by decide +kernel))) (fun _ => ?_)⟩
        refine ⟨_, rfl, (by show 4 ≤ sizeLine; decide), fun l nl => ⟨.inl ⟨rfl, _, SqL.of upd_same⟩, _, rfl, p, _, _, _, rfl, rfl, SqT.of (same_upd nl _ _ hp), atI_nat (j := 0) rfl, l, _, _, 3, _, rfl, rfl, SqL.of upd_same, rfl, rfl, rfl, eqV_self _, ?_, r, _, _, _, rfl, rfl, SqT.of (same_upd nl _ _ hr1), atI_nat (j := 3) rfl, _, rfl, p, _, _, _, rfl, rfl, SqT.of (same_upd nl _ _ hp), atI_nat (j := 1) rfl, rfl, q _ (same_upd nl)⟩⟩
        intro m z' hm hz
        rcases m with _ | _ | _ | m
        all_goals first | omega | (cases (Option.some.inj hz); exact ne_eqv (by decide +kernel)) | skip
      | ch =>
        refine ⟨_, rfl, p, _, _, _, rfl, rfl, SqT.of hp, atI_nat (j := 0) rfl, rfl, _, rfl, ite2 (fun _ => ?_) (yes_b (decide_eq_true rfl))⟩
        exact ⟨_, rfl, p, _, _, _, rfl, rfl, SqT.of hp, atI_nat (j := 1) rfl, _, rfl, r, _, _, _, rfl, rfl, SqT.of hr1, atI_nat (j := 4) rfl, t, _, rfl, .inr (SqT.of hr2), rfl, flat_strs _, q _ (Same.refl H)⟩
    | no x =>
      obtain ⟨p, u, rfl, hp, hx⟩ := hF
      have hd1 : x.dep < D := by have d : (Fm.no x).dep = x.dep + 1 := rfl
                                 omega
      refine ⟨_, rfl, p, _, _, _, rfl, rfl, SqT.of hp, atI_nat (j := 0) rfl, rfl, _, rfl, ite2 (no_b (dn (x := "not") (y := "any") (by decide +kernel))) (fun _ => ?_)⟩
      refine ⟨_, rfl, p, _, _, _, rfl, rfl, SqT.of hp, atI_nat (j := 0) rfl, rfl, _, rfl, ite2 (fun _ => ?_) (yes_b (decide_eq_true rfl))⟩
      exact ⟨_, rfl, p, _, _, _, rfl, rfl, SqT.of hp, atI_nat (j := 1) rfl, _, rfl, u, r, x, R, rfl, hx, hd1, hR, fun H1 s1 => ⟨_, rfl, q H1 s1⟩⟩
    | and x y =>
      obtain ⟨p, u1, u2, rfl, hp, hx, hy⟩ := hF
      have hd1 : x.dep < D ∧ y.dep < D := by
        have d : (Fm.and x y).dep = max x.dep y.dep + 1 := rfl
        omega
      refine ⟨_, rfl, p, _, _, _, rfl, rfl, SqT.of hp, atI_nat (j := 0) rfl, rfl, _, rfl, ite2 (no_b (dn (x := "and") (y := "any") (by decide +kernel))) (fun _ => ?_)⟩
      refine ⟨_, rfl, p, _, _, _, rfl, rfl, SqT.of hp, atI_nat (j := 0) rfl, rfl, _, rfl, ite2 (no_b (dn (x := "and") (y := "not") (by decide +kernel))) (fun _ => ?_)⟩
      refine ⟨_, rfl, p, _, _, _, rfl, rfl, SqT.of hp, atI_nat (j := 0) rfl, rfl, _, rfl, ite2 (fun _ => ?_) (yes_b (decide_eq_true rfl))⟩
      refine ⟨_, rfl, p, _, _, _, rfl, rfl, SqT.of hp, atI_nat (j := 1) rfl, _, rfl, u1, r, x, R, rfl, hx, hd1.1, hR, fun H1 s1 => ⟨_, rfl, ite2 (fun e => ?_) (fun e => ?_)⟩⟩
      · refine ⟨_, rfl, p, _, _, _, rfl, rfl, SqT.of (s1 _ _ hp), atI_nat (j := 2) rfl, _, rfl, u2, r, y, R, rfl, hy.same s1, hd1.2, hR.same s1, fun H2 s2 => ?_⟩
        have q : Q (.bl (holds R x && holds R y)) H2 := q H2 (s1.trans s2)
        rw [e, Bool.true_and] at q
        exact q
      · have q : Q (.bl (holds R x && holds R y)) H1 := q H1 s1
        rw [Bool.eq_false_iff.mpr e, Bool.false_and] at q
        exact q
    | or x y =>
      obtain ⟨p, u1, u2, rfl, hp, hx, hy⟩ := hF
      have hd1 : x.dep < D ∧ y.dep < D := by
        have d : (Fm.or x y).dep = max x.dep y.dep + 1 := rfl
        omega
      refine ⟨_, rfl, p, _, _, _, rfl, rfl, SqT.of hp, atI_nat (j := 0) rfl, rfl, _, rfl, ite2 (no_b (dn (x := "or") (y := "any") (by decide +kernel))) (fun _ => ?_)⟩
      refine ⟨_, rfl, p, _, _, _, rfl, rfl, SqT.of hp, atI_nat (j := 0) rfl, rfl, _, rfl, ite2 (no_b (dn (x := "or") (y := "not") (by decide +kernel))) (fun _ => ?_)⟩
      refine ⟨_, rfl, p, _, _, _, rfl, rfl, SqT.of hp, atI_nat (j := 0) rfl, rfl, _, rfl, ite2 (no_b (dn (x := "or") (y := "and") (by decide +kernel))) (fun _ => ?_)⟩
      refine ⟨_, rfl, p, _, _, _, rfl, rfl, SqT.of hp, atI_nat (j := 0) rfl, rfl, _, rfl, ite2 (fun _ => ?_) (yes_b (decide_eq_true rfl))⟩
      refine ⟨_, rfl, p, _, _, _, rfl, rfl, SqT.of hp, atI_nat (j := 1) rfl, _, rfl, u1, r, x, R, rfl, hx, hd1.1, hR, fun H1 s1 => ⟨_, rfl, ite2 (fun e => ?_) (fun e => ?_)⟩⟩
      · have q : Q (.bl (holds R x || holds R y)) H1 := q H1 s1
        rw [e, Bool.true_or] at q
        exact q
      · refine ⟨_, rfl, p, _, _, _, rfl, rfl, SqT.of (s1 _ _ hp), atI_nat (j := 2) rfl, _, rfl, u2, r, y, R, rfl, hy.same s1, hd1.2, hR.same s1, fun H2 s2 => ?_⟩
        have q : Q (.bl (holds R x || holds R y)) H2 := q H2 (s1.trans s2)
        rw [Bool.eq_false_iff.mpr e, Bool.false_or] at q
        exact q
theorem sc__law_words : FnScope ["_law_form_here", "_law_rank_here", "_law_extra", "_law_words_here", "_law_own"] ["_law_form_here", "_law_rank_here", "_law_extra"] (defScope s__law_words) := ⟨rfl, rfl, rfl, by decide +kernel, rfl, by decide +kernel, by decide +kernel⟩
theorem ok_words (T : Txt w K mg a) : ∀ D : Nat, FnOk P w K mg base CX0 (D + 1) a.f__law_words a.f__law_words_d ["_law_form_here", "_law_rank_here", "_law_extra"] (spWords D)
  | 0 => ⟨fun vs H Q E h => by obtain ⟨v, r, fm, _, _, h, _⟩ := h; exact absurd h (Nat.not_lt_zero _), fun A outer s H args us vs Q E _ _ _ _ h => by obtain ⟨v, r, fm, _, _, h, _⟩ := h; exact absurd h (Nat.not_lt_zero _)⟩
  | D + 1 => by
    have F1 := ok_words T D
    refine T.F__law_words.ok sc__law_words (fun vs H Q E h => ?_) (fun cdv A outer s H vs Q E hr h => ?_)
    · obtain ⟨v, r, fm, rfl, _⟩ := h
      rfl
    obtain ⟨v, r, fm, rfl, hF, hd, hd2, ok, hr2, q⟩ := h
    refine ⟨_, (pss_cons (ps_if (pt_cmpR op_eq (pe_ix ix_tup (pv 0) pe_int (fun _ _ => rfl)) pe_str (nomark _))
      (pss_one (ps_set (i := 3) sc__law_words.nd rfl (Or.inl rfl) (pe_lst (pa_cons pe_str pa_nil))))
      (pss_one (ps_if (pt_cmpR op_eq (pe_ix ix_tup (pv 0) pe_int (fun _ _ => rfl)) pe_str (nomark _))
        (pss_one (ps_set (i := 3) sc__law_words.nd rfl (Or.inl rfl) (pe_op op_cat (pe_lst (pa_cons pe_str pa_nil)) (pe_call F1 (hr.mono (by omega)) (by rfl) T.g__law_words T.F__law_words.kp T.b__law_words .nil pass0 (pa_cons (pe_ix ix_tup (pv 0) pe_int (fun _ _ => rfl)) (pa_cons pe_int (pa_cons (pv 2) pa_nil)))))))
        (pss_one (ps_if (pt_cmpR op_in_seq (pe_ix ix_tup (pv 0) pe_int (fun _ _ => rfl)) (pe_lst (pa_cons pe_str (pa_cons pe_str pa_nil))) (by rfl))
          (pss_cons (ps_set (i := 4) sc__law_words.nd rfl (Or.inl rfl) (pe_call (ok__law_rank T) (hr.mono (by omega)) (by rfl) T.g__law_rank T.F__law_rank.kp T.b__law_rank .nil pass0 (pa_cons (pv 0) pa_nil)))
          (pss_one (ps_set (i := 3) sc__law_words.nd rfl (Or.inl rfl) (pe_op op_cat (pe_op op_cat (pe_call F1 (hr.mono (by omega)) (by rfl) T.g__law_words T.F__law_words.kp T.b__law_words .nil pass0 (pa_cons (pe_ix ix_tup (pv 0) pe_int (fun _ _ => rfl)) (pa_cons (pv 4) (pa_cons (pv 2) pa_nil)))) (pe_lst (pa_cons (pe_ix ix_tup (pv 0) pe_int (fun _ _ => rfl)) pa_nil))) (pe_call F1 (hr.mono (by omega)) (by rfl) T.g__law_words T.F__law_words.kp T.b__law_words .nil pass0 (pa_cons (pe_ix ix_tup (pv 0) pe_int (fun _ _ => rfl)) (pa_cons (pe_op op_add (pv 4) pe_int) (pa_cons (pv 2) pa_nil))))))))
          (pss_one (ps_set (i := 3) sc__law_words.nd rfl (Or.inl rfl) (pe_lst (pa_cons (pe_ix ix_tup (pv 0) pe_int (fun _ _ => rfl)) (pa_cons (pe_callTy (call_str_int.or SkE.call_str_str) (by rfl) T.str (by decide +kernel) (pa_cons (pe_ix ix_tup (pv 0) pe_int (fun _ _ => rfl)) pa_nil)) pa_nil))))))))))
    (pss_cons (ps_if (PW.pt (pw_or (pt_cmpR op_lt (pe_call (ok__law_rank T) (hr.mono (by omega)) (by rfl) T.g__law_rank T.F__law_rank.kp T.b__law_rank .nil pass0 (pa_cons (pv 0) pa_nil)) (pv 1) (nomark _)) (pw_or1 (pt_val (pv 2)))))
      (pss_one (ps_ret (pe_op op_cat (pe_op op_cat (pe_lst (pa_cons pe_str pa_nil)) (pv 3)) (pe_lst (pa_cons pe_str pa_nil)))))
      pss_nil)
    (pss_one (ps_ret (pv 3))))), ?_⟩
    cases fm with
    | any =>
      obtain ⟨p, rfl, hp⟩ := id hF
      refine ⟨_, rfl, p, _, _, _, rfl, rfl, SqT.of hp, atI_nat (j := 0) rfl, rfl, _, rfl, ite2 (fun _ => ?_) (yes_b (decide_eq_true rfl))⟩
      refine ⟨(by show 1 ≤ sizeLine; decide), fun L nL => ?_⟩
      obtain ⟨ws, hws0⟩ : ∃ ws : List Str, ws = [("any" : Str)] := ⟨_, rfl⟩
      obtain ⟨fm9, hfm⟩ : ∃ fm9, fm9 = Fm.any := ⟨_, rfl⟩
      have s9 : Same H (upd H L (.lst [V.str "any"])) := same_upd nL
      have hL : (upd H L (.lst [V.str "any"])) L = some (.lst (ws.map V.str)) := by rw [hws0]; exact upd_same
      have nL9 := nL
      have hwl : ws.length ≤ 6200 := by rw [hws0]; decide
      have hbr : wds .any r = br (decide (rk fm9 < r)) ws := by rw [hws0, hfm, decide_eq_false (by show ¬ 2 < r; omega)]; rfl
      show tSeq _ _ _ _ (upd H L (.lst [V.str "any"]))
      generalize (upd H L (.lst [V.str "any"])) = H9 at s9 hL ⊢
      rw [← hfm] at hF
      -- the end
      have hF9 := hF.same s9
      have hws : ws.length ≤ 6200 := hwl
      refine ⟨_, rfl, _, fm9, rfl, hF9, fun HA sA => ⟨_, rfl, _, _, rfl, rfl, _, rfl, ite2 (fun e => ?_) (fun e => ?_)⟩⟩
      · have e' : rk fm9 < r := by have := of_decide_eq_true e; omega
        rw [decide_eq_true e'] at hbr
        have hL1 := sA _ _ hL
        refine iteT ⟨(by show 1 ≤ sizeLine; decide), fun l1 n1 => ⟨_, rfl, l1, L, _, _, rfl, rfl, upd_same, same_upd n1 _ _ hL1, ?_, fun l2 n2 => ⟨(by show 1 ≤ sizeLine; decide), fun l3 n3 => ⟨l2, l3, _, _, rfl, rfl, same_upd n3 _ _ upd_same, upd_same, ?_, fun l4 n4 => ?_⟩⟩⟩⟩
        · rw [List.length_map]
          exact bigLe (by show 1 + _ ≤ _; omega)
        · rw [List.length_append, List.length_map]
          exact bigLe (by show 1 + _ + 1 ≤ _; omega)
        · have s4 := ((same_upd (o := .lst [V.str "("]) n1).trans (same_upd (o := .lst ([V.str "("] ++ ws.map V.str)) n2)).trans (same_upd (o := .lst [V.str ")"]) n3)
          refine q _ l4 (((s9.trans sA).trans s4).trans (same_upd n4)) (((s9.trans sA).trans s4).free n4) ?_
          rw [upd_same, hbr]
          show some (HO.lst ([V.str "("] ++ ws.map V.str ++ [V.str ")"])) = some (HO.lst ((("(" : Str) :: (ws ++ [(")" : Str)])).map V.str))
          rw [List.map_cons, List.map_append]
          rfl
      · have e' : ¬ rk fm9 < r := fun z => e (decide_eq_true (by omega))
        rw [decide_eq_false e'] at hbr
        refine ⟨_, rfl, _, rfl, iteF ⟨_, rfl, q HA L (s9.trans sA) nL9 ?_⟩⟩
        rw [hbr]
        exact sA _ _ hL
    | place n =>
      obtain ⟨p, rfl, hp⟩ := id hF
      refine ⟨_, rfl, p, _, _, _, rfl, rfl, SqT.of hp, atI_nat (j := 0) rfl, rfl, _, rfl, ite2 (no_b (dn (x := "place") (y := "any") (by decide +kernel))) (fun _ => ?_)⟩
      refine ⟨_, rfl, p, _, _, _, rfl, rfl, SqT.of hp, atI_nat (j := 0) rfl, rfl, _, rfl, ite2 (no_b (dn (x := "place") (y := "not") (by decide +kernel))) (fun _ => ?_)⟩
      refine ⟨_, rfl, p, _, _, _, rfl, rfl, SqT.of hp, atI_nat (j := 0) rfl, (by show 2 ≤ sizeLine; decide), fun l0 n0 => ⟨l0, _, rfl, .inl (SqL.of upd_same), rfl, rfl, _, rfl, ite2 (no_b (show inV (.str ("place")) [V.str "and", V.str "or"] = false from by decide +kernel)) (fun _ => ?_)⟩⟩
      have sp := same_upd (o := .lst [V.str "and", V.str "or"]) n0
      have hp1 := sp _ _ hp
      have okn : (n : Int) < 1000000000000 := ok
      refine ⟨_, rfl, p, _, _, _, rfl, rfl, SqT.of hp1, atI_nat (j := 0) rfl, _, rfl, p, _, _, _, rfl, rfl, SqT.of hp1, atI_nat (j := 1) rfl, .inl ⟨_, rfl, log_ok (by omega) (by omega), (by show 2 ≤ sizeLine; decide), fun L nL => ?_⟩⟩
      obtain ⟨ws, hws0⟩ : ∃ ws : List Str, ws = [("place" : Str), numT (n : Int)] := ⟨_, rfl⟩
      obtain ⟨fm9, hfm⟩ : ∃ fm9, fm9 = Fm.place n := ⟨_, rfl⟩
      have s9 := sp.trans (same_upd (o := .lst [V.str "place", V.str (Str.ofString (toString (n : Int)))]) nL)
      have hL : (upd (upd H l0 (.lst [V.str "and", V.str "or"])) L (.lst [V.str "place", V.str (Str.ofString (toString (n : Int)))])) L = some (.lst (ws.map V.str)) := by rw [hws0]; exact upd_same
      have nL9 := sp.free nL
      have hwl : ws.length ≤ 6200 := by rw [hws0]; exact (by decide : 2 ≤ 6200)
      have hbr : wds (Fm.place n) r = br (decide (rk fm9 < r)) ws := by rw [hws0, hfm, decide_eq_false (by show ¬ 2 < r; omega)]; rfl
      show tSeq _ _ _ _ (upd (upd H l0 (.lst [V.str "and", V.str "or"])) L (.lst [V.str "place", V.str (Str.ofString (toString (n : Int)))]))
      generalize (upd (upd H l0 (.lst [V.str "and", V.str "or"])) L (.lst [V.str "place", V.str (Str.ofString (toString (n : Int)))])) = H9 at s9 hL ⊢
      rw [← hfm] at hF
      -- the end
      have hF9 := hF.same s9
      have hws : ws.length ≤ 6200 := hwl
      refine ⟨_, rfl, _, fm9, rfl, hF9, fun HA sA => ⟨_, rfl, _, _, rfl, rfl, _, rfl, ite2 (fun e => ?_) (fun e => ?_)⟩⟩
      · have e' : rk fm9 < r := by have := of_decide_eq_true e; omega
        rw [decide_eq_true e'] at hbr
        have hL1 := sA _ _ hL
        refine iteT ⟨(by show 1 ≤ sizeLine; decide), fun l1 n1 => ⟨_, rfl, l1, L, _, _, rfl, rfl, upd_same, same_upd n1 _ _ hL1, ?_, fun l2 n2 => ⟨(by show 1 ≤ sizeLine; decide), fun l3 n3 => ⟨l2, l3, _, _, rfl, rfl, same_upd n3 _ _ upd_same, upd_same, ?_, fun l4 n4 => ?_⟩⟩⟩⟩
        · rw [List.length_map]
          exact bigLe (by show 1 + _ ≤ _; omega)
        · rw [List.length_append, List.length_map]
          exact bigLe (by show 1 + _ + 1 ≤ _; omega)
        · have s4 := ((same_upd (o := .lst [V.str "("]) n1).trans (same_upd (o := .lst ([V.str "("] ++ ws.map V.str)) n2)).trans (same_upd (o := .lst [V.str ")"]) n3)
          refine q _ l4 (((s9.trans sA).trans s4).trans (same_upd n4)) (((s9.trans sA).trans s4).free n4) ?_
          rw [upd_same, hbr]
          show some (HO.lst ([V.str "("] ++ ws.map V.str ++ [V.str ")"])) = some (HO.lst ((("(" : Str) :: (ws ++ [(")" : Str)])).map V.str))
          rw [List.map_cons, List.map_append]
          rfl
      · have e' : ¬ rk fm9 < r := fun z => e (decide_eq_true (by omega))
        rw [decide_eq_false e'] at hbr
        refine ⟨_, rfl, _, rfl, iteF ⟨_, rfl, q HA L (s9.trans sA) nL9 ?_⟩⟩
        rw [hbr]
        exact sA _ _ hL
    | word f x =>
      obtain ⟨p, rfl, hp⟩ := id hF
      refine ⟨_, rfl, p, _, _, _, rfl, rfl, SqT.of hp, atI_nat (j := 0) rfl, rfl, _, rfl, ite2 (no_b (dn (x := fdS f) (y := "any") (by cases f <;> decide +kernel))) (fun _ => ?_)⟩
      refine ⟨_, rfl, p, _, _, _, rfl, rfl, SqT.of hp, atI_nat (j := 0) rfl, rfl, _, rfl, ite2 (no_b (dn (x := fdS f) (y := "not") (by cases f <;> decide +kernel))) (fun _ => ?_)⟩
      refine ⟨_, rfl, p, _, _, _, rfl, rfl, SqT.of hp, atI_nat (j := 0) rfl, (by show 2 ≤ sizeLine; decide), fun l0 n0 => ⟨l0, _, rfl, .inl (SqL.of upd_same), rfl, rfl, _, rfl, ite2 (no_b (show inV (.str (fdS f)) [V.str "and", V.str "or"] = false from by cases f <;> decide +kernel)) (fun _ => ?_)⟩⟩
      have sp := same_upd (o := .lst [V.str "and", V.str "or"]) n0
      have hp1 := sp _ _ hp
      refine ⟨_, rfl, p, _, _, _, rfl, rfl, SqT.of hp1, atI_nat (j := 0) rfl, _, rfl, p, _, _, _, rfl, rfl, SqT.of hp1, atI_nat (j := 1) rfl, .inr ⟨_, rfl, (by show 2 ≤ sizeLine; decide), fun L nL => ?_⟩⟩
      obtain ⟨ws, hws0⟩ : ∃ ws : List Str, ws = [fdS f, x] := ⟨_, rfl⟩
      obtain ⟨fm9, hfm⟩ : ∃ fm9, fm9 = Fm.word f x := ⟨_, rfl⟩
      have s9 := sp.trans (same_upd (o := .lst [V.str (fdS f), V.str x]) nL)
      have hL : (upd (upd H l0 (.lst [V.str "and", V.str "or"])) L (.lst [V.str (fdS f), V.str x])) L = some (.lst (ws.map V.str)) := by rw [hws0]; exact upd_same
      have nL9 := sp.free nL
      have hwl : ws.length ≤ 6200 := by rw [hws0]; exact (by decide : 2 ≤ 6200)
      have hbr : wds (Fm.word f x) r = br (decide (rk fm9 < r)) ws := by rw [hws0, hfm, decide_eq_false (by show ¬ 2 < r; omega)]; rfl
      show tSeq _ _ _ _ (upd (upd H l0 (.lst [V.str "and", V.str "or"])) L (.lst [V.str (fdS f), V.str x]))
      generalize (upd (upd H l0 (.lst [V.str "and", V.str "or"])) L (.lst [V.str (fdS f), V.str x])) = H9 at s9 hL ⊢
      rw [← hfm] at hF
      -- the end
      have hF9 := hF.same s9
      have hws : ws.length ≤ 6200 := hwl
      refine ⟨_, rfl, _, fm9, rfl, hF9, fun HA sA => ⟨_, rfl, _, _, rfl, rfl, _, rfl, ite2 (fun e => ?_) (fun e => ?_)⟩⟩
      · have e' : rk fm9 < r := by have := of_decide_eq_true e; omega
        rw [decide_eq_true e'] at hbr
        have hL1 := sA _ _ hL
        refine iteT ⟨(by show 1 ≤ sizeLine; decide), fun l1 n1 => ⟨_, rfl, l1, L, _, _, rfl, rfl, upd_same, same_upd n1 _ _ hL1, ?_, fun l2 n2 => ⟨(by show 1 ≤ sizeLine; decide), fun l3 n3 => ⟨l2, l3, _, _, rfl, rfl, same_upd n3 _ _ upd_same, upd_same, ?_, fun l4 n4 => ?_⟩⟩⟩⟩
        · rw [List.length_map]
          exact bigLe (by show 1 + _ ≤ _; omega)
        · rw [List.length_append, List.length_map]
          exact bigLe (by show 1 + _ + 1 ≤ _; omega)
        · have s4 := ((same_upd (o := .lst [V.str "("]) n1).trans (same_upd (o := .lst ([V.str "("] ++ ws.map V.str)) n2)).trans (same_upd (o := .lst [V.str ")"]) n3)
          refine q _ l4 (((s9.trans sA).trans s4).trans (same_upd n4)) (((s9.trans sA).trans s4).free n4) ?_
          rw [upd_same, hbr]
          show some (HO.lst ([V.str "("] ++ ws.map V.str ++ [V.str ")"])) = some (HO.lst ((("(" : Str) :: (ws ++ [(")" : Str)])).map V.str))
          rw [List.map_cons, List.map_append]
          rfl
      · have e' : ¬ rk fm9 < r := fun z => e (decide_eq_true (by omega))
        rw [decide_eq_false e'] at hbr
        refine ⟨_, rfl, _, rfl, iteF ⟨_, rfl, q HA L (s9.trans sA) nL9 ?_⟩⟩
        rw [hbr]
        exact sA _ _ hL
    | no x =>
      obtain ⟨p, u, rfl, hp, hx⟩ := id hF
      have hd1 : x.dep < D ∧ x.dep ≤ 10 := by
        have d : (Fm.no x).dep = x.dep + 1 := rfl
        omega
      refine ⟨_, rfl, p, _, _, _, rfl, rfl, SqT.of hp, atI_nat (j := 0) rfl, rfl, _, rfl, ite2 (no_b (dn (x := "not") (y := "any") (by decide +kernel))) (fun _ => ?_)⟩
      refine ⟨_, rfl, p, _, _, _, rfl, rfl, SqT.of hp, atI_nat (j := 0) rfl, rfl, _, rfl, ite2 (fun _ => ?_) (yes_b (decide_eq_true rfl))⟩
      refine ⟨(by show 1 ≤ sizeLine; decide), fun l1 n1 => ⟨_, rfl, p, _, _, _, rfl, rfl, SqT.of (same_upd n1 _ _ hp), atI_nat (j := 1) rfl, _, rfl, u, 2, x, rfl, hx.same (same_upd n1), hd1.1, hd1.2, ok, Nat.le_refl _, fun H2 q2 s2 nq2 hq2 => ⟨l1, q2, _, _, rfl, rfl, s2 _ _ upd_same, hq2, ?_, fun L nL => ?_⟩⟩⟩
      · rw [List.length_map]
        have := wds_small (r := 2) hd1.2
        exact bigLe (by show 1 + _ ≤ _; omega)
      obtain ⟨ws, hws0⟩ : ∃ ws : List Str, ws = ("not" : Str) :: wds x 2 := ⟨_, rfl⟩
      obtain ⟨fm9, hfm⟩ : ∃ fm9, fm9 = Fm.no x := ⟨_, rfl⟩
      have s9 := ((same_upd (o := .lst [V.str "not"]) n1).trans s2).trans (same_upd (o := .lst ([V.str "not"] ++ (wds x 2).map V.str)) nL)
      have hL : (upd H2 L (.lst ([V.str "not"] ++ (wds x 2).map V.str))) L = some (.lst (ws.map V.str)) := by rw [hws0]; exact upd_same
      have nL9 := ((same_upd (o := .lst [V.str "not"]) n1).trans s2).free nL
      have hwl : ws.length ≤ 6200 := by rw [hws0]; exact wds_small (fm := .no x) (r := 2) hd2
      have hbr : wds (.no x) r = br (decide (rk fm9 < r)) ws := by rw [hws0, hfm, decide_eq_false (by show ¬ 2 < r; omega)]; rfl
      show tSeq _ _ _ _ (upd H2 L (.lst ([V.str "not"] ++ (wds x 2).map V.str)))
      generalize (upd H2 L (.lst ([V.str "not"] ++ (wds x 2).map V.str))) = H9 at s9 hL ⊢
      rw [← hfm] at hF
      -- the end
      have hF9 := hF.same s9
      have hws : ws.length ≤ 6200 := hwl
      refine ⟨_, rfl, _, fm9, rfl, hF9, fun HA sA => ⟨_, rfl, _, _, rfl, rfl, _, rfl, ite2 (fun e => ?_) (fun e => ?_)⟩⟩
      · have e' : rk fm9 < r := by have := of_decide_eq_true e; omega
        rw [decide_eq_true e'] at hbr
        have hL1 := sA _ _ hL
        refine iteT ⟨(by show 1 ≤ sizeLine; decide), fun l1 n1 => ⟨_, rfl, l1, L, _, _, rfl, rfl, upd_same, same_upd n1 _ _ hL1, ?_, fun l2 n2 => ⟨(by show 1 ≤ sizeLine; decide), fun l3 n3 => ⟨l2, l3, _, _, rfl, rfl, same_upd n3 _ _ upd_same, upd_same, ?_, fun l4 n4 => ?_⟩⟩⟩⟩
        · rw [List.length_map]
          exact bigLe (by show 1 + _ ≤ _; omega)
        · rw [List.length_append, List.length_map]
          exact bigLe (by show 1 + _ + 1 ≤ _; omega)
        · have s4 := ((same_upd (o := .lst [V.str "("]) n1).trans (same_upd (o := .lst ([V.str "("] ++ ws.map V.str)) n2)).trans (same_upd (o := .lst [V.str ")"]) n3)
          refine q _ l4 (((s9.trans sA).trans s4).trans (same_upd n4)) (((s9.trans sA).trans s4).free n4) ?_
          rw [upd_same, hbr]
          show some (HO.lst ([V.str "("] ++ ws.map V.str ++ [V.str ")"])) = some (HO.lst ((("(" : Str) :: (ws ++ [(")" : Str)])).map V.str))
          rw [List.map_cons, List.map_append]
          rfl
      · have e' : ¬ rk fm9 < r := fun z => e (decide_eq_true (by omega))
        rw [decide_eq_false e'] at hbr
        refine ⟨_, rfl, _, rfl, iteF ⟨_, rfl, q HA L (s9.trans sA) nL9 ?_⟩⟩
        rw [hbr]
        exact sA _ _ hL
    | and x y =>
      obtain ⟨p, u1, u2, rfl, hp, hx, hy⟩ := id hF
      have hd1 : x.dep < D ∧ y.dep < D ∧ x.dep ≤ 10 ∧ y.dep ≤ 10 := by
        have d : (Fm.and x y).dep = max x.dep y.dep + 1 := rfl
        omega
      refine ⟨_, rfl, p, _, _, _, rfl, rfl, SqT.of hp, atI_nat (j := 0) rfl, rfl, _, rfl, ite2 (no_b (dn (x := "and") (y := "any") (by decide +kernel))) (fun _ => ?_)⟩
      refine ⟨_, rfl, p, _, _, _, rfl, rfl, SqT.of hp, atI_nat (j := 0) rfl, rfl, _, rfl, ite2 (no_b (dn (x := "and") (y := "not") (by decide +kernel))) (fun _ => ?_)⟩
      refine ⟨_, rfl, p, _, _, _, rfl, rfl, SqT.of hp, atI_nat (j := 0) rfl, (by show 2 ≤ sizeLine; decide), fun l0 n0 => ⟨l0, _, rfl, .inl (SqL.of upd_same), rfl, rfl, _, rfl, ite2 (fun _ => ?_) (yes_b (by decide +kernel))⟩⟩
      have sp := same_upd (o := .lst [V.str "and", V.str "or"]) n0
      refine ⟨_, rfl, _, _, rfl, hF.same sp, fun H2 s2 => ?_⟩
      have s02 := sp.trans s2
      refine ⟨_, rfl, p, _, _, _, rfl, rfl, SqT.of (s02 _ _ hp), atI_nat (j := 1) rfl, _, rfl, _, rfl, u1, 1, x, rfl, hx.same s02, hd1.1, hd1.2.2.1, ok.1, (by decide), fun H3 q3 s3 nq3 hq3 => ?_⟩
      have s03 := s02.trans s3
      refine ⟨_, rfl, p, _, _, _, rfl, rfl, SqT.of (s03 _ _ hp), atI_nat (j := 0) rfl, (by show 1 ≤ sizeLine; decide), fun l1 n1 => ⟨q3, l1, _, _, rfl, rfl, same_upd n1 _ _ hq3, upd_same, ?_, fun l2 n2 => ?_⟩⟩
      · rw [List.length_map]
        have := wds_small (r := 1) hd1.2.2.1
        exact bigLe (by show _ + 1 ≤ _; omega)
      have s04 := (s03.trans (same_upd (o := .lst [V.str "and"]) n1)).trans (same_upd (o := .lst ((wds x 1).map V.str ++ [V.str "and"])) n2)
      refine ⟨_, rfl, p, _, _, _, rfl, rfl, SqT.of (s04 _ _ hp), atI_nat (j := 2) rfl, _, rfl, _, _, rfl, rfl, _, rfl, u2, 2, y, rfl, hy.same s04, hd1.2.1, hd1.2.2.2, ok.2, (by decide), fun H5 q5 s5 nq5 hq5 => ⟨l2, q5, _, _, rfl, rfl, s5 _ _ upd_same, hq5, ?_, fun L nL => ?_⟩⟩
      · rw [List.length_append, List.length_map, List.length_map]
        have := wds_small (r := 1) hd1.2.2.1
        have := wds_small (r := 2) hd1.2.2.2
        exact bigLe (by show _ + 1 + _ ≤ _; omega)
      obtain ⟨ws, hws0⟩ : ∃ ws : List Str, ws = wds x 1 ++ ("and" : Str) :: wds y 2 := ⟨_, rfl⟩
      obtain ⟨fm9, hfm⟩ : ∃ fm9, fm9 = Fm.and x y := ⟨_, rfl⟩
      have s9 := (s04.trans s5).trans (same_upd (o := .lst ((wds x 1).map V.str ++ [V.str "and"] ++ (wds y 2).map V.str)) nL)
      have hL : (upd H5 L (.lst ((wds x 1).map V.str ++ [V.str "and"] ++ (wds y 2).map V.str))) L = some (.lst (ws.map V.str)) := by
        rw [hws0, upd_same, List.map_append, List.map_cons, List.append_assoc]
        rfl
      have nL9 := (s04.trans s5).free nL
      have hwl : ws.length ≤ 6200 := by rw [hws0]; exact wds_small (fm := .and x y) (r := 0) hd2
      have hbr : wds (.and x y) r = br (decide (rk fm9 < r)) ws := by rw [hws0, hfm]; rfl
      show tSeq _ _ _ _ (upd H5 L (.lst ((wds x 1).map V.str ++ [V.str "and"] ++ (wds y 2).map V.str)))
      generalize (upd H5 L (.lst ((wds x 1).map V.str ++ [V.str "and"] ++ (wds y 2).map V.str))) = H9 at s9 hL ⊢
      rw [← hfm] at hF
      -- the end
      have hF9 := hF.same s9
      have hws : ws.length ≤ 6200 := hwl
      refine ⟨_, rfl, _, fm9, rfl, hF9, fun HA sA => ⟨_, rfl, _, _, rfl, rfl, _, rfl, ite2 (fun e => ?_) (fun e => ?_)⟩⟩
      · have e' : rk fm9 < r := by have := of_decide_eq_true e; omega
        rw [decide_eq_true e'] at hbr
        have hL1 := sA _ _ hL
        refine iteT ⟨(by show 1 ≤ sizeLine; decide), fun l1 n1 => ⟨_, rfl, l1, L, _, _, rfl, rfl, upd_same, same_upd n1 _ _ hL1, ?_, fun l2 n2 => ⟨(by show 1 ≤ sizeLine; decide), fun l3 n3 => ⟨l2, l3, _, _, rfl, rfl, same_upd n3 _ _ upd_same, upd_same, ?_, fun l4 n4 => ?_⟩⟩⟩⟩
        · rw [List.length_map]
          exact bigLe (by show 1 + _ ≤ _; omega)
        · rw [List.length_append, List.length_map]
          exact bigLe (by show 1 + _ + 1 ≤ _; omega)
        · have s4 := ((same_upd (o := .lst [V.str "("]) n1).trans (same_upd (o := .lst ([V.str "("] ++ ws.map V.str)) n2)).trans (same_upd (o := .lst [V.str ")"]) n3)
          refine q _ l4 (((s9.trans sA).trans s4).trans (same_upd n4)) (((s9.trans sA).trans s4).free n4) ?_
          rw [upd_same, hbr]
          show some (HO.lst ([V.str "("] ++ ws.map V.str ++ [V.str ")"])) = some (HO.lst ((("(" : Str) :: (ws ++ [(")" : Str)])).map V.str))
          rw [List.map_cons, List.map_append]
          rfl
      · have e' : ¬ rk fm9 < r := fun z => e (decide_eq_true (by omega))
        rw [decide_eq_false e'] at hbr
        refine ⟨_, rfl, _, rfl, iteF ⟨_, rfl, q HA L (s9.trans sA) nL9 ?_⟩⟩
        rw [hbr]
        exact sA _ _ hL
    | or x y =>
      obtain ⟨p, u1, u2, rfl, hp, hx, hy⟩ := id hF
      have hd1 : x.dep < D ∧ y.dep < D ∧ x.dep ≤ 10 ∧ y.dep ≤ 10 := by
        have d : (Fm.or x y).dep = max x.dep y.dep + 1 := rfl
        omega
      refine ⟨_, rfl, p, _, _, _, rfl, rfl, SqT.of hp, atI_nat (j := 0) rfl, rfl, _, rfl, ite2 (no_b (dn (x := "or") (y := "any") (by decide +kernel))) (fun _ => ?_)⟩
      refine ⟨_, rfl, p, _, _, _, rfl, rfl, SqT.of hp, atI_nat (j := 0) rfl, rfl, _, rfl, ite2 (no_b (dn (x := "or") (y := "not") (by decide +kernel))) (fun _ => ?_)⟩
      refine ⟨_, rfl, p, _, _, _, rfl, rfl, SqT.of hp, atI_nat (j := 0) rfl, (by show 2 ≤ sizeLine; decide), fun l0 n0 => ⟨l0, _, rfl, .inl (SqL.of upd_same), rfl, rfl, _, rfl, ite2 (fun _ => ?_) (yes_b (by decide +kernel))⟩⟩
      have sp := same_upd (o := .lst [V.str "and", V.str "or"]) n0
      refine ⟨_, rfl, _, _, rfl, hF.same sp, fun H2 s2 => ?_⟩
      have s02 := sp.trans s2
      refine ⟨_, rfl, p, _, _, _, rfl, rfl, SqT.of (s02 _ _ hp), atI_nat (j := 1) rfl, _, rfl, _, rfl, u1, 0, x, rfl, hx.same s02, hd1.1, hd1.2.2.1, ok.1, (by decide), fun H3 q3 s3 nq3 hq3 => ?_⟩
      have s03 := s02.trans s3
      refine ⟨_, rfl, p, _, _, _, rfl, rfl, SqT.of (s03 _ _ hp), atI_nat (j := 0) rfl, (by show 1 ≤ sizeLine; decide), fun l1 n1 => ⟨q3, l1, _, _, rfl, rfl, same_upd n1 _ _ hq3, upd_same, ?_, fun l2 n2 => ?_⟩⟩
      · rw [List.length_map]
        have := wds_small (r := 0) hd1.2.2.1
        exact bigLe (by show _ + 1 ≤ _; omega)
      have s04 := (s03.trans (same_upd (o := .lst [V.str "or"]) n1)).trans (same_upd (o := .lst ((wds x 0).map V.str ++ [V.str "or"])) n2)
      refine ⟨_, rfl, p, _, _, _, rfl, rfl, SqT.of (s04 _ _ hp), atI_nat (j := 2) rfl, _, rfl, _, _, rfl, rfl, _, rfl, u2, 1, y, rfl, hy.same s04, hd1.2.1, hd1.2.2.2, ok.2, (by decide), fun H5 q5 s5 nq5 hq5 => ⟨l2, q5, _, _, rfl, rfl, s5 _ _ upd_same, hq5, ?_, fun L nL => ?_⟩⟩
      · rw [List.length_append, List.length_map, List.length_map]
        have := wds_small (r := 0) hd1.2.2.1
        have := wds_small (r := 1) hd1.2.2.2
        exact bigLe (by show _ + 1 + _ ≤ _; omega)
      obtain ⟨ws, hws0⟩ : ∃ ws : List Str, ws = wds x 0 ++ ("or" : Str) :: wds y 1 := ⟨_, rfl⟩
      obtain ⟨fm9, hfm⟩ : ∃ fm9, fm9 = Fm.or x y := ⟨_, rfl⟩
      have s9 := (s04.trans s5).trans (same_upd (o := .lst ((wds x 0).map V.str ++ [V.str "or"] ++ (wds y 1).map V.str)) nL)
      have hL : (upd H5 L (.lst ((wds x 0).map V.str ++ [V.str "or"] ++ (wds y 1).map V.str))) L = some (.lst (ws.map V.str)) := by
        rw [hws0, upd_same, List.map_append, List.map_cons, List.append_assoc]
        rfl
      have nL9 := (s04.trans s5).free nL
      have hwl : ws.length ≤ 6200 := by rw [hws0]; exact wds_small (fm := .or x y) (r := 0) hd2
      have hbr : wds (.or x y) r = br (decide (rk fm9 < r)) ws := by rw [hws0, hfm]; rfl
      show tSeq _ _ _ _ (upd H5 L (.lst ((wds x 0).map V.str ++ [V.str "or"] ++ (wds y 1).map V.str)))
      generalize (upd H5 L (.lst ((wds x 0).map V.str ++ [V.str "or"] ++ (wds y 1).map V.str))) = H9 at s9 hL ⊢
      rw [← hfm] at hF
      -- the end
      have hF9 := hF.same s9
      have hws : ws.length ≤ 6200 := hwl
      refine ⟨_, rfl, _, fm9, rfl, hF9, fun HA sA => ⟨_, rfl, _, _, rfl, rfl, _, rfl, ite2 (fun e => ?_) (fun e => ?_)⟩⟩
      · have e' : rk fm9 < r := by have := of_decide_eq_true e; omega
        rw [decide_eq_true e'] at hbr
        have hL1 := sA _ _ hL
        refine iteT ⟨(by show 1 ≤ sizeLine; decide), fun l1 n1 => ⟨_, rfl, l1, L, _, _, rfl, rfl, upd_same, same_upd n1 _ _ hL1, ?_, fun l2 n2 => ⟨(by show 1 ≤ sizeLine; decide), fun l3 n3 => ⟨l2, l3, _, _, rfl, rfl, same_upd n3 _ _ upd_same, upd_same, ?_, fun l4 n4 => ?_⟩⟩⟩⟩
        · rw [List.length_map]
          exact bigLe (by show 1 + _ ≤ _; omega)
        · rw [List.length_append, List.length_map]
          exact bigLe (by show 1 + _ + 1 ≤ _; omega)
        · have s4 := ((same_upd (o := .lst [V.str "("]) n1).trans (same_upd (o := .lst ([V.str "("] ++ ws.map V.str)) n2)).trans (same_upd (o := .lst [V.str ")"]) n3)
          refine q _ l4 (((s9.trans sA).trans s4).trans (same_upd n4)) (((s9.trans sA).trans s4).free n4) ?_
          rw [upd_same, hbr]
          show some (HO.lst ([V.str "("] ++ ws.map V.str ++ [V.str ")"])) = some (HO.lst ((("(" : Str) :: (ws ++ [(")" : Str)])).map V.str))
          rw [List.map_cons, List.map_append]
          rfl
      · have e' : ¬ rk fm9 < r := fun z => e (decide_eq_true (by omega))
        rw [decide_eq_false e'] at hbr
        refine ⟨_, rfl, _, rfl, iteF ⟨_, rfl, q HA L (s9.trans sA) nL9 ?_⟩⟩
        rw [hbr]
        exact sA _ _ hL
end
end K34
namespace K34
open PySem PySem.Spec PyProof.Rows L2 TL
/-- a pool at p, its cells at l, at most n draws so far -/
structure PoolAt (H : Hp) (p l : Addr) (n : Int) : Prop where
  ne : p ≠ l
  ex : ∃ (cs : List Int) (ix cnt seed ph bd : Int), H p = some (.lst [.ref l, .int ix, .int cnt, .int seed, .int ph, .int bd]) ∧ H l = some (.lst (cs.map V.int)) ∧
    0 ≤ ix ∧ 0 ≤ cnt ∧ cnt ≤ n ∧ 0 ≤ seed ∧ seed < 2147483647 ∧ cs.length ≤ 63
theorem PoolAt.keep {H H' : Hp} {p l : Addr} {n : Int} (P : PoolAt H p l n) (hp : H' p = H p) (hl : H' l = H l) : PoolAt H' p l n := by
  obtain ⟨ne, cs, ix, cnt, seed, ph, bd, h1, h2, r⟩ := P
  exact ⟨ne, cs, ix, cnt, seed, ph, bd, by rw [hp]; exact h1, by rw [hl]; exact h2, r⟩
theorem PoolAt.same {H H' : Hp} {p l : Addr} {n : Int} (P : PoolAt H p l n) (s : Same H H') : PoolAt H' p l n := by
  obtain ⟨ne, cs, ix, cnt, seed, ph, bd, h1, h2, r⟩ := P
  exact ⟨ne, cs, ix, cnt, seed, ph, bd, s _ _ h1, s _ _ h2, r⟩
def spPool (K : PySem.W.Frag) : Sp := fun vs H Q _ => ∃ (a : Addr) (ns : List Int), vs = [.ref a] ∧ SqL K H a (ns.map V.int) ∧ ns.length ≤ 63 ∧
  ∀ H' p l, Same H H' → H p = none → H l = none → PoolAt H' p l 0 → Q (.ref p) H'
def spMixed : Sp := fun vs H Q _ => ∃ (a c m : Int), vs = [.int a, .int c, .int m] ∧ 0 ≤ a ∧ a < 2147483647 ∧ 0 ≤ c ∧ c ≤ 1099511627776 ∧ 0 < m ∧
  ∀ r : Int, 0 ≤ r → r < m → Q (.int r) H
def spDraw : Sp := fun vs H Q _ => ∃ (p l : Addr) (n m : Int), vs = [.ref p, .int m] ∧ PoolAt H p l n ∧ n < 1099511627776 ∧ 0 < m ∧ m.natAbs.log2 < 9000 ∧
  ∀ (r : Int) (H' : Hp), 0 ≤ r → r < m → PoolAt H' p l (n + 1) → (∀ b, b ≠ p → b ≠ l → H' b = H b) → Q (.int r) H'
theorem ixN_at {n j : Nat} (hj : j < n) : ixN n (j : Int) = some j := by
  unfold ixN
  rw [if_pos (by omega), if_pos (by omega)]
  exact congrArg some (by omega)
theorem numT_len {i : Int} (h0 : 0 ≤ i) (h : i < 1000000000000000000) : (numT i).length ≤ 18 := by
  obtain ⟨n, rfl⟩ : ∃ n : Nat, i = (n : Int) := ⟨i.toNat, by omega⟩
  unfold numT
  rw [len_tl, tl_num]
  exact numL_len (by decide) (by have e : (10 : Nat) ^ 18 = 1000000000000000000 := by decide
                                 rw [e]; omega)
theorem PoolAt.mono {H : Hp} {p l : Addr} {n m : Int} (P : PoolAt H p l n) (h : n ≤ m) : PoolAt H p l m := by
  obtain ⟨ne, cs, ix, cnt, seed, ph, bd, h1, h2, a, b, c, d⟩ := P
  exact ⟨ne, cs, ix, cnt, seed, ph, bd, h1, h2, a, b, by omega, d⟩
theorem PoolAt.off {H : Hp} {p l k : Addr} {n : Int} (P : PoolAt H p l n) (h : H k = none) : k ≠ p ∧ k ≠ l := by
  obtain ⟨_, cs, ix, cnt, seed, ph, bd, e1, e2, _⟩ := P
  refine ⟨fun e => ?_, fun e => ?_⟩
  · rw [e, e1] at h
    cases h
  · rw [e, e2] at h
    cases h
/-- all but the pool stands -/
def Keep (p l : Addr) (H H' : Hp) : Prop := ∀ b x, H b = some x → b ≠ p → b ≠ l → H' b = some x
theorem Keep.refl (p l : Addr) (H : Hp) : Keep p l H H := fun _ _ h _ _ => h
theorem Keep.trans {p l : Addr} {H H1 H2 : Hp} (a : Keep p l H H1) (b : Keep p l H1 H2) : Keep p l H H2 := fun c x h n m => b c x (a c x h n m) n m
theorem Keep.of {p l : Addr} {H H1 : Hp} (s : Same H H1) : Keep p l H H1 := fun c x h _ _ => s c x h
theorem Keep.draw {p l : Addr} {H H1 : Hp} (f : ∀ b, b ≠ p → b ≠ l → H1 b = H b) : Keep p l H H1 := fun b x e n m => by
  rw [f b n m]
  exact e
theorem Keep.mut {p l : Addr} {H H1 : Hp} {q : Addr} {u : HO} (s : Keep p l H H1) (h : H q = none) : Keep p l H (upd H1 q u) := fun b x e n m => by
  rw [upd_ne (ne_of_none e h)]
  exact s _ _ e n m
theorem Keep.free {p l : Addr} {H H' : Hp} (e : Keep p l H H') {q : Addr} (h : H' q = none) (n : q ≠ p) (m : q ≠ l) : H q = none := by
  cases r : H q with
  | none => rfl
  | some x =>
    rw [e q x r n m] at h
    cases h
theorem atI_ex {α : Type} {xs : List α} {r : Int} (h0 : 0 ≤ r) (h1 : r < xs.length) : ∃ c, atI xs r = some c ∧ c ∈ xs := by
  obtain ⟨j, rfl⟩ : ∃ j : Nat, r = (j : Int) := ⟨r.toNat, by omega⟩
  have hj : j < xs.length := by omega
  exact ⟨xs[j], atI_nat (List.getElem?_eq_getElem hj), List.getElem_mem hj⟩
theorem log_small {m : Int} (h0 : 0 < m) (h : m < 1152921504606846976) : m.natAbs.log2 < 9000 := by
  have e : (2:Nat) ^ 60 = 1152921504606846976 := by decide
  have : m.natAbs.log2 < 60 := (Nat.log2_lt (by omega)).mpr (by rw [e]; omega)
  omega
def nameL (c : Nat) (s : Int) (k : Nat) : Str := (⟨#[c]⟩ : Str) ++ numT ((7 * ((0 : Int) + (k : Int)) + s) % 16)
def namesL (c : Nat) (s : Int) : List Str := (List.range 16).map (nameL c s)
def spNames : Sp := fun vs H Q _ => ∃ (p l : Addr) (n : Int), vs = [.ref p] ∧ PoolAt H p l n ∧ n < 1099511627000 ∧
  ∀ (H' : Hp) (q : Addr) (c : Nat) (s : Int), PoolAt H' p l (n + 2) → Keep p l H H' → q ≠ p → q ≠ l → H q = none → c ∈ tl LET → 0 ≤ s → s < 16 → H' q = some (.lst ((namesL c s).map V.str)) → Q (.ref q) H'
theorem pool_lst {H : Hp} {p l : Addr} {n : Int} (P : PoolAt H p l n) : (∃ xs, H p = some (.lst xs)) ∧ ∃ ys, H l = some (.lst ys) := by
  obtain ⟨_, cs, ix, cnt, seed, ph, bd, h1, h2, _⟩ := P
  exact ⟨⟨_, h1⟩, ⟨_, h2⟩⟩
theorem keep_tup {H H' : Hp} {p l : Addr} {n : Int} (P : PoolAt H p l n) (k : Keep p l H H') : ∀ b xs, H b = some (.tup xs) → H' b = some (.tup xs) := fun b xs e => by
  obtain ⟨⟨_, hp⟩, ⟨_, hl⟩⟩ := pool_lst P
  exact k _ _ e (ne_of e hp (by intro z; cases z)) (ne_of e hl (by intro z; cases z))
theorem names_ok {c : Nat} {s : Int} (hc : c ∈ tl LET) : ∀ v ∈ namesL c s, NameOk v := by
  intro v hv
  obtain ⟨k, hk, rfl⟩ := List.mem_map.mp hv
  obtain ⟨m, hm⟩ : ∃ m : Nat, (7 * ((0 : Int) + (k : Int)) + s) % 16 = (m : Int) := ⟨((7 * ((0 : Int) + (k : Int)) + s) % 16).toNat, by omega⟩
  have hm16 : m < 16 := by omega
  have e : tl (nameL c s k) = c :: numL m := by
    unfold nameL
    rw [tl_append, hm, numT_tl]
    rfl
  refine ⟨⟨c, numL m, e, decide_eq_true hc, numL_ne m, fun d hd => num_digit hd⟩, ?_⟩
  have hl : (numL m).length ≤ 2 := numL_len (by decide) (by omega)
  rw [len_tl, e, List.length_cons]
  omega
def spForm (D : Nat) : Sp := fun vs H Q _ => ∃ (p l wl : Addr) (n : Int) (d : Nat) (N : List Str), vs = [.ref p, .ref wl, .int (d : Nat)] ∧ d < D ∧ PoolAt H p l n ∧ n + 10 * ((2 ^ d : Nat) : Int) < 1099511627000 ∧ H wl = some (.lst (N.map V.str)) ∧ wl ≠ p ∧ wl ≠ l ∧ 0 < N.length ∧ N.length ≤ 16 ∧ (∀ x ∈ N, NameOk x) ∧
  ∀ H' v fm, PoolAt H' p l (n + 10 * ((2 ^ d : Nat) : Int) - 1) → Keep p l H H' → FmAt H' fm v → fm.dep ≤ d → OkF fm → Q v H'
theorem fin5 {r : Int} (h0 : 0 ≤ r) (h1 : r < 5) : r = 0 ∨ r = 1 ∨ r = 2 ∨ r = 3 ∨ r = 4 := by omega
theorem fin3 {r : Int} (h0 : 0 ≤ r) (h1 : r < 3) : r = 0 ∨ r = 1 ∨ r = 2 := by omega
section
variable {P : Program} {w : World} {K : PySem.W.Frag} {mg : Str → Option Value} {base : Heap} {a : Ads}
theorem sc__law_mixed : FnScope ["_law_number", "_law_count", "_law_many"] ["_law_number", "_law_count", "_law_many"] (defScope s__law_mixed) := ⟨rfl, rfl, rfl, by decide +kernel, rfl, by decide +kernel, by decide +kernel⟩
theorem ok__law_mixed (T : Txt w K mg a) : FnOk P w K mg base CX0 1 a.f__law_mixed a.f__law_mixed_d ["_law_number", "_law_count", "_law_many"] spMixed := by
  refine T.F__law_mixed.ok sc__law_mixed (fun vs H Q E h => ?_) (fun cdv A outer s H vs Q E hr h => ?_)
  · obtain ⟨x, c, m, rfl, _⟩ := h
    rfl
  obtain ⟨x, c, m, rfl, ha0, ha1, hc0, hc1, hm, q⟩ := h
  refine ⟨_, (pss_one (ps_ret (pe_op op_mod (pe_op op_fdiv (pe_callTy call_int1 (by rfl) T.int (by decide +kernel) (pa_cons (pe_op op_mod (pe_op op_pow (pe_callTy call_int1 (by rfl) T.int (by decide +kernel) (pa_cons (pe_op op_add (pv 0) (pe_op op_mul pe_int (pv 1))) pa_nil)) pe_int) pe_int) pa_nil)) pe_int) (pv 2)))), ?_⟩
  refine ⟨_, rfl, _, rfl, _, _, rfl, rfl, .inl ⟨by decide, by decide⟩, _, _, rfl, rfl, .inl ⟨_, rfl, ?_⟩⟩
  refine ⟨_, _, rfl, rfl, ⟨by decide, by decide, by omega⟩, _, _, rfl, rfl, (by show (0 : Int) < 2147483647; decide), .inl ⟨_, rfl, ?_⟩⟩
  refine ⟨_, _, rfl, rfl, ⟨by decide, by decide⟩, _, rfl, _, _, rfl, rfl, hm, ?_⟩
  exact q _ (Int.emod_nonneg _ (by omega)) (Int.emod_lt_of_pos _ hm)
theorem sc__law_pool : FnScope ["_law_script", "_law_cells", "_law_seed", "_law_cell"] ["_law_script"] (defScope s__law_pool) := ⟨rfl, rfl, rfl, by decide +kernel, rfl, by decide +kernel, by decide +kernel⟩
theorem ok__law_pool (T : Txt w K mg a) : FnOk P w K mg base CX0 1 a.f__law_pool a.f__law_pool_d ["_law_script"] (spPool K) := by
  refine T.F__law_pool.ok sc__law_pool (fun vs H Q E h => ?_) (fun cdv A outer s H vs Q E hr h => ?_)
  · obtain ⟨a, ns, rfl, _⟩ := h
    rfl
  obtain ⟨a, ns, rfl, hS, hlen, q⟩ := h
  refine ⟨_, (pss_cons (ps_setLc (i := 1) (own := [("_law_cell", 3)]) (g := gName 3) (tt := tYes) (by rfl) sc__law_pool.nd rfl rfl (sw_true rfl rfl rfl (by decide +kernel)) (pi_list (pe_slice sl_list (pv 0) po_none (po_some pe_int))) (blkOk_by (own := [("_law_cell", 3)]) (N := ["_law_script", "_law_cells", "_law_seed", "_law_cell"]) (sc := defScope s__law_pool) (by decide +kernel)) (fun _ _ _ _ _ => pg_name (i := 3) sc__law_pool.nd rfl (Or.inl rfl)) (fun _ _ _ _ _ => pts_nil) (fun _ _ _ _ _ => (pe_callTy call_int1 (by rfl) T.int (by decide +kernel) (pa_cons (pv 3) pa_nil))))
    (pss_cons (ps_set (i := 2) sc__law_pool.nd rfl (Or.inl rfl) pe_int)
    (pss_cons (ps_for PassesOwn.never rfl (pi_list (pv 1)) (pg_name (i := 3) sc__law_pool.nd rfl (Or.inl rfl))
      (pss_one (ps_set (i := 2) sc__law_pool.nd rfl (Or.inl rfl) (pe_op op_mod (pe_callTy call_int1 (by rfl) T.int (by decide +kernel) (pa_cons (pe_op op_add (pe_op op_mul (pv 2) pe_int) (pv 3)) pa_nil)) pe_int))))
    (pss_one (ps_ret (pe_lst (pa_cons (pv 1) (pa_cons pe_int (pa_cons pe_int (pa_cons (pv 2) (pa_cons pe_int (pa_cons pe_int pa_nil)))))))))))), ?_⟩
  have ecut : cutV (ns.map V.int) none (some 63) = ns.map V.int := by
    unfold cutV
    rw [show HT.sIx (ns.map V.int).length (ns.map V.int).length (some 63) = min 63 (ns.map V.int).length from HT.sIx_nat _ _ 63, HT.sIx_none, List.length_map]
    show (ns.map V.int).take (min 63 ns.length - 0) = ns.map V.int
    exact List.take_of_length_le (by rw [List.length_map]; omega)
  refine ⟨_, rfl, 63, rfl, a, _, rfl, hS, fun c hc => ?_⟩
  have s1 : Same H (upd H c (.lst (cutV (ns.map V.int) none (some 63)))) := same_upd hc
  refine ⟨c, rfl, ⟨_, SqL.of upd_same⟩, fun D hD => ?_⟩
  have hcD : c ≠ D := ne_of_none upd_same hD
  refine lc_list (K := K) (a := c) (xs := ns.map V.int) (fun i H' => Same H H' ∧ H' c = some (.lst (ns.map V.int)) ∧ H' D = some (.lst ((ns.take i).map V.int))) ⟨s1.trans (same_upd hD), ?_, upd_same⟩ (fun i H' _ hh => SqL.of hh.2.1) ?_ ?_
  · rw [upd_ne hcD, upd_same, ecut]
  · rintro i x H' hi ⟨s2, hc2, hD2⟩
    obtain ⟨z, hz, rfl⟩ : ∃ z, ns[i]? = some z ∧ x = V.int z := by
      rw [List.getElem?_map] at hi
      cases e : ns[i]? with
      | none => rw [e] at hi; cases hi
      | some z => rw [e] at hi; exact ⟨z, rfl, (Option.some.inj hi).symm⟩
    have hil : i < ns.length := (List.getElem?_eq_some_iff.mp hz).1
    refine ⟨rfl, _, rfl, .inl ⟨_, rfl, _, hD2, ?_, ?_, ?_, ?_⟩⟩
    · rw [List.length_map, List.length_take]
      exact Nat.lt_of_le_of_lt (Nat.min_le_left _ _) (small1000 (by omega))
    · intro b o e
      rw [upd_ne (ne_of_none e (s1.free hD))]
      exact s2 _ _ e
    · rw [upd_ne hcD]; exact hc2
    · rw [upd_same, List.take_add_one, hz, List.map_append]; rfl
  · rintro H1 ⟨s2, hc2, hD2⟩
    rw [List.length_map, List.take_length] at hD2
    refine ⟨_, rfl, D, rfl, ⟨_, SqL.of hD2⟩, for_list (K := K) (a := D) (xs := ns.map V.int) (fun i σ H' => ∃ (v : Option V) (sd : Int), σ = [some (.ref a), some (.ref D), some (.int sd), v] ∧ H' = H1 ∧ 0 ≤ sd ∧ sd < 2147483647)
      ⟨none, 11, rfl, rfl, by decide, by decide⟩ (fun i σ H' _ ⟨_, _, _, e, _⟩ => by rw [e]; exact SqL.of hD2) ?_ ?_⟩
    · rintro i x σ H' hi ⟨v, sd, rfl, rfl, h0, h1⟩
      obtain ⟨z, hz, rfl⟩ : ∃ z, ns[i]? = some z ∧ x = V.int z := by
        rw [List.getElem?_map] at hi
        cases e : ns[i]? with
        | none => rw [e] at hi; cases hi
        | some z => rw [e] at hi; exact ⟨z, rfl, (Option.some.inj hi).symm⟩
      refine ⟨_, rfl, _, _, rfl, rfl, .inl ⟨by omega, by omega⟩, _, rfl, _, _, rfl, rfl, .inl ⟨_, rfl, _, _, rfl, rfl, (by show (0 : Int) < 2147483647; decide), ?_⟩⟩
      exact ⟨_, _, rfl, rfl, Int.emod_nonneg _ (by decide), Int.emod_lt_of_pos _ (by decide)⟩
    · rintro σ H' ⟨v, sd, rfl, rfl, h0, h1⟩
      refine ⟨_, rfl, _, rfl, (by show 6 ≤ sizeLine; decide), fun p hp => ?_⟩
      have hpD : D ≠ p := ne_of_none hD2 hp
      refine q _ p D (s2.trans (same_upd hp)) (s2.free hp) (s1.free hD) ⟨fun e => hpD e.symm, ns, 0, 0, sd, 0, 30, upd_same, by rw [upd_ne hpD]; exact hD2, by decide, by decide, by decide, h0, h1, hlen⟩
theorem sc__law_draw : FnScope ["_law_pool_here", "_law_many", "_law_at", "_law_cells", "_law_cell"] ["_law_pool_here", "_law_many"] (defScope s__law_draw) := ⟨rfl, rfl, rfl, by decide +kernel, rfl, by decide +kernel, by decide +kernel⟩
theorem ok__law_draw (T : Txt w K mg a) : FnOk P w K mg base CX0 2 a.f__law_draw a.f__law_draw_d ["_law_pool_here", "_law_many"] spDraw := by
  refine T.F__law_draw.ok sc__law_draw (fun vs H Q E h => ?_) (fun cdv A outer s H vs Q E hr h => ?_)
  · obtain ⟨p, l, n, m, rfl, _⟩ := h
    rfl
  obtain ⟨p, l, n, m, rfl, ⟨ne, cs, ix, cnt, seed, ph, bd, h1, h2, hix, hc0, hcn, hs0, hs1, hlen⟩, hn, hm, hml, q⟩ := h
  refine ⟨_, (pss_cons (ps_asg (pe_op op_add (pe_ix ix_list (pv 0) pe_int (fun _ _ => rfl)) pe_int) (pg_sub (pv 0) pe_int set_list))
    (pss_cons (ps_if (pt_cmpR op_ge (pe_ix ix_list (pv 0) pe_int (fun _ _ => rfl)) (pe_callB call_len_seq (by rfl) T.len PySem.boot_len (pa_cons (pe_ix ix_list (pv 0) pe_int (fun _ _ => rfl)) pa_nil)) (nomark _))
      (pss_one (ps_ret (pe_call (ok__law_mixed T) (hr.mono (by decide)) (by rfl) T.g__law_mixed T.F__law_mixed.kp T.b__law_mixed .nil pass0 (pa_cons (pe_ix ix_list (pv 0) pe_int (fun _ _ => rfl)) (pa_cons (pe_ix ix_list (pv 0) pe_int (fun _ _ => rfl)) (pa_cons (pv 1) pa_nil))))))
      pss_nil)
    (pss_cons (ps_set (i := 2) sc__law_draw.nd rfl (Or.inl rfl) (pe_ix ix_list (pv 0) pe_int (fun _ _ => rfl)))
    (pss_cons (ps_set (i := 3) sc__law_draw.nd rfl (Or.inl rfl) (pe_ix ix_list (pv 0) pe_int (fun _ _ => rfl)))
    (pss_cons (ps_set (i := 4) sc__law_draw.nd rfl (Or.inl rfl) (pe_ix ix_list (pv 3) (pv 2) (fun _ _ => rfl)))
    (pss_cons (ps_if (PW.pt (pw_and (pt_cmpR op_ne (pe_ix ix_list (pv 0) pe_int (fun _ _ => rfl)) pe_int (nomark _)) (pw_and1 (pt_cmpR op_lt (pv 4) (pe_op op_pow pe_int pe_int) (nomark _)))))
      (pss_cons (ps_asg (pe_op op_add (pe_ix ix_list (pv 0) pe_int (fun _ _ => rfl)) pe_int) (pg_sub (pv 0) pe_int set_list))
      (pss_cons (ps_if (pt_cmpR op_eq (pe_ix ix_list (pv 0) pe_int (fun _ _ => rfl)) pe_int (nomark _))
        (pss_cons (ps_asg (pe_op op_add (pv 2) pe_int) (pg_sub (pv 0) pe_int set_list))
        (pss_one (ps_asg pe_int (pg_sub (pv 0) pe_int set_list))))
        pss_nil)
      (pss_one (ps_ret (pe_call (ok__law_mixed T) (hr.mono (by decide)) (by rfl) T.g__law_mixed T.F__law_mixed.kp T.b__law_mixed .nil pass0 (pa_cons (pe_op op_mod (pe_callTy call_int1 (by rfl) T.int (by decide +kernel) (pa_cons (pv 4) pa_nil)) pe_int) (pa_cons (pe_ix ix_list (pv 0) pe_int (fun _ _ => rfl)) (pa_cons (pv 1) pa_nil))))))))
      pss_nil)
    (pss_cons (ps_asg pe_int (pg_sub (pv 0) pe_int set_list))
    (pss_cons (ps_asg (pe_op op_fdivW (pe_callTy call_int1 (by rfl) T.int (by decide +kernel) (pa_cons (pv 4) pa_nil)) (pv 1)) (pg_sub (pv 3) (pv 2) set_list))
    (pss_cons (ps_if (pt_cmpR op_eq (pe_ix ix_list (pv 3) (pv 2) (fun _ _ => rfl)) pe_int (nomark _))
      (pss_cons (ps_asg (pe_op op_add (pv 2) pe_int) (pg_sub (pv 0) pe_int set_list))
      (pss_one (ps_asg pe_int (pg_sub (pv 0) pe_int set_list))))
      pss_nil)
    (pss_one (ps_ret (pe_op op_mod (pe_callTy call_int1 (by rfl) T.int (by decide +kernel) (pa_cons (pv 4) pa_nil)) (pv 1))))))))))))), ?_⟩
  refine ⟨_, rfl, p, _, _, _, rfl, rfl, SqL.of h1, atI_nat (j := 2) rfl, _, _, rfl, rfl, _, rfl, p, _, _, 2, rfl, rfl, h1, rfl, ?_⟩
  have h1a : (upd H p (.lst [.ref l, .int ix, .int (cnt + 1), .int seed, .int ph, .int bd])) p = some (.lst [.ref l, .int ix, .int (cnt + 1), .int seed, .int ph, .int bd]) := upd_same
  have h2a : (upd H p (.lst [.ref l, .int ix, .int (cnt + 1), .int seed, .int ph, .int bd])) l = some (.lst (cs.map V.int)) := by rw [upd_ne ne.symm]; exact h2
  have hfa : ∀ b, b ≠ p → b ≠ l → (upd H p (.lst [.ref l, .int ix, .int (cnt + 1), .int seed, .int ph, .int bd])) b = H b := fun b hb _ => upd_ne hb
  show tSeq _ _ _ _ (upd H p (.lst [.ref l, .int ix, .int (cnt + 1), .int seed, .int ph, .int bd]))
  generalize (upd H p (.lst [.ref l, .int ix, .int (cnt + 1), .int seed, .int ph, .int bd])) = H1 at h1a h2a hfa ⊢
  refine ⟨_, rfl, p, _, _, _, rfl, rfl, SqL.of h1a, atI_nat (j := 1) rfl, _, rfl, p, _, _, _, rfl, rfl, SqL.of h1a, atI_nat (j := 0) rfl, l, _, rfl, .inl (SqL.of h2a), _, _, rfl, rfl, _, rfl, ite2 (fun e => ?_) (fun e => ?_)⟩
  · refine ⟨_, rfl, p, _, _, _, rfl, rfl, SqL.of h1a, atI_nat (j := 3) rfl, _, rfl, p, _, _, _, rfl, rfl, SqL.of h1a, atI_nat (j := 2) rfl, _, rfl, seed, cnt + 1, m, rfl, hs0, hs1, by omega, by omega, hm, fun r hr0 hr1 => ?_⟩
    exact q r _ hr0 hr1 ⟨ne, cs, ix, cnt + 1, seed, ph, bd, h1a, h2a, hix, by omega, by omega, hs0, hs1, hlen⟩ hfa
  · have hlt : ix < (cs.length : Int) := by
      have e' := of_decide_eq_false (Bool.eq_false_iff.mpr e)
      rw [List.length_map] at e'
      omega
    obtain ⟨j, rfl⟩ : ∃ j : Nat, ix = (j : Int) := ⟨ix.toNat, by omega⟩
    have hj : j < cs.length := by omega
    have hz : (cs.map V.int)[j]? = some (.int cs[j]) := by rw [List.getElem?_map, List.getElem?_eq_getElem hj]; rfl
    generalize cs[j] = z at hz
    refine ⟨_, rfl, p, _, _, _, rfl, rfl, SqL.of h1a, atI_nat (j := 1) rfl, ?_⟩
    refine ⟨_, rfl, p, _, _, _, rfl, rfl, SqL.of h1a, atI_nat (j := 0) rfl, ?_⟩
    refine ⟨_, rfl, _, rfl, l, _, _, _, rfl, rfl, SqL.of h2a, atI_nat (j := j) hz, ?_⟩
    dsimp only [gName]
    refine st_seq (st_ite (b := (!decide (V.int ph = V.int 2)) && decide (z < 10 ^ (18 : Int).toNat)) (ans_and2 (fun Q q => ⟨_, rfl, p, _, _, _, rfl, rfl, SqL.of h1a, atI_nat (j := 4) rfl, rfl, _, rfl, q⟩) (fun Q q => ⟨_, rfl, _, _, rfl, rfl, ⟨by decide, by decide, by decide⟩, _, _, rfl, rfl, _, rfl, q⟩)) (fun e1 => ?_) (fun e1 => ?_))
    · -- a small cell: the phase grows
      refine ⟨_, rfl, p, _, _, _, rfl, rfl, SqL.of h1a, atI_nat (j := 4) rfl, _, _, rfl, rfl, _, rfl, p, _, _, 4, rfl, rfl, h1a, rfl, ?_⟩
      dsimp only [gName]
      refine st_seq (st_ite (b := decide (V.int (ph + 1) = V.int 2)) (fun Q q => ⟨_, rfl, p, _, _, _, rfl, rfl, SqL.of upd_same, atI_nat (j := 4) rfl, rfl, _, rfl, q⟩) (fun e2 => ?_) (fun e2 => ?_))
      · refine ⟨_, rfl, _, _, rfl, rfl, _, rfl, p, _, _, 1, rfl, rfl, upd_same, rfl, _, rfl, p, _, _, 4, rfl, rfl, upd_same, rfl, ?_⟩
        refine ⟨_, rfl, .inl ⟨_, rfl, _, _, rfl, rfl, (by show (0 : Int) < 2147483647; decide), _, rfl, p, _, _, _, rfl, rfl, SqL.of upd_same, atI_nat (j := 2) rfl, _, rfl, _, cnt + 1, m, rfl, Int.emod_nonneg _ (by decide), Int.emod_lt_of_pos _ (by decide), by omega, by omega, hm, fun r hr0 hr1 => ?_⟩⟩
        exact q r _ hr0 hr1 ⟨ne, cs, (j : Int) + 1, cnt + 1, seed, 0, bd, upd_same, by rw [upd_ne ne.symm, upd_ne ne.symm, upd_ne ne.symm]; exact h2a, by omega, by omega, by omega, hs0, hs1, hlen⟩ fun b hb hb2 => by rw [upd_ne hb, upd_ne hb, upd_ne hb]; exact hfa b hb hb2
      · refine ⟨_, rfl, .inl ⟨_, rfl, _, _, rfl, rfl, (by show (0 : Int) < 2147483647; decide), _, rfl, p, _, _, _, rfl, rfl, SqL.of upd_same, atI_nat (j := 2) rfl, _, rfl, _, cnt + 1, m, rfl, Int.emod_nonneg _ (by decide), Int.emod_lt_of_pos _ (by decide), by omega, by omega, hm, fun r hr0 hr1 => ?_⟩⟩
        exact q r _ hr0 hr1 ⟨ne, cs, (j : Int), cnt + 1, seed, ph + 1, bd, upd_same, by rw [upd_ne ne.symm]; exact h2a, by omega, by omega, by omega, hs0, hs1, hlen⟩ fun b hb hb2 => by rw [upd_ne hb]; exact hfa b hb hb2
    · -- a great one: divided
      refine ⟨_, rfl, p, _, _, 4, rfl, rfl, h1a, rfl, ?_⟩
      refine ⟨_, rfl, .inl ⟨_, rfl, _, rfl, _, _, rfl, rfl, ⟨hm, hml⟩, _, rfl, _, rfl, l, _, _, j, rfl, rfl, by rw [upd_ne ne.symm]; exact h2a, ixN_at (by rw [List.length_map]; exact hj), ?_⟩⟩
      have h1b : ∀ x, (upd (upd H1 p (.lst [.ref l, .int j, .int (cnt + 1), .int seed, .int 2, .int bd])) l x) p = some (.lst [.ref l, .int j, .int (cnt + 1), .int seed, .int 2, .int bd]) := fun x => by rw [upd_ne ne]; exact upd_same
      have e3 : (cs.map V.int).set j (.int (z / m)) = (cs.set j (z / m)).map V.int := by rw [List.map_set]
      have hl2 : (cs.set j (z / m)).length ≤ 63 := by rw [List.length_set]; exact hlen
      have hz2 : ((cs.map V.int).set j (.int (z / m)))[j]? = some (.int (z / m)) := by rw [List.getElem?_set_self]; rw [List.length_map]; exact hj
      dsimp only [gName]
      refine st_seq (st_ite (b := decide (V.int (z / m) = V.int 0)) (fun Q q => ⟨_, rfl, _, rfl, l, _, _, _, rfl, rfl, SqL.of upd_same, atI_nat (j := j) hz2, rfl, _, rfl, q⟩) (fun e2 => ?_) (fun e2 => ?_))
      · refine ⟨_, rfl, _, _, rfl, rfl, _, rfl, p, _, _, 1, rfl, rfl, h1b _, rfl, _, rfl, p, _, _, 4, rfl, rfl, upd_same, rfl, ?_⟩
        refine ⟨_, rfl, .inl ⟨_, rfl, _, rfl, _, _, rfl, rfl, hm, ?_⟩⟩
        exact q _ _ (Int.emod_nonneg _ (by omega)) (Int.emod_lt_of_pos _ hm) ⟨ne, _, (j : Int) + 1, cnt + 1, seed, 0, bd, upd_same, by rw [upd_ne ne.symm, upd_ne ne.symm, upd_same, e3], by omega, by omega, by omega, hs0, hs1, hl2⟩ fun b hb hb2 => by rw [upd_ne hb, upd_ne hb, upd_ne hb2, upd_ne hb]; exact hfa b hb hb2
      · refine ⟨_, rfl, .inl ⟨_, rfl, _, rfl, _, _, rfl, rfl, hm, ?_⟩⟩
        exact q _ _ (Int.emod_nonneg _ (by omega)) (Int.emod_lt_of_pos _ hm) ⟨ne, _, (j : Int), cnt + 1, seed, 2, bd, h1b _, by rw [upd_same, e3], by omega, by omega, by omega, hs0, hs1, hl2⟩ fun b hb hb2 => by rw [upd_ne hb2, upd_ne hb]; exact hfa b hb hb2
theorem sc__law_names : FnScope ["_law_pool_here", "_law_letter", "_law_shift", "_law_k"] ["_law_pool_here"] (defScope s__law_names) := ⟨rfl, rfl, rfl, by decide +kernel, rfl, by decide +kernel, by decide +kernel⟩
theorem ok__law_names (T : Txt w K mg a) : FnOk P w K mg base CX0 3 a.f__law_names a.f__law_names_d ["_law_pool_here"] spNames := by
  refine T.F__law_names.ok sc__law_names (fun vs H Q E h => ?_) (fun cdv A outer s H vs Q E hr h => ?_)
  · obtain ⟨p, l, n, rfl, _⟩ := h
    rfl
  obtain ⟨p, l, n, rfl, hP, hn, q⟩ := h
  refine ⟨_, (pss_cons (ps_set (i := 1) sc__law_names.nd rfl (Or.inr rfl) (pe_ix ix_str pe_str (pe_call (ok__law_draw T) (hr.mono (by decide)) (by rfl) T.g__law_draw T.F__law_draw.kp T.b__law_draw .nil pass0 (pa_cons (pv 0) (pa_cons pe_int pa_nil))) (fun _ _ => rfl)))
    (pss_cons (ps_set (i := 2) sc__law_names.nd rfl (Or.inr rfl) (pe_call (ok__law_draw T) (hr.mono (by decide)) (by rfl) T.g__law_draw T.F__law_draw.kp T.b__law_draw .nil pass0 (pa_cons (pv 0) (pa_cons pe_int pa_nil))))
    (pss_one (ps_ret (pe_lc (own := [("_law_k", 3)]) (g := gName 3) (tt := tYes) (by rfl) sc__law_names.nd (pi_range1 (by rfl) T.range (pa_cons pe_int pa_nil)) (blkOk_by (own := [("_law_k", 3)]) (N := ["_law_pool_here", "_law_letter", "_law_shift", "_law_k"]) (sc := defScope s__law_names) (by decide +kernel)) (fun _ _ _ _ _ => pg_name (i := 3) sc__law_names.nd rfl (Or.inl rfl)) (fun _ _ _ _ _ => pts_nil) (fun _ _ _ _ _ => (pe_op op_add_str (pv 1) (pe_callTy call_str_int (by rfl) T.str (by decide +kernel) (pa_cons (pe_op op_mod (pe_op op_add (pe_op op_mul pe_int (pv 3)) (pv 2)) pe_int) pa_nil))))))))), ?_⟩
  refine ⟨_, rfl, p, l, n, 26, rfl, hP, by omega, by decide, log_small (by decide) (by decide), fun r1 H1 r10 r11 P1 f1 => ?_⟩
  obtain ⟨c, hc, hm⟩ := atI_ex (xs := tl LET) (r := r1) r10 (by rw [show (tl LET).length = 26 from by decide +kernel]; exact r11)
  refine ⟨_, r1, c, rfl, rfl, (by decide +kernel), hc, ?_⟩
  refine ⟨_, rfl, p, l, n + 1, 16, rfl, P1, by omega, by decide, log_small (by decide) (by decide), fun r2 H2 r20 r21 P2 f2 => ?_⟩
  refine ⟨16, rfl, by decide, by decide, fun D hD => ?_⟩
  have hDo := P2.off hD
  have k2 : Keep p l H H2 := (Keep.draw f1).trans (Keep.draw f2)
  have nD : H D = none := k2.free hD hDo.1 hDo.2
  refine lc_range (lo := 0) (n := 16) (fun i H' => PoolAt H' p l (n + 2) ∧ Keep p l H H' ∧ H' D = some (.lst ((((List.range i).map (nameL c r2))).map V.str)))
    ⟨(P2.mono (by omega)).same (same_upd hD), k2.trans (Keep.of (same_upd hD)), upd_same⟩ ?_ ?_
  · rintro i H' hi ⟨P3, k3, hD3⟩
    have h16 : 0 ≤ (7 * ((0 : Int) + (i : Int)) + r2) % 16 ∧ (7 * ((0 : Int) + (i : Int)) + r2) % 16 < 16 := ⟨Int.emod_nonneg _ (by decide), Int.emod_lt_of_pos _ (by decide)⟩
    refine ⟨rfl, _, rfl, _, rfl, _, _, rfl, rfl, .inl ⟨by decide, by decide⟩, _, rfl, _, _, rfl, rfl, _, _, rfl, rfl, (by show (0 : Int) < 16; decide), _, rfl, log_ok h16.1 (by omega), _, _, rfl, rfl, ?_, _, hD3, ?_, ?_, ?_, ?_⟩
    · have := numT_len h16.1 (show _ < 1000000000000000000 by omega)
      unfold numT at this
      exact bigLe (by show 1 + _ ≤ 1000000; omega)
    · rw [List.length_map, List.length_map, List.length_range]
      exact bigLine (by omega)
    · exact P3.keep (upd_ne hDo.1.symm) (upd_ne hDo.2.symm)
    · exact k3.mut nD
    · rw [upd_same, List.range_succ, List.map_append, List.map_append]
      rfl
  · rintro H' ⟨P3, k3, hD3⟩
    exact q H' D c r2 P3 k3 hDo.1 hDo.2 nD hm r20 r21 hD3
theorem sc__law_form : FnScope ["_law_pool_here", "_law_words_here", "_law_depth", "_law_choice", "_law_field", "_law_first"] ["_law_pool_here", "_law_words_here", "_law_depth"] (defScope s__law_form) := ⟨rfl, rfl, rfl, by decide +kernel, rfl, by decide +kernel, by decide +kernel⟩
theorem ok_form (T : Txt w K mg a) : ∀ D : Nat, FnOk P w K mg base CX0 (D + 3) a.f__law_form a.f__law_form_d ["_law_pool_here", "_law_words_here", "_law_depth"] (spForm D)
  | 0 => ⟨fun vs H Q E h => by obtain ⟨p, l, wl, n, d, N, _, h, _⟩ := h; exact absurd h (Nat.not_lt_zero _), fun A outer s H args us vs Q E _ _ _ _ h => by obtain ⟨p, l, wl, n, d, N, _, h, _⟩ := h; exact absurd h (Nat.not_lt_zero _)⟩
  | D + 1 => by
    have F1 := ok_form T D
    refine T.F__law_form.ok sc__law_form (fun vs H Q E h => ?_) (fun cdv A outer s H vs Q E hr h => ?_)
    · obtain ⟨p, l, wl, n, d, N, rfl, _⟩ := h
      rfl
    obtain ⟨p, l, wl, n, d, N, rfl, hd, hP, hn, hN, wp, wl', hN0, hN1, hok, q⟩ := h
    refine ⟨_, (pss_cons (ps_set (i := 3) sc__law_form.nd rfl (Or.inl rfl) (pe_call (ok__law_draw T) (hr.mono (by omega)) (by rfl) T.g__law_draw T.F__law_draw.kp T.b__law_draw .nil pass0 (pa_cons (pv 0) (pa_cons pe_int pa_nil))))
    (pss_cons (ps_if (PW.pt (pw_and (pt_cmpR op_gt (pv 2) pe_int (nomark _)) (pw_and (pt_cmpR op_gt (pe_ix ix_list (pv 0) pe_int (fun _ _ => rfl)) pe_int (nomark _)) (pw_and1 (pt_cmpR op_gt (pv 3) pe_int (nomark _))))))
      (pss_cons (ps_asg (pe_op op_sub (pe_ix ix_list (pv 0) pe_int (fun _ _ => rfl)) pe_int) (pg_sub (pv 0) pe_int set_list))
      (pss_cons (ps_set (i := 5) sc__law_form.nd rfl (Or.inl rfl) (pe_call F1 (hr.mono (by omega)) (by rfl) T.g__law_form T.F__law_form.kp T.b__law_form .nil pass0 (pa_cons (pv 0) (pa_cons (pv 1) (pa_cons (pe_op op_sub (pv 2) pe_int) pa_nil)))))
      (pss_cons (ps_if (pt_cmpR op_eq (pv 3) pe_int (nomark _))
        (pss_one (ps_ret (pe_tup (pa_cons pe_str (pa_cons (pv 5) pa_nil)))))
        pss_nil)
      (pss_one (ps_ret (pe_tup (pa_cons (pe_ix ix_list (pe_lst (pa_cons pe_str (pa_cons pe_str pa_nil))) (pe_op op_mod (pv 3) pe_int) (fun _ _ => rfl)) (pa_cons (pv 5) (pa_cons (pe_call F1 (hr.mono (by omega)) (by rfl) T.g__law_form T.F__law_form.kp T.b__law_form .nil pass0 (pa_cons (pv 0) (pa_cons (pv 1) (pa_cons (pe_op op_sub (pv 2) pe_int) pa_nil)))) pa_nil)))))))))
      pss_nil)
    (pss_cons (ps_set (i := 4) sc__law_form.nd rfl (Or.inl rfl) (pe_ix ix_list (pe_lst (pa_cons pe_str (pa_cons pe_str (pa_cons pe_str (pa_cons pe_str (pa_cons pe_str pa_nil)))))) (pe_call (ok__law_draw T) (hr.mono (by omega)) (by rfl) T.g__law_draw T.F__law_draw.kp T.b__law_draw .nil pass0 (pa_cons (pv 0) (pa_cons pe_int pa_nil))) (fun _ _ => rfl)))
    (pss_cons (ps_if (pt_cmpR op_eq (pv 3) pe_int (nomark _))
      (pss_one (ps_ret (pe_tup (pa_cons pe_str pa_nil))))
      pss_nil)
    (pss_cons (ps_if (pt_cmpR op_eq (pv 4) pe_str (nomark _))
      (pss_one (ps_ret (pe_tup (pa_cons pe_str (pa_cons (pe_ix ix_list (pe_lst (pa_cons (pe_call (ok__law_draw T) (hr.mono (by omega)) (by rfl) T.g__law_draw T.F__law_draw.kp T.b__law_draw .nil pass0 (pa_cons (pv 0) (pa_cons pe_int pa_nil))) (pa_cons (pe_call (ok__law_draw T) (hr.mono (by omega)) (by rfl) T.g__law_draw T.F__law_draw.kp T.b__law_draw .nil pass0 (pa_cons (pv 0) (pa_cons (pe_op op_pow pe_int pe_int) pa_nil))) pa_nil))) (pe_callTy call_int1 (by rfl) T.int (by decide +kernel) (pa_cons (pe_cmpR op_eq (pe_call (ok__law_draw T) (hr.mono (by omega)) (by rfl) T.g__law_draw T.F__law_draw.kp T.b__law_draw .nil pass0 (pa_cons (pv 0) (pa_cons pe_int pa_nil))) pe_int (nomark _)) pa_nil)) (fun _ _ => rfl)) pa_nil)))))
      pss_nil)
    (pss_cons (ps_if (pt_cmpR op_eq (pv 4) pe_str (nomark _))
      (pss_one (ps_ret (pe_tup (pa_cons (pv 4) (pa_cons (pe_ix ix_list (pe_lst (pa_cons pe_str (pa_cons pe_str (pa_cons pe_str pa_nil)))) (pe_call (ok__law_draw T) (hr.mono (by omega)) (by rfl) T.g__law_draw T.F__law_draw.kp T.b__law_draw .nil pass0 (pa_cons (pv 0) (pa_cons pe_int pa_nil))) (fun _ _ => rfl)) pa_nil)))))
      pss_nil)
    (pss_one (ps_ret (pe_tup (pa_cons (pv 4) (pa_cons (pe_ix ix_list (pv 1) (pe_call (ok__law_draw T) (hr.mono (by omega)) (by rfl) T.g__law_draw T.F__law_draw.kp T.b__law_draw .nil pass0 (pa_cons (pv 0) (pa_cons (pe_callB call_len_seq (by rfl) T.len PySem.boot_len (pa_cons (pv 1) pa_nil)) pa_nil))) (fun _ _ => rfl)) pa_nil))))))))))), ?_⟩
    have h2d : 1 ≤ 2 ^ d := Nat.one_le_two_pow
    refine ⟨_, rfl, p, l, n, 9, rfl, hP, by omega, by decide, log_small (by decide) (by decide), fun r1 H1 r10 r11 P1 f1 => ?_⟩
    have k1 : Keep p l H H1 := Keep.draw f1
    have hN1' : H1 wl = some (.lst (N.map V.str)) := k1 _ _ hN wp wl'
    obtain ⟨ne, cs, ix, cnt, seed, ph, bd, hp1, hl1, rest⟩ := id P1
    dsimp only [gName]
    refine st_seq (st_ite (b := decide ((0 : Int) < (d : Int)) && (decide ((0 : Int) < bd) && decide ((3 : Int) < r1))) (ans_and2 (fun Q q => ⟨_, rfl, _, _, rfl, rfl, _, rfl, q⟩) (ans_and2 (fun Q q => ⟨_, rfl, p, _, _, _, rfl, rfl, SqL.of hp1, atI_nat (j := 5) rfl, _, _, rfl, rfl, _, rfl, q⟩) (fun Q q => ⟨_, rfl, _, _, rfl, rfl, _, rfl, q⟩))) (fun e => ?_) (fun e => ?_))
    · rw [Bool.and_eq_true, Bool.and_eq_true] at e
      have hd0 : (0 : Int) < (d : Int) := of_decide_eq_true e.1
      have hr3 : (3 : Int) < r1 := of_decide_eq_true e.2.2
      obtain ⟨d', rfl⟩ : ∃ d', d = d' + 1 := ⟨d - 1, by omega⟩
      have e2 : ((2 ^ (d' + 1) : Nat) : Int) = 2 * ((2 ^ d' : Nat) : Int) := by rw [Nat.pow_succ]; omega
      have h2d' : 1 ≤ 2 ^ d' := Nat.one_le_two_pow
      have ed : ((d' + 1 : Nat) : Int) - 1 = (d' : Nat) := by omega
      rw [e2] at hn q
      refine ⟨_, rfl, p, _, _, _, rfl, rfl, SqL.of hp1, atI_nat (j := 5) rfl, _, _, rfl, rfl, _, rfl, p, _, _, 5, rfl, rfl, hp1, rfl, ?_⟩
      have P2 : PoolAt (upd H1 p (.lst [.ref l, .int ix, .int cnt, .int seed, .int ph, .int (bd - 1)])) p l (n + 1) := ⟨ne, cs, ix, cnt, seed, ph, bd - 1, upd_same, by rw [upd_ne ne.symm]; exact hl1, rest⟩
      have k2 : Keep p l H (upd H1 p (.lst [.ref l, .int ix, .int cnt, .int seed, .int ph, .int (bd - 1)])) := k1.trans fun b x e h _ => by rw [upd_ne h]; exact e
      show tSeq _ _ _ _ (upd H1 p (.lst [.ref l, .int ix, .int cnt, .int seed, .int ph, .int (bd - 1)]))
      generalize (upd H1 p (.lst [.ref l, .int ix, .int cnt, .int seed, .int ph, .int (bd - 1)])) = H2 at P2 k2 ⊢
      refine ⟨_, rfl, _, rfl, _, rfl, _, _, rfl, rfl, p, l, wl, n + 1, d', N, by show [V.ref p, V.ref wl, V.int (((d' + 1 : Nat) : Int) - 1)] = _; rw [ed], by omega, P2, by omega, k2 _ _ hN wp wl', wp, wl', hN0, hN1, hok, fun H3 v3 fm3 P3 k3 hF3 hd3 ok3 => ?_⟩
      have k03 := k2.trans k3
      refine ⟨_, rfl, rfl, _, rfl, ite2 (fun e4 => ?_) (fun e4 => ?_)⟩
      · refine ⟨_, rfl, (by show 2 ≤ sizeLine; decide), fun c nc => ?_⟩
        exact q _ _ (.no fm3) ((P3.mono (by omega)).same (same_upd nc)) (k03.trans (Keep.of (same_upd nc))) ⟨c, v3, rfl, upd_same, hF3.same (same_upd nc)⟩ (by show fm3.dep + 1 ≤ _; omega) ok3
      · have hr4 : r1 ≠ 4 := fun z => e4 (decide_eq_true (congrArg V.int z))
        have two : ∃ (k : Str) (mk : Fm → Fm → Fm), atI [V.str "and", V.str "or"] (r1 % 2) = some (.str k) ∧ ((k = "and" ∧ mk = Fm.and) ∨ (k = "or" ∧ mk = Fm.or)) := by
          rcases (show r1 = 5 ∨ r1 = 6 ∨ r1 = 7 ∨ r1 = 8 by omega) with rfl | rfl | rfl | rfl
          · exact ⟨_, Fm.or, atI_nat (j := 1) rfl, .inr ⟨rfl, rfl⟩⟩
          · exact ⟨_, Fm.and, atI_nat (j := 0) rfl, .inl ⟨rfl, rfl⟩⟩
          · exact ⟨_, Fm.or, atI_nat (j := 1) rfl, .inr ⟨rfl, rfl⟩⟩
          · exact ⟨_, Fm.and, atI_nat (j := 0) rfl, .inl ⟨rfl, rfl⟩⟩
        obtain ⟨k, mk, hat, hk⟩ := two
        refine ⟨(by show 2 ≤ sizeLine; decide), fun l0 n0 => ⟨_, rfl, _, _, rfl, rfl, (by show (0 : Int) < 2; decide), l0, _, _, _, rfl, rfl, SqL.of upd_same, hat, _, rfl, ?_⟩⟩
        have s0 := same_upd (o := .lst [V.str "and", V.str "or"]) n0
        have P4 := P3.same s0
        have k04 := k03.trans (Keep.of s0)
        refine ⟨_, rfl, _, rfl, _, rfl, _, _, rfl, rfl, p, l, wl, _, d', N, by show [V.ref p, V.ref wl, V.int (((d' + 1 : Nat) : Int) - 1)] = _; rw [ed], by omega, P4, by omega, k04 _ _ hN wp wl', wp, wl', hN0, hN1, hok, fun H5 v5 fm5 P5 k5 hF5 hd5 ok5 => ⟨(by show 3 ≤ sizeLine; decide), fun c nc => ?_⟩⟩
        have sc := same_upd (o := .tup [V.str k, v3, v5]) nc
        have hF3' := ((hF3.same s0).imp (keep_tup P4 k5)).same sc
        have hF5' := hF5.same sc
        have P6 := (P5.mono (show _ ≤ n + 10 * (2 * ((2 ^ d' : Nat) : Int)) - 1 by omega)).same sc
        have k06 := (k04.trans k5).trans (Keep.of sc)
        rcases hk with ⟨rfl, rfl⟩ | ⟨rfl, rfl⟩
        · exact q _ _ (.and fm3 fm5) P6 k06 ⟨c, v3, v5, rfl, upd_same, hF3', hF5'⟩ (by show max _ _ + 1 ≤ _; omega) ⟨ok3, ok5⟩
        · exact q _ _ (.or fm3 fm5) P6 k06 ⟨c, v3, v5, rfl, upd_same, hF3', hF5'⟩ (by show max _ _ + 1 ≤ _; omega) ⟨ok3, ok5⟩
    · refine ⟨(by show 5 ≤ sizeLine; decide), fun l0 n0 => ?_⟩
      have s0 := same_upd (o := .lst [V.str "function", V.str "place", V.str "kind", V.str "verdict", V.str "changes"]) n0
      have hl0 : (upd H1 l0 (.lst [V.str "function", V.str "place", V.str "kind", V.str "verdict", V.str "changes"])) l0 = some (.lst [V.str "function", V.str "place", V.str "kind", V.str "verdict", V.str "changes"]) := upd_same
      have lo := P1.off n0
      refine ⟨_, rfl, p, l, n + 1, 5, rfl, P1.same s0, by omega, by decide, log_small (by decide) (by decide), fun r2 H2 r20 r21 P2 f2 => ?_⟩
      have k2 : Keep p l H H2 := (k1.trans (Keep.of s0)).trans (Keep.draw f2)
      have hl2 : H2 l0 = some (.lst [V.str "function", V.str "place", V.str "kind", V.str "verdict", V.str "changes"]) := by rw [f2 _ lo.1 lo.2]; exact hl0
      have hN2 := k2 _ _ hN wp wl'
      clear hl0 s0 f2 P1 hp1 hl1 rest f1 k1 hN1'
      have mono : ∀ {H' : Hp} {m : Int}, PoolAt H' p l m → m ≤ n + 8 → PoolAt H' p l (n + 10 * ((2 ^ d : Nat) : Int) - 1) := fun P h => P.mono (by omega)
      rcases fin5 r20 r21 with rfl | rfl | rfl | rfl | rfl
      · refine ⟨l0, _, _, _, rfl, rfl, SqL.of hl2, atI_nat (j := 0) rfl, ?_⟩
        refine ⟨_, rfl, rfl, _, rfl, ite2 (fun e4 => ?_) (fun e4 => ?_)⟩
        · refine ⟨(by show 1 ≤ sizeLine; decide), fun c nc => ?_⟩
          exact q _ _ .any ((mono P2 (by omega)).same (same_upd nc)) (k2.trans (Keep.of (same_upd nc))) ⟨c, rfl, upd_same⟩ (Nat.zero_le _) trivial
        · refine ⟨_, rfl, rfl, _, rfl, ite2 (no_b (dn (x := "function") (y := "place") (by decide +kernel))) (fun _ => ?_)⟩
          refine ⟨_, rfl, rfl, _, rfl, ite2 (no_b (dn (x := "function") (y := "verdict") (by decide +kernel))) (fun _ => ?_)⟩
          refine ⟨_, rfl, _, rfl, _, rfl, _, rfl, wl, _, rfl, .inl (SqL.of hN2), p, l, _, _, rfl, P2, by omega, by rw [List.length_map]; omega, log_small (by rw [List.length_map]; omega) (by rw [List.length_map]; omega), fun r3 H3 r30 r31 P3 f3 => ?_⟩
          obtain ⟨x0, hx0, hm0⟩ := atI_ex (xs := N.map V.str) (r := r3) r30 r31
          obtain ⟨x, hx, rfl⟩ := List.mem_map.mp hm0
          have hN3 : H3 wl = some (.lst (N.map V.str)) := by rw [f3 _ wp wl']; exact hN2
          refine ⟨wl, _, _, _, rfl, rfl, SqL.of hN3, hx0, (by show 2 ≤ sizeLine; decide), fun c nc => ?_⟩
          exact q _ _ (.word .fn x) ((mono P3 (by omega)).same (same_upd nc)) ((k2.trans (Keep.draw f3)).trans (Keep.of (same_upd nc))) ⟨c, rfl, upd_same⟩ (Nat.zero_le _) (hok x hx)
      · refine ⟨l0, _, _, _, rfl, rfl, SqL.of hl2, atI_nat (j := 1) rfl, ?_⟩
        refine ⟨_, rfl, rfl, _, rfl, ite2 (fun e4 => ?_) (fun e4 => ?_)⟩
        · refine ⟨(by show 1 ≤ sizeLine; decide), fun c nc => ?_⟩
          exact q _ _ .any ((mono P2 (by omega)).same (same_upd nc)) (k2.trans (Keep.of (same_upd nc))) ⟨c, rfl, upd_same⟩ (Nat.zero_le _) trivial
        · refine ⟨_, rfl, rfl, _, rfl, ite2 (fun _ => ?_) (yes_b (decide_eq_true rfl))⟩
          refine ⟨_, rfl, p, l, _, 6, rfl, P2, by omega, by decide, log_small (by decide) (by decide), fun r3 H3 r30 r31 P3 f3 => ?_⟩
          refine ⟨_, rfl, _, _, rfl, rfl, ⟨by decide, by decide, by decide⟩, p, l, _, _, rfl, P3, by omega, by decide, log_small (by decide) (by decide), fun r4 H4 r40 r41 P4 f4 => ⟨(by show 2 ≤ sizeLine; decide), fun l1 n1 => ?_⟩⟩
          have s4 := same_upd (o := .lst [V.int r3, V.int r4]) n1
          have lo1 := P4.off n1
          refine ⟨_, rfl, p, l, _, 5, rfl, P4.same s4, by omega, by decide, log_small (by decide) (by decide), fun r5 H5 r50 r51 P5 f5 => ⟨rfl, .inr ⟨_, rfl, ?_⟩⟩⟩
          have hl1 : H5 l1 = some (.lst [V.int r3, V.int r4]) := by rw [f5 _ lo1.1 lo1.2]; exact upd_same
          have k5 := (((k2.trans (Keep.draw f3)).trans (Keep.draw f4)).trans (Keep.of s4)).trans (Keep.draw f5)
          have hr4 : r4 < 1000000000000 := r41
          have done : ∀ (m : Nat) (c : Addr) , (m : Int) < 1000000000000 → H5 c = none → Q (.ref c) (upd H5 c (.tup [V.str "place", V.int (m : Nat)])) := fun m c hm nc =>
            q _ _ (.place m) ((mono P5 (by omega)).same (same_upd nc)) (k5.trans (Keep.of (same_upd nc))) ⟨c, rfl, upd_same⟩ (Nat.zero_le _) hm
          obtain ⟨m3, rfl⟩ : ∃ m : Nat, r3 = (m : Int) := ⟨r3.toNat, by omega⟩
          obtain ⟨m4, rfl⟩ : ∃ m : Nat, r4 = (m : Int) := ⟨r4.toNat, by omega⟩
          by_cases hb : V.int r5 = V.int 0
          · rw [decide_eq_true hb]
            exact ⟨l1, _, _, _, rfl, rfl, SqL.of hl1, atI_nat (j := 1) rfl, (by show 2 ≤ sizeLine; decide), fun c nc => done m4 c hr4 nc⟩
          · rw [decide_eq_false hb]
            exact ⟨l1, _, _, _, rfl, rfl, SqL.of hl1, atI_nat (j := 0) rfl, (by show 2 ≤ sizeLine; decide), fun c nc => done m3 c (by omega) nc⟩
      · refine ⟨l0, _, _, _, rfl, rfl, SqL.of hl2, atI_nat (j := 2) rfl, ?_⟩
        refine ⟨_, rfl, rfl, _, rfl, ite2 (fun e4 => ?_) (fun e4 => ?_)⟩
        · refine ⟨(by show 1 ≤ sizeLine; decide), fun c nc => ?_⟩
          exact q _ _ .any ((mono P2 (by omega)).same (same_upd nc)) (k2.trans (Keep.of (same_upd nc))) ⟨c, rfl, upd_same⟩ (Nat.zero_le _) trivial
        · refine ⟨_, rfl, rfl, _, rfl, ite2 (no_b (dn (x := "kind") (y := "place") (by decide +kernel))) (fun _ => ?_)⟩
          refine ⟨_, rfl, rfl, _, rfl, ite2 (no_b (dn (x := "kind") (y := "verdict") (by decide +kernel))) (fun _ => ?_)⟩
          refine ⟨_, rfl, _, rfl, _, rfl, _, rfl, wl, _, rfl, .inl (SqL.of hN2), p, l, _, _, rfl, P2, by omega, by rw [List.length_map]; omega, log_small (by rw [List.length_map]; omega) (by rw [List.length_map]; omega), fun r3 H3 r30 r31 P3 f3 => ?_⟩
          obtain ⟨x0, hx0, hm0⟩ := atI_ex (xs := N.map V.str) (r := r3) r30 r31
          obtain ⟨x, hx, rfl⟩ := List.mem_map.mp hm0
          have hN3 : H3 wl = some (.lst (N.map V.str)) := by rw [f3 _ wp wl']; exact hN2
          refine ⟨wl, _, _, _, rfl, rfl, SqL.of hN3, hx0, (by show 2 ≤ sizeLine; decide), fun c nc => ?_⟩
          exact q _ _ (.word .kd x) ((mono P3 (by omega)).same (same_upd nc)) ((k2.trans (Keep.draw f3)).trans (Keep.of (same_upd nc))) ⟨c, rfl, upd_same⟩ (Nat.zero_le _) (hok x hx)
      · refine ⟨l0, _, _, _, rfl, rfl, SqL.of hl2, atI_nat (j := 3) rfl, ?_⟩
        refine ⟨_, rfl, rfl, _, rfl, ite2 (fun e4 => ?_) (fun e4 => ?_)⟩
        · refine ⟨(by show 1 ≤ sizeLine; decide), fun c nc => ?_⟩
          exact q _ _ .any ((mono P2 (by omega)).same (same_upd nc)) (k2.trans (Keep.of (same_upd nc))) ⟨c, rfl, upd_same⟩ (Nat.zero_le _) trivial
        · refine ⟨_, rfl, rfl, _, rfl, ite2 (no_b (dn (x := "verdict") (y := "place") (by decide +kernel))) (fun _ => ?_)⟩
          refine ⟨_, rfl, rfl, _, rfl, ite2 (fun _ => ?_) (yes_b (decide_eq_true rfl))⟩
          refine ⟨_, rfl, (by show 3 ≤ sizeLine; decide), fun l1 n1 => ?_⟩
          have s1 := same_upd (o := .lst [V.str "same", V.str "sound", V.str "changed"]) n1
          have lo1 := P2.off n1
          refine ⟨_, rfl, p, l, _, 3, rfl, P2.same s1, by omega, by decide, log_small (by decide) (by decide), fun r3 H3 r30 r31 P3 f3 => ?_⟩
          have hl1 : H3 l1 = some (.lst [V.str "same", V.str "sound", V.str "changed"]) := by rw [f3 _ lo1.1 lo1.2]; exact upd_same
          have k3 := (k2.trans (Keep.of s1)).trans (Keep.draw f3)
          have hx : ∃ x : Str, atI [V.str "same", V.str "sound", V.str "changed"] r3 = some (.str x) ∧ inV (.str x) ans = true := by
            rcases fin3 r30 r31 with rfl | rfl | rfl
            · exact ⟨_, atI_nat (j := 0) rfl, by decide +kernel⟩
            · exact ⟨_, atI_nat (j := 1) rfl, by decide +kernel⟩
            · exact ⟨_, atI_nat (j := 2) rfl, by decide +kernel⟩
          obtain ⟨x, hat, hx⟩ := hx
          refine ⟨l1, _, _, _, rfl, rfl, SqL.of hl1, hat, (by show 2 ≤ sizeLine; decide), fun c nc => ?_⟩
          exact q _ _ (.word .vd x) ((mono P3 (by omega)).same (same_upd nc)) (k3.trans (Keep.of (same_upd nc))) ⟨c, rfl, upd_same⟩ (Nat.zero_le _) hx
      · refine ⟨l0, _, _, _, rfl, rfl, SqL.of hl2, atI_nat (j := 4) rfl, ?_⟩
        refine ⟨_, rfl, rfl, _, rfl, ite2 (fun e4 => ?_) (fun e4 => ?_)⟩
        · refine ⟨(by show 1 ≤ sizeLine; decide), fun c nc => ?_⟩
          exact q _ _ .any ((mono P2 (by omega)).same (same_upd nc)) (k2.trans (Keep.of (same_upd nc))) ⟨c, rfl, upd_same⟩ (Nat.zero_le _) trivial
        · refine ⟨_, rfl, rfl, _, rfl, ite2 (no_b (dn (x := "changes") (y := "place") (by decide +kernel))) (fun _ => ?_)⟩
          refine ⟨_, rfl, rfl, _, rfl, ite2 (no_b (dn (x := "changes") (y := "verdict") (by decide +kernel))) (fun _ => ?_)⟩
          refine ⟨_, rfl, _, rfl, _, rfl, _, rfl, wl, _, rfl, .inl (SqL.of hN2), p, l, _, _, rfl, P2, by omega, by rw [List.length_map]; omega, log_small (by rw [List.length_map]; omega) (by rw [List.length_map]; omega), fun r3 H3 r30 r31 P3 f3 => ?_⟩
          obtain ⟨x0, hx0, hm0⟩ := atI_ex (xs := N.map V.str) (r := r3) r30 r31
          obtain ⟨x, hx, rfl⟩ := List.mem_map.mp hm0
          have hN3 : H3 wl = some (.lst (N.map V.str)) := by rw [f3 _ wp wl']; exact hN2
          refine ⟨wl, _, _, _, rfl, rfl, SqL.of hN3, hx0, (by show 2 ≤ sizeLine; decide), fun c nc => ?_⟩
          exact q _ _ (.word .ch x) ((mono P3 (by omega)).same (same_upd nc)) ((k2.trans (Keep.draw f3)).trans (Keep.of (same_upd nc))) ⟨c, rfl, upd_same⟩ (Nat.zero_le _) (hok x hx)
end
end K34
namespace K34
open PySem PySem.Spec PyProof.Rows L2 TL
theorem cut_take (xs : List V) (m : Nat) : cutV xs none (some (m : Int)) = xs.take m := by
  unfold cutV
  rw [show HT.sIx xs.length xs.length (some (m : Int)) = min m xs.length from HT.sIx_nat _ _ m, HT.sIx_none]
  show (xs.drop 0).take (min m xs.length - 0) = xs.take m
  rw [List.drop_zero, Nat.sub_zero, ← List.take_take, List.take_length]
theorem cut_map (N : List Str) (lo hi : Option Int) : ∃ cs : List Str, cutV (N.map V.str) lo hi = cs.map V.str := by
  unfold cutV
  rw [← List.map_drop, ← List.map_take]
  exact ⟨_, rfl⟩
/-- tuples stand when something else is written -/
theorem tup_off {H : Hp} {p : Addr} {u o : HO} (hp : H p = some u) (hu : ∀ xs, u ≠ .tup xs) : ∀ b xs, H b = some (.tup xs) → (upd H p o) b = some (.tup xs) := fun b xs e => by
  rw [upd_ne (ne_of e hp (fun z => hu _ z.symm))]
  exact e
def spLaw (K : PySem.W.Frag) : Sp := fun vs H Q _ => ∃ (a : Addr) (ns : List Int), vs = [.ref a] ∧ SqL K H a (ns.map V.int) ∧ ns.length ≤ 63 ∧ ∀ H', Q (.bl true) H'
structure Wd (a : Ads) (H : Hp) (p l wl c : Addr) (v : V) (fm : Fm) (N : List Str) (n : Int) : Prop where
  P : PoolAt H p l n
  hN : H wl = some (.lst (N.map V.str))
  wp : wl ≠ p
  wq : wl ≠ l
  F : FmAt H fm v
  C : CoAt a.c_Condition H fm (.ref c)
theorem Wd.keep {a : Ads} {H H' : Hp} {p l wl c : Addr} {v : V} {fm : Fm} {N : List Str} {n m : Int} (W : Wd a H p l wl c v fm N n) (k : Keep p l H H') (P' : PoolAt H' p l m) : Wd a H' p l wl c v fm N m := by
  obtain ⟨⟨_, hp⟩, ⟨_, hl⟩⟩ := pool_lst W.P
  have kt := keep_tup W.P k
  exact ⟨P', k _ _ W.hN W.wp W.wq, W.wp, W.wq, W.F.imp kt, W.C.imp kt fun b dx p e => k _ _ e (ne_of e hp (by intro z; cases z)) (ne_of e hl (by intro z; cases z))⟩
theorem Wd.same {a : Ads} {H H' : Hp} {p l wl c : Addr} {v : V} {fm : Fm} {N : List Str} {n : Int} (W : Wd a H p l wl c v fm N n) (s : Same H H') : Wd a H' p l wl c v fm N n :=
  ⟨W.P.same s, s _ _ W.hN, W.wp, W.wq, W.F.same s, W.C.same s⟩
theorem Wd.mono {a : Ads} {H : Hp} {p l wl c : Addr} {v : V} {fm : Fm} {N : List Str} {n m : Int} (W : Wd a H p l wl c v fm N n) (h : n ≤ m) : Wd a H p l wl c v fm N m := ⟨W.P.mono h, W.hN, W.wp, W.wq, W.F, W.C⟩
section
variable {P : Program} {w : World} {K : PySem.W.Frag} {mg : Str → Option Value} {base : Heap} {a : Ads}
theorem sc_law : FnScope ["_law_script", "_law_pool_here", "_law_words_here", "_law_form_here", "_law_condition", "_law_k", "_law_names_here", "_law_cells", "_law_verdict", "_law_row", "_law_told", "_law_j"] ["_law_script"] (defScope s_law) := ⟨rfl, rfl, rfl, by decide +kernel, rfl, by decide +kernel, by decide +kernel⟩
theorem ok_law (T : Txt w K mg a) : FnOk P w K mg base CX0 28 a.f_law a.f_law_d ["_law_script"] (spLaw K) := by
  have CO : StX.CallO K a.c_Condition a.f_Condition___call__ := ⟨T.m_Condition___call__.at_, T.m_Condition___call__.fn, T.fi⟩
  have FR := (ok_call (P := P) (base := base) T 5).raw T.b_Condition___call__ .nil
  refine T.F_law.ok sc_law (fun vs H Q E h => ?_) (fun cdv A outer s H vs Q E hr h => ?_)
  · obtain ⟨p, ns, rfl, _⟩ := h
    rfl
  obtain ⟨scr, zs, rfl, hS, hlen, q⟩ := h
  refine ⟨_, (pss_cons (ps_set (i := 1) sc_law.nd rfl (Or.inr rfl) (pe_call (ok__law_pool T) (hr.mono (by decide)) (by rfl) T.g__law_pool T.F__law_pool.kp T.b__law_pool .nil pass0 (pa_cons (pv 0) pa_nil)))
    (pss_cons (ps_asg pe_int (pg_sub (pv 1) pe_int set_list))
    (pss_cons (ps_set (i := 2) sc_law.nd rfl (Or.inr rfl) (pe_slice sl_list (pe_call (ok__law_names T) (hr.mono (by decide)) (by rfl) T.g__law_names T.F__law_names.kp T.b__law_names .nil pass0 (pa_cons (pv 1) pa_nil)) po_none (po_some pe_int)))
    (pss_cons (ps_set (i := 3) sc_law.nd rfl (Or.inl rfl) (pe_call (ok_form T 5) (hr.mono (by decide)) (by rfl) T.g__law_form T.F__law_form.kp T.b__law_form .nil pass0 (pa_cons (pv 1) (pa_cons (pv 2) (pa_cons pe_int pa_nil)))))
    (pss_cons (ps_set (i := 4) sc_law.nd rfl (Or.inl rfl) (pe_call (ok_read_condition T) (hr.mono (by decide)) (by rfl) T.g_read_condition T.F_read_condition.kp T.b_read_condition .nil pass0 (pa_cons (pe_join pe_str (pe_call (ok_words T 5) (hr.mono (by decide)) (by rfl) T.g__law_words T.F__law_words.kp T.b__law_words .nil pass0 (pa_cons (pv 3) (pa_cons pe_int (pa_cons pe_bl pa_nil))))) pa_nil)))
    (pss_cons (ps_for PassesOwn.never rfl (pi_range1 (by rfl) T.range (pa_cons (pe_call (ok__law_draw T) (hr.mono (by decide)) (by rfl) T.g__law_draw T.F__law_draw.kp T.b__law_draw .nil pass0 (pa_cons (pv 1) (pa_cons pe_int pa_nil))) pa_nil)) (pg_name (i := 5) sc_law.nd rfl (Or.inl rfl))
      (pss_cons (ps_setLc (i := 6) (own := [("_law_j", 11)]) (g := gName 11) (tt := tYes) (by rfl) sc_law.nd rfl rfl (sw_true rfl rfl rfl (by decide +kernel)) (pi_range1 (by rfl) T.range (pa_cons pe_int pa_nil)) (blkOk_by (own := [("_law_j", 11)]) (N := ["_law_script", "_law_pool_here", "_law_words_here", "_law_form_here", "_law_condition", "_law_k", "_law_names_here", "_law_cells", "_law_verdict", "_law_row", "_law_told", "_law_j"]) (sc := defScope s_law) (by decide +kernel)) (fun _ _ _ _ _ => pg_name (i := 11) sc_law.nd rfl (Or.inl rfl)) (fun _ _ _ _ _ => pts_nil) (fun _ _ _ _ _ => (pe_ix (show IxR _ (rIxL K) from ix_list) (pv 2) (pe_call (ok__law_draw T) (hr.mono (by decide)) (by rfl) T.g__law_draw T.F__law_draw.kp T.b__law_draw .nil pass0 (pa_cons (pv 1) (pa_cons pe_int pa_nil))) (fun _ _ => rfl))))
      (pss_cons (ps_set (i := 7) sc_law.nd rfl (Or.inl rfl) (pe_callTy call_tuple_of (by rfl) T.tuple (by decide +kernel) (pa_cons (pe_slice sl_list (pe_slice sl_list (pv 2) (po_some (pe_call (ok__law_draw T) (hr.mono (by decide)) (by rfl) T.g__law_draw T.F__law_draw.kp T.b__law_draw .nil pass0 (pa_cons (pv 1) (pa_cons pe_int pa_nil)))) po_none) po_none (po_some (pe_call (ok__law_draw T) (hr.mono (by decide)) (by rfl) T.g__law_draw T.F__law_draw.kp T.b__law_draw .nil pass0 (pa_cons (pv 1) (pa_cons pe_int pa_nil))))) pa_nil)))
      (pss_cons (ps_set (i := 8) sc_law.nd rfl (Or.inl rfl) (pe_ix ix_list (pe_lst (pa_cons pe_str (pa_cons pe_str (pa_cons pe_str pa_nil)))) (pe_call (ok__law_draw T) (hr.mono (by decide)) (by rfl) T.g__law_draw T.F__law_draw.kp T.b__law_draw .nil pass0 (pa_cons (pv 1) (pa_cons pe_int pa_nil))) (fun _ _ => rfl)))
      (pss_cons (ps_set (i := 9) sc_law.nd rfl (Or.inl rfl) (pe_tup (pa_cons (pe_ix ix_list (pv 6) pe_int (fun _ _ => rfl)) (pa_cons (pe_call (ok__law_draw T) (hr.mono (by decide)) (by rfl) T.g__law_draw T.F__law_draw.kp T.b__law_draw .nil pass0 (pa_cons (pv 1) (pa_cons pe_int pa_nil))) (pa_cons (pe_ix ix_list (pv 6) pe_int (fun _ _ => rfl)) (pa_cons (pv 8) (pa_cons (pv 7) pa_nil)))))))
      (pss_cons (ps_set (i := 10) sc_law.nd rfl (Or.inl rfl) (StX.pe_callO (pv 4) CO FR (hr.mono (by decide)) pass0 (pa_cons (pv 9) pa_nil)))
      (pss_one (ps_if (PW.pt (pw_or (pt_not (pt_val (pe_callB call_isi (by rfl) T.isinstance (by decide +kernel) (pa_cons (pv 10) (pa_cons (pe_bltn (v := .ty "bool") (by rfl) T.bool (by decide +kernel) rfl) pa_nil))))) (pw_or1 (pt_cmpR op_ne (pv 10) (pe_call (ok_holds T 5) (hr.mono (by decide)) (by rfl) T.g__law_holds T.F__law_holds.kp T.b__law_holds .nil pass0 (pa_cons (pv 3) (pa_cons (pv 9) pa_nil))) (nomark _)))))
        (pss_one (ps_ret pe_bl))
        pss_nil))))))))
    (pss_one (ps_ret pe_bl)))))))), ?_⟩
  -- pool, names
  refine ⟨_, rfl, scr, zs, rfl, hS, hlen, fun H1 p l s1 np0 nl0 P1 => ?_⟩
  obtain ⟨ne, cs, ix, cnt, seed, ph, bd, hp1, hl1, rest⟩ := id P1
  refine ⟨_, rfl, p, _, _, 5, rfl, rfl, hp1, rfl, ?_⟩
  have P2 : PoolAt (upd H1 p (.lst [.ref l, .int ix, .int cnt, .int seed, .int ph, .int 13])) p l 0 := ⟨ne, cs, ix, cnt, seed, ph, 13, upd_same, by rw [upd_ne ne.symm]; exact hl1, rest⟩
  show tSeq _ _ _ _ (upd H1 p (.lst [.ref l, .int ix, .int cnt, .int seed, .int ph, .int 13]))
  generalize (upd H1 p (.lst [.ref l, .int ix, .int cnt, .int seed, .int ph, .int 13])) = H2 at P2 ⊢
  refine ⟨_, rfl, p, l, 0, rfl, P2, by decide, fun H3 na c sh P3 k3 nap nal nna hc sh0 sh1 hna => ⟨4, rfl, na, _, rfl, SqL.of hna, fun wl nwl => ?_⟩⟩
  rw [show cutV ((namesL c sh).map V.str) none (some 4) = ((namesL c sh).take 4).map V.str by rw [List.map_take]; exact cut_take _ 4]
  have hNl : ((namesL c sh).take 4).length = 4 := by
    rw [List.length_take]
    unfold namesL
    rw [List.length_map, List.length_range]
    rfl
  have hok : ∀ x ∈ (namesL c sh).take 4, NameOk x := fun x hx => names_ok hc x (List.mem_of_mem_take hx)
  generalize (namesL c sh).take 4 = N at hNl hok ⊢
  have hwo := P3.off nwl
  have P4 := P3.same (same_upd (o := .lst (N.map V.str)) nwl)
  have hN4 : (upd H3 wl (.lst (N.map V.str))) wl = some (.lst (N.map V.str)) := upd_same
  show tSeq _ _ _ _ (upd H3 wl (.lst (N.map V.str)))
  generalize (upd H3 wl (.lst (N.map V.str))) = H4 at P4 hN4 ⊢
  clear k3 hna nna nap nal P3 P2 P1 hp1 hl1 rest
  -- the form, the condition
  refine ⟨_, rfl, _, rfl, p, l, wl, 2, 4, N, rfl, by decide, P4, by decide, hN4, hwo.1, hwo.2, by omega, by omega, hok, fun H5 v fm P5 k5 hF hd ok => ?_⟩
  have hN5 := k5 _ _ hN4 hwo.1 hwo.2
  have hwd := wds_ok fm 0 ok
  have hwl := wds_small (fm := fm) (r := 0) (by omega)
  have hts := join_toks hwd
  dsimp only [gName]
  refine ⟨⟨_, rfl⟩, _, rfl, v, 0, fm, rfl, hF, by omega, by omega, ok, by decide, fun H6 q6 s6 nq6 hq6 => ?_⟩
  refine ⟨_, q6, wds fm 0, rfl, rfl, .inl (SqL.of hq6), ?_, ?_⟩
  · have := wds_sum hwd
    show _ + _ * 1 ≤ 16777216
    omega
  refine ⟨_, fm, rfl, ?_, ws_of hts, ok, by omega, end_of hts, fun H7 c s7 co => ?_⟩
  · have := join_len hwd
    show _ ≤ 1000000
    omega
  have W : Wd a H7 p l wl c v fm N 200 := ⟨(P5.mono (by decide)).same (s6.trans s7), s7 _ _ (s6 _ _ hN5), hwo.1, hwo.2, hF.same (s6.trans s7), co⟩
  dsimp only [gName]
  clear hts hwd hwl hq6 nq6 s6 s7 co hN5 k5 P5 hF hN4 P4 nwl hwo
  refine ⟨_, rfl, p, l, 200, 7, rfl, W.P, by decide, by decide, log_small (by decide) (by decide), fun rr H8 rr0 rr1 P8 f8 => ⟨_, rfl, by omega, by omega, ?_⟩⟩
  have W := W.keep (Keep.draw f8) P8
  clear P8 f8
  refine for_range (lo := 0) (n := _) (fun i σ H' => ∃ (v5 v6 v7 v8 v9 v10 : Option V), σ = [some (.ref scr), some (.ref p), some (.ref wl), some v, some (.ref c), v5, v6, v7, v8, v9, v10, none] ∧ Wd a H' p l wl c v fm N (201 + 10 * (i : Int))) ⟨_, _, _, _, _, _, rfl, W.mono (by omega)⟩ ?_ ?_
  · rintro i σ H0 hi ⟨v5, v6, v7, v8, v9, v10, rfl, W⟩
    have hi7 : i < 7 := by omega
    -- two names
    refine ⟨2, rfl, by decide, by decide, fun D nD => ?_⟩
    have hDo := W.P.off nD
    refine lc_range (lo := 0) (n := 2) (fun j H' => Wd a H' p l wl c v fm N (201 + 10 * (i : Int) + j) ∧ ∃ xs : List Str, H' D = some (.lst (xs.map V.str)) ∧ xs.length = j) ⟨(W.mono (by omega)).same (same_upd nD), [], upd_same, rfl⟩ ?_ ?_
    · rintro j H1 hj ⟨W1, xs, hD1, hxl⟩
      refine ⟨rfl, _, rfl, _, rfl, p, l, _, 4, rfl, W1.P, by omega, by decide, log_small (by decide) (by decide), fun r2 H2 r20 r21 P2 f2 => ?_⟩
      have W2 := W1.keep (Keep.draw f2) P2
      obtain ⟨x0, hx0, hm0⟩ := atI_ex (xs := N.map V.str) (r := r2) r20 (by rw [List.length_map, hNl]; exact r21)
      obtain ⟨x, hx, rfl⟩ := List.mem_map.mp hm0
      have hD2 : H2 D = some (.lst (xs.map V.str)) := by rw [f2 _ hDo.1 hDo.2]; exact hD1
      refine ⟨wl, _, _, _, rfl, rfl, SqL.of W2.hN, hx0, _, hD2, ?_, ?_, xs ++ [x], ?_, ?_⟩
      · rw [List.length_map]
        exact bigLine (by omega)
      · have hwD : wl ≠ D := fun z => by
          have := W.hN
          rw [z, nD] at this
          cases this
        have kt := tup_off (o := .lst (xs.map V.str ++ [V.str x])) hD2 (by intro ys z; cases z)
        refine ⟨(W2.P.mono (by omega)).keep (upd_ne hDo.1.symm) (upd_ne hDo.2.symm), by rw [upd_ne hwD]; exact W2.hN, W2.wp, W2.wq, W2.F.imp kt, W2.C.imp kt fun b dx p e => by rw [upd_ne (ne_of e hD2 (by intro z; cases z))]; exact e⟩
      · rw [upd_same, List.map_append]
        rfl
      · rw [List.length_append, hxl]
        rfl
    rintro H1 ⟨W1, xs, hD1, hxl⟩
    obtain ⟨x0, x1, rfl⟩ : ∃ x0 x1, xs = [x0, x1] := by
      match xs, hxl with
      | [x0, x1], _ => exact ⟨x0, x1, rfl⟩
    -- the cells
    refine ⟨_, rfl, _, rfl, p, l, _, 4, rfl, W1.P, by omega, by decide, log_small (by decide) (by decide), fun r2 H2 r20 r21 P2 f2 => ?_⟩
    have W2 := W1.keep (Keep.draw f2) P2
    have hD2 : H2 D = some (.lst ([x0, x1].map V.str)) := by rw [f2 _ hDo.1 hDo.2]; exact hD1
    refine ⟨_, rfl, wl, _, rfl, SqL.of W2.hN, fun c1 n1 => ?_⟩
    obtain ⟨cs1, e1⟩ := cut_map N (some r2) none
    rw [e1]
    have s1 := same_upd (o := .lst (cs1.map V.str)) n1
    have lo1 := W2.P.off n1
    refine ⟨_, rfl, p, l, _, 3, rfl, (W2.same s1).P, by omega, by decide, log_small (by decide) (by decide), fun r3 H3 r30 r31 P3 f3 => ?_⟩
    have W3 := (W2.same s1).keep (Keep.draw f3) P3
    have hD3 : H3 D = some (.lst ([x0, x1].map V.str)) := by rw [f3 _ hDo.1 hDo.2]; exact s1 _ _ hD2
    have hc3 : H3 c1 = some (.lst (cs1.map V.str)) := by rw [f3 _ lo1.1 lo1.2]; exact upd_same
    refine ⟨_, rfl, c1, _, rfl, SqL.of hc3, fun c2 n2 => ?_⟩
    obtain ⟨cs2, e2⟩ := cut_map cs1 none (some r3)
    rw [e2]
    have s2 := same_upd (o := .lst (cs2.map V.str)) n2
    refine ⟨c2, _, rfl, .inl ⟨SqL.of upd_same, fun tc nt => ?_⟩⟩
    have s3 := s2.trans (same_upd (o := .tup (cs2.map V.str)) nt)
    have W4 := W3.same s3
    have hD4 := s3 _ _ hD3
    have ht4 : (upd (upd H3 c2 (.lst (cs2.map V.str))) tc (.tup (cs2.map V.str))) tc = some (.tup (cs2.map V.str)) := upd_same
    show tSeq _ _ _ _ (upd (upd H3 c2 (.lst (cs2.map V.str))) tc (.tup (cs2.map V.str)))
    generalize (upd (upd H3 c2 (.lst (cs2.map V.str))) tc (.tup (cs2.map V.str))) = H4 at W4 hD4 ht4 ⊢
    clear s3 nt s2 n2 hc3 W3 W2 s1 n1 lo1 hD3 hD2 hD1 P2 P3 f2 f3
    -- the verdict
    refine ⟨(by show 3 ≤ sizeLine; decide), fun l1 n1 => ?_⟩
    have s1 := same_upd (o := .lst [V.str "same", V.str "sound", V.str "changed"]) n1
    have lo1 := W4.P.off n1
    refine ⟨_, rfl, p, l, _, 3, rfl, (W4.same s1).P, by omega, by decide, log_small (by decide) (by decide), fun r5 H5 r50 r51 P5 f5 => ?_⟩
    have W5 := (W4.same s1).keep (Keep.draw f5) P5
    have hD5 : H5 D = some (.lst ([x0, x1].map V.str)) := by rw [f5 _ hDo.1 hDo.2]; exact s1 _ _ hD4
    have ht5 : H5 tc = some (.tup (cs2.map V.str)) := keep_tup (W4.same s1).P (Keep.draw f5) _ _ (s1 _ _ ht4)
    have hl5 : H5 l1 = some (.lst [V.str "same", V.str "sound", V.str "changed"]) := by rw [f5 _ lo1.1 lo1.2]; exact upd_same
    obtain ⟨vd, hat⟩ : ∃ x : Str, atI [V.str "same", V.str "sound", V.str "changed"] r5 = some (.str x) := by
      rcases fin3 r50 r51 with rfl | rfl | rfl
      · exact ⟨_, atI_nat (j := 0) rfl⟩
      · exact ⟨_, atI_nat (j := 1) rfl⟩
      · exact ⟨_, atI_nat (j := 2) rfl⟩
    refine ⟨l1, _, _, _, rfl, rfl, SqL.of hl5, hat, ?_⟩
    dsimp only [gName]
    -- the row
    refine ⟨_, rfl, D, _, _, _, rfl, rfl, SqL.of hD5, atI_nat (j := 0) rfl, ?_⟩
    refine ⟨_, rfl, p, l, _, 6, rfl, W5.P, by omega, by decide, log_small (by decide) (by decide), fun r6 H6 r60 r61 P6 f6 => ?_⟩
    have W6 := W5.keep (Keep.draw f6) P6
    have hD6 : H6 D = some (.lst ([x0, x1].map V.str)) := by rw [f6 _ hDo.1 hDo.2]; exact hD5
    have ht6 := keep_tup W5.P (Keep.draw f6) _ _ ht5
    refine ⟨_, rfl, D, _, _, _, rfl, rfl, SqL.of hD6, atI_nat (j := 1) rfl, _, rfl, _, rfl, (by show 5 ≤ sizeLine; decide), fun rw_ nrw => ?_⟩
    have s7 := same_upd (o := .tup [V.str x0, V.int r6, V.str x1, V.str vd, V.ref tc]) nrw
    have W7 := W6.same s7
    have hR : RowAt (upd H6 rw_ (.tup [V.str x0, V.int r6, V.str x1, V.str vd, V.ref tc])) rw_ ⟨x0, r6, x1, vd, cs2⟩ := ⟨tc, upd_same, s7 _ _ ht6⟩
    show tSeq _ _ _ _ (upd H6 rw_ (.tup [V.str x0, V.int r6, V.str x1, V.str vd, V.ref tc]))
    generalize (upd H6 rw_ (.tup [V.str x0, V.int r6, V.str x1, V.str vd, V.ref tc])) = H7 at W7 hR ⊢
    -- told
    obtain ⟨c0, dx0, p0, ec, hc0⟩ := W7.C.ref
    cases ec
    refine ⟨_, rfl, c, rfl, _, rfl, .inr ⟨dx0, _, hc0⟩, c, rw_, fm, _, rfl, W7.C, by omega, hR, ?_⟩
    dsimp only [gName]
    refine ⟨_, rfl, .bl _, .ty "bool", .type "bool", .type "bool", true, rfl, .ty "bool", .base (.bl _), kit_ty (by decide +kernel), _, rfl, iteF ?_⟩
    refine ⟨_, rfl, _, rfl, _, rfl, v, rw_, fm, _, rfl, W7.F, by omega, hR, fun H9 s9 => ⟨rfl, _, rfl, ite2 (fun e => ?_) (fun _ => ?_)⟩⟩
    · rw [decide_eq_true rfl] at e
      cases e
    · exact ⟨_, _, _, _, _, _, rfl, (W7.same s9).mono (by omega)⟩
  · rintro σ H0 ⟨v5, v6, v7, v8, v9, v10, rfl, W⟩
    exact q H0
end
end K34
namespace K34
open PySem PySem.Spec PyProof.Rows L2 TL
theorem all_mk {l : PySem.W.OpenLaw} {w : World} {K : PySem.W.Frag} {h : Heap} {mg : Str → Option Value} {fa f_is_word f_is_number f_kind_of f_run_end f_tokens_of f_Tokens___init__ f_Tokens_kind_ahead f_Tokens_take f_Tokens_word_ahead f_Tokens_skip_word f_Tokens_take_word f_read_number f_Condition___init__ f_Condition___call__ f_read_condition f_question_tokens f_read_or f_read_and f_read_one f_read_value f__law_pool f__law_mixed f__law_draw f__law_names f__law_form f__law_rank f__law_words f__law_holds f_law c_Tokens c_Condition t_KEYWORDS t_SIGNS t_FIELDS t_ANSWERS t_PARTS_OF_ROWS : Addr} (X : K.In h) (G : h.Ns mainGlobals mg) (hfa : mg "law" = some (.ref fa))
    {od_is_word an_is_word : Option Addr} {sl_is_word : Array (Option Value)} {oc_is_word kV_is_word dc_is_word pm_is_word cd_is_word ct_is_word : Value}
    (a_is_word : PySem.W.nsIn K mainGlobals "is_word" = some (some (.ref f_is_word)))
    (l_is_word : K.lookup f_is_word = some ⟨oc_is_word, od_is_word, .func (PySem.W.fnOf "is_word" "is_word" (defArgs s_is_word) (defBody s_is_word) (defScope s_is_word) .none kV_is_word dc_is_word pm_is_word an_is_word cd_is_word ct_is_word), sl_is_word⟩) (e_is_word : PySem.W.codeIn K cd_is_word "is_word" = true) (k_is_word : PySem.W.keepIn K (.ref f_is_word) = true)
    {od_is_number an_is_number : Option Addr} {sl_is_number : Array (Option Value)} {oc_is_number kV_is_number dc_is_number pm_is_number cd_is_number ct_is_number : Value}
    (a_is_number : PySem.W.nsIn K mainGlobals "is_number" = some (some (.ref f_is_number)))
    (l_is_number : K.lookup f_is_number = some ⟨oc_is_number, od_is_number, .func (PySem.W.fnOf "is_number" "is_number" (defArgs s_is_number) (defBody s_is_number) (defScope s_is_number) .none kV_is_number dc_is_number pm_is_number an_is_number cd_is_number ct_is_number), sl_is_number⟩) (e_is_number : PySem.W.codeIn K cd_is_number "is_number" = true) (k_is_number : PySem.W.keepIn K (.ref f_is_number) = true)
    {od_kind_of an_kind_of : Option Addr} {sl_kind_of : Array (Option Value)} {oc_kind_of kV_kind_of dc_kind_of pm_kind_of cd_kind_of ct_kind_of : Value}
    (a_kind_of : PySem.W.nsIn K mainGlobals "kind_of" = some (some (.ref f_kind_of)))
    (l_kind_of : K.lookup f_kind_of = some ⟨oc_kind_of, od_kind_of, .func (PySem.W.fnOf "kind_of" "kind_of" (defArgs s_kind_of) (defBody s_kind_of) (defScope s_kind_of) .none kV_kind_of dc_kind_of pm_kind_of an_kind_of cd_kind_of ct_kind_of), sl_kind_of⟩) (e_kind_of : PySem.W.codeIn K cd_kind_of "kind_of" = true) (k_kind_of : PySem.W.keepIn K (.ref f_kind_of) = true)
    {od_run_end an_run_end : Option Addr} {sl_run_end : Array (Option Value)} {oc_run_end kV_run_end dc_run_end pm_run_end cd_run_end ct_run_end : Value}
    (a_run_end : PySem.W.nsIn K mainGlobals "run_end" = some (some (.ref f_run_end)))
    (l_run_end : K.lookup f_run_end = some ⟨oc_run_end, od_run_end, .func (PySem.W.fnOf "run_end" "run_end" (defArgs s_run_end) (defBody s_run_end) (defScope s_run_end) .none kV_run_end dc_run_end pm_run_end an_run_end cd_run_end ct_run_end), sl_run_end⟩) (e_run_end : PySem.W.codeIn K cd_run_end "run_end" = true) (k_run_end : PySem.W.keepIn K (.ref f_run_end) = true)
    {od_tokens_of an_tokens_of : Option Addr} {sl_tokens_of : Array (Option Value)} {oc_tokens_of kV_tokens_of dc_tokens_of pm_tokens_of cd_tokens_of ct_tokens_of : Value}
    (a_tokens_of : PySem.W.nsIn K mainGlobals "tokens_of" = some (some (.ref f_tokens_of)))
    (l_tokens_of : K.lookup f_tokens_of = some ⟨oc_tokens_of, od_tokens_of, .func (PySem.W.fnOf "tokens_of" "tokens_of" (defArgs s_tokens_of) (defBody s_tokens_of) (defScope s_tokens_of) .none kV_tokens_of dc_tokens_of pm_tokens_of an_tokens_of cd_tokens_of ct_tokens_of), sl_tokens_of⟩) (e_tokens_of : PySem.W.codeIn K cd_tokens_of "tokens_of" = true) (k_tokens_of : PySem.W.keepIn K (.ref f_tokens_of) = true)
    {od_Tokens___init__ an_Tokens___init__ : Option Addr} {sl_Tokens___init__ : Array (Option Value)} {oc_Tokens___init__ kV_Tokens___init__ dc_Tokens___init__ pm_Tokens___init__ cd_Tokens___init__ ct_Tokens___init__ : Value}
    (a_Tokens___init__ : PySem.W.findIn K (.ref c_Tokens) "__init__" = some (some (.ref f_Tokens___init__)))
    (l_Tokens___init__ : K.lookup f_Tokens___init__ = some ⟨oc_Tokens___init__, od_Tokens___init__, .func (PySem.W.fnOf "__init__" "Tokens.__init__" (defArgs s_Tokens___init__) (defBody s_Tokens___init__) (defScope s_Tokens___init__) .none kV_Tokens___init__ dc_Tokens___init__ pm_Tokens___init__ an_Tokens___init__ cd_Tokens___init__ ct_Tokens___init__), sl_Tokens___init__⟩) (e_Tokens___init__ : PySem.W.codeIn K cd_Tokens___init__ "Tokens.__init__" = true) (k_Tokens___init__ : PySem.W.keepIn K (.ref f_Tokens___init__) = true)
    (i_Tokens___init__ : PySem.W.isFn K (.ref f_Tokens___init__) = true)
    {od_Tokens_kind_ahead an_Tokens_kind_ahead : Option Addr} {sl_Tokens_kind_ahead : Array (Option Value)} {oc_Tokens_kind_ahead kV_Tokens_kind_ahead dc_Tokens_kind_ahead pm_Tokens_kind_ahead cd_Tokens_kind_ahead ct_Tokens_kind_ahead : Value}
    (a_Tokens_kind_ahead : PySem.W.findIn K (.ref c_Tokens) "kind_ahead" = some (some (.ref f_Tokens_kind_ahead)))
    {dt_Tokens_kind_ahead : Addr}
    (l_Tokens_kind_ahead : K.lookup f_Tokens_kind_ahead = some ⟨oc_Tokens_kind_ahead, od_Tokens_kind_ahead, .func (PySem.W.fnOf "kind_ahead" "Tokens.kind_ahead" (defArgs s_Tokens_kind_ahead) (defBody s_Tokens_kind_ahead) (defScope s_Tokens_kind_ahead) (.ref dt_Tokens_kind_ahead) kV_Tokens_kind_ahead dc_Tokens_kind_ahead pm_Tokens_kind_ahead an_Tokens_kind_ahead cd_Tokens_kind_ahead ct_Tokens_kind_ahead), sl_Tokens_kind_ahead⟩) (e_Tokens_kind_ahead : PySem.W.codeIn K cd_Tokens_kind_ahead "Tokens.kind_ahead" = true) (k_Tokens_kind_ahead : PySem.W.keepIn K (.ref f_Tokens_kind_ahead) = true)
    {do_Tokens_kind_ahead : Obj} {di_Tokens_kind_ahead : Array Value} {dn_Tokens_kind_ahead : Nat} (dl_Tokens_kind_ahead : K.lookup dt_Tokens_kind_ahead = some do_Tokens_kind_ahead) (dd_Tokens_kind_ahead : do_Tokens_kind_ahead.data = .seq di_Tokens_kind_ahead dn_Tokens_kind_ahead ∧ Vals [.int 0] di_Tokens_kind_ahead.toList)
    (i_Tokens_kind_ahead : PySem.W.isFn K (.ref f_Tokens_kind_ahead) = true)
    {od_Tokens_take an_Tokens_take : Option Addr} {sl_Tokens_take : Array (Option Value)} {oc_Tokens_take kV_Tokens_take dc_Tokens_take pm_Tokens_take cd_Tokens_take ct_Tokens_take : Value}
    (a_Tokens_take : PySem.W.findIn K (.ref c_Tokens) "take" = some (some (.ref f_Tokens_take)))
    (l_Tokens_take : K.lookup f_Tokens_take = some ⟨oc_Tokens_take, od_Tokens_take, .func (PySem.W.fnOf "take" "Tokens.take" (defArgs s_Tokens_take) (defBody s_Tokens_take) (defScope s_Tokens_take) .none kV_Tokens_take dc_Tokens_take pm_Tokens_take an_Tokens_take cd_Tokens_take ct_Tokens_take), sl_Tokens_take⟩) (e_Tokens_take : PySem.W.codeIn K cd_Tokens_take "Tokens.take" = true) (k_Tokens_take : PySem.W.keepIn K (.ref f_Tokens_take) = true)
    (i_Tokens_take : PySem.W.isFn K (.ref f_Tokens_take) = true)
    {od_Tokens_word_ahead an_Tokens_word_ahead : Option Addr} {sl_Tokens_word_ahead : Array (Option Value)} {oc_Tokens_word_ahead kV_Tokens_word_ahead dc_Tokens_word_ahead pm_Tokens_word_ahead cd_Tokens_word_ahead ct_Tokens_word_ahead : Value}
    (a_Tokens_word_ahead : PySem.W.findIn K (.ref c_Tokens) "word_ahead" = some (some (.ref f_Tokens_word_ahead)))
    (l_Tokens_word_ahead : K.lookup f_Tokens_word_ahead = some ⟨oc_Tokens_word_ahead, od_Tokens_word_ahead, .func (PySem.W.fnOf "word_ahead" "Tokens.word_ahead" (defArgs s_Tokens_word_ahead) (defBody s_Tokens_word_ahead) (defScope s_Tokens_word_ahead) .none kV_Tokens_word_ahead dc_Tokens_word_ahead pm_Tokens_word_ahead an_Tokens_word_ahead cd_Tokens_word_ahead ct_Tokens_word_ahead), sl_Tokens_word_ahead⟩) (e_Tokens_word_ahead : PySem.W.codeIn K cd_Tokens_word_ahead "Tokens.word_ahead" = true) (k_Tokens_word_ahead : PySem.W.keepIn K (.ref f_Tokens_word_ahead) = true)
    (i_Tokens_word_ahead : PySem.W.isFn K (.ref f_Tokens_word_ahead) = true)
    {od_Tokens_skip_word an_Tokens_skip_word : Option Addr} {sl_Tokens_skip_word : Array (Option Value)} {oc_Tokens_skip_word kV_Tokens_skip_word dc_Tokens_skip_word pm_Tokens_skip_word cd_Tokens_skip_word ct_Tokens_skip_word : Value}
    (a_Tokens_skip_word : PySem.W.findIn K (.ref c_Tokens) "skip_word" = some (some (.ref f_Tokens_skip_word)))
    (l_Tokens_skip_word : K.lookup f_Tokens_skip_word = some ⟨oc_Tokens_skip_word, od_Tokens_skip_word, .func (PySem.W.fnOf "skip_word" "Tokens.skip_word" (defArgs s_Tokens_skip_word) (defBody s_Tokens_skip_word) (defScope s_Tokens_skip_word) .none kV_Tokens_skip_word dc_Tokens_skip_word pm_Tokens_skip_word an_Tokens_skip_word cd_Tokens_skip_word ct_Tokens_skip_word), sl_Tokens_skip_word⟩) (e_Tokens_skip_word : PySem.W.codeIn K cd_Tokens_skip_word "Tokens.skip_word" = true) (k_Tokens_skip_word : PySem.W.keepIn K (.ref f_Tokens_skip_word) = true)
    (i_Tokens_skip_word : PySem.W.isFn K (.ref f_Tokens_skip_word) = true)
    {od_Tokens_take_word an_Tokens_take_word : Option Addr} {sl_Tokens_take_word : Array (Option Value)} {oc_Tokens_take_word kV_Tokens_take_word dc_Tokens_take_word pm_Tokens_take_word cd_Tokens_take_word ct_Tokens_take_word : Value}
    (a_Tokens_take_word : PySem.W.findIn K (.ref c_Tokens) "take_word" = some (some (.ref f_Tokens_take_word)))
    (l_Tokens_take_word : K.lookup f_Tokens_take_word = some ⟨oc_Tokens_take_word, od_Tokens_take_word, .func (PySem.W.fnOf "take_word" "Tokens.take_word" (defArgs s_Tokens_take_word) (defBody s_Tokens_take_word) (defScope s_Tokens_take_word) .none kV_Tokens_take_word dc_Tokens_take_word pm_Tokens_take_word an_Tokens_take_word cd_Tokens_take_word ct_Tokens_take_word), sl_Tokens_take_word⟩) (e_Tokens_take_word : PySem.W.codeIn K cd_Tokens_take_word "Tokens.take_word" = true) (k_Tokens_take_word : PySem.W.keepIn K (.ref f_Tokens_take_word) = true)
    (i_Tokens_take_word : PySem.W.isFn K (.ref f_Tokens_take_word) = true)
    {od_read_number an_read_number : Option Addr} {sl_read_number : Array (Option Value)} {oc_read_number kV_read_number dc_read_number pm_read_number cd_read_number ct_read_number : Value}
    (a_read_number : PySem.W.nsIn K mainGlobals "read_number" = some (some (.ref f_read_number)))
    (l_read_number : K.lookup f_read_number = some ⟨oc_read_number, od_read_number, .func (PySem.W.fnOf "read_number" "read_number" (defArgs s_read_number) (defBody s_read_number) (defScope s_read_number) .none kV_read_number dc_read_number pm_read_number an_read_number cd_read_number ct_read_number), sl_read_number⟩) (e_read_number : PySem.W.codeIn K cd_read_number "read_number" = true) (k_read_number : PySem.W.keepIn K (.ref f_read_number) = true)
    {od_Condition___init__ an_Condition___init__ : Option Addr} {sl_Condition___init__ : Array (Option Value)} {oc_Condition___init__ kV_Condition___init__ dc_Condition___init__ pm_Condition___init__ cd_Condition___init__ ct_Condition___init__ : Value}
    (a_Condition___init__ : PySem.W.findIn K (.ref c_Condition) "__init__" = some (some (.ref f_Condition___init__)))
    (l_Condition___init__ : K.lookup f_Condition___init__ = some ⟨oc_Condition___init__, od_Condition___init__, .func (PySem.W.fnOf "__init__" "Condition.__init__" (defArgs s_Condition___init__) (defBody s_Condition___init__) (defScope s_Condition___init__) .none kV_Condition___init__ dc_Condition___init__ pm_Condition___init__ an_Condition___init__ cd_Condition___init__ ct_Condition___init__), sl_Condition___init__⟩) (e_Condition___init__ : PySem.W.codeIn K cd_Condition___init__ "Condition.__init__" = true) (k_Condition___init__ : PySem.W.keepIn K (.ref f_Condition___init__) = true)
    (i_Condition___init__ : PySem.W.isFn K (.ref f_Condition___init__) = true)
    {od_Condition___call__ an_Condition___call__ : Option Addr} {sl_Condition___call__ : Array (Option Value)} {oc_Condition___call__ kV_Condition___call__ dc_Condition___call__ pm_Condition___call__ cd_Condition___call__ ct_Condition___call__ : Value}
    (a_Condition___call__ : PySem.W.findIn K (.ref c_Condition) "__call__" = some (some (.ref f_Condition___call__)))
    (l_Condition___call__ : K.lookup f_Condition___call__ = some ⟨oc_Condition___call__, od_Condition___call__, .func (PySem.W.fnOf "__call__" "Condition.__call__" (defArgs s_Condition___call__) (defBody s_Condition___call__) (defScope s_Condition___call__) .none kV_Condition___call__ dc_Condition___call__ pm_Condition___call__ an_Condition___call__ cd_Condition___call__ ct_Condition___call__), sl_Condition___call__⟩) (e_Condition___call__ : PySem.W.codeIn K cd_Condition___call__ "Condition.__call__" = true) (k_Condition___call__ : PySem.W.keepIn K (.ref f_Condition___call__) = true)
    (i_Condition___call__ : PySem.W.isFn K (.ref f_Condition___call__) = true)
    {od_read_condition an_read_condition : Option Addr} {sl_read_condition : Array (Option Value)} {oc_read_condition kV_read_condition dc_read_condition pm_read_condition cd_read_condition ct_read_condition : Value}
    (a_read_condition : PySem.W.nsIn K mainGlobals "read_condition" = some (some (.ref f_read_condition)))
    (l_read_condition : K.lookup f_read_condition = some ⟨oc_read_condition, od_read_condition, .func (PySem.W.fnOf "read_condition" "read_condition" (defArgs s_read_condition) (defBody s_read_condition) (defScope s_read_condition) .none kV_read_condition dc_read_condition pm_read_condition an_read_condition cd_read_condition ct_read_condition), sl_read_condition⟩) (e_read_condition : PySem.W.codeIn K cd_read_condition "read_condition" = true) (k_read_condition : PySem.W.keepIn K (.ref f_read_condition) = true)
    {od_question_tokens an_question_tokens : Option Addr} {sl_question_tokens : Array (Option Value)} {oc_question_tokens kV_question_tokens dc_question_tokens pm_question_tokens cd_question_tokens ct_question_tokens : Value}
    (a_question_tokens : PySem.W.nsIn K mainGlobals "question_tokens" = some (some (.ref f_question_tokens)))
    (l_question_tokens : K.lookup f_question_tokens = some ⟨oc_question_tokens, od_question_tokens, .func (PySem.W.fnOf "question_tokens" "question_tokens" (defArgs s_question_tokens) (defBody s_question_tokens) (defScope s_question_tokens) .none kV_question_tokens dc_question_tokens pm_question_tokens an_question_tokens cd_question_tokens ct_question_tokens), sl_question_tokens⟩) (e_question_tokens : PySem.W.codeIn K cd_question_tokens "question_tokens" = true) (k_question_tokens : PySem.W.keepIn K (.ref f_question_tokens) = true)
    {od_read_or an_read_or : Option Addr} {sl_read_or : Array (Option Value)} {oc_read_or kV_read_or dc_read_or pm_read_or cd_read_or ct_read_or : Value}
    (a_read_or : PySem.W.nsIn K mainGlobals "read_or" = some (some (.ref f_read_or)))
    (l_read_or : K.lookup f_read_or = some ⟨oc_read_or, od_read_or, .func (PySem.W.fnOf "read_or" "read_or" (defArgs s_read_or) (defBody s_read_or) (defScope s_read_or) .none kV_read_or dc_read_or pm_read_or an_read_or cd_read_or ct_read_or), sl_read_or⟩) (e_read_or : PySem.W.codeIn K cd_read_or "read_or" = true) (k_read_or : PySem.W.keepIn K (.ref f_read_or) = true)
    {od_read_and an_read_and : Option Addr} {sl_read_and : Array (Option Value)} {oc_read_and kV_read_and dc_read_and pm_read_and cd_read_and ct_read_and : Value}
    (a_read_and : PySem.W.nsIn K mainGlobals "read_and" = some (some (.ref f_read_and)))
    (l_read_and : K.lookup f_read_and = some ⟨oc_read_and, od_read_and, .func (PySem.W.fnOf "read_and" "read_and" (defArgs s_read_and) (defBody s_read_and) (defScope s_read_and) .none kV_read_and dc_read_and pm_read_and an_read_and cd_read_and ct_read_and), sl_read_and⟩) (e_read_and : PySem.W.codeIn K cd_read_and "read_and" = true) (k_read_and : PySem.W.keepIn K (.ref f_read_and) = true)
    {od_read_one an_read_one : Option Addr} {sl_read_one : Array (Option Value)} {oc_read_one kV_read_one dc_read_one pm_read_one cd_read_one ct_read_one : Value}
    (a_read_one : PySem.W.nsIn K mainGlobals "read_one" = some (some (.ref f_read_one)))
    (l_read_one : K.lookup f_read_one = some ⟨oc_read_one, od_read_one, .func (PySem.W.fnOf "read_one" "read_one" (defArgs s_read_one) (defBody s_read_one) (defScope s_read_one) .none kV_read_one dc_read_one pm_read_one an_read_one cd_read_one ct_read_one), sl_read_one⟩) (e_read_one : PySem.W.codeIn K cd_read_one "read_one" = true) (k_read_one : PySem.W.keepIn K (.ref f_read_one) = true)
    {od_read_value an_read_value : Option Addr} {sl_read_value : Array (Option Value)} {oc_read_value kV_read_value dc_read_value pm_read_value cd_read_value ct_read_value : Value}
    (a_read_value : PySem.W.nsIn K mainGlobals "read_value" = some (some (.ref f_read_value)))
    (l_read_value : K.lookup f_read_value = some ⟨oc_read_value, od_read_value, .func (PySem.W.fnOf "read_value" "read_value" (defArgs s_read_value) (defBody s_read_value) (defScope s_read_value) .none kV_read_value dc_read_value pm_read_value an_read_value cd_read_value ct_read_value), sl_read_value⟩) (e_read_value : PySem.W.codeIn K cd_read_value "read_value" = true) (k_read_value : PySem.W.keepIn K (.ref f_read_value) = true)
    {od__law_pool an__law_pool : Option Addr} {sl__law_pool : Array (Option Value)} {oc__law_pool kV__law_pool dc__law_pool pm__law_pool cd__law_pool ct__law_pool : Value}
    (a__law_pool : PySem.W.nsIn K mainGlobals "_law_pool" = some (some (.ref f__law_pool)))
    (l__law_pool : K.lookup f__law_pool = some ⟨oc__law_pool, od__law_pool, .func (PySem.W.fnOf "_law_pool" "_law_pool" (defArgs s__law_pool) (defBody s__law_pool) (defScope s__law_pool) .none kV__law_pool dc__law_pool pm__law_pool an__law_pool cd__law_pool ct__law_pool), sl__law_pool⟩) (e__law_pool : PySem.W.codeIn K cd__law_pool "_law_pool" = true) (k__law_pool : PySem.W.keepIn K (.ref f__law_pool) = true)
    {od__law_mixed an__law_mixed : Option Addr} {sl__law_mixed : Array (Option Value)} {oc__law_mixed kV__law_mixed dc__law_mixed pm__law_mixed cd__law_mixed ct__law_mixed : Value}
    (a__law_mixed : PySem.W.nsIn K mainGlobals "_law_mixed" = some (some (.ref f__law_mixed)))
    (l__law_mixed : K.lookup f__law_mixed = some ⟨oc__law_mixed, od__law_mixed, .func (PySem.W.fnOf "_law_mixed" "_law_mixed" (defArgs s__law_mixed) (defBody s__law_mixed) (defScope s__law_mixed) .none kV__law_mixed dc__law_mixed pm__law_mixed an__law_mixed cd__law_mixed ct__law_mixed), sl__law_mixed⟩) (e__law_mixed : PySem.W.codeIn K cd__law_mixed "_law_mixed" = true) (k__law_mixed : PySem.W.keepIn K (.ref f__law_mixed) = true)
    {od__law_draw an__law_draw : Option Addr} {sl__law_draw : Array (Option Value)} {oc__law_draw kV__law_draw dc__law_draw pm__law_draw cd__law_draw ct__law_draw : Value}
    (a__law_draw : PySem.W.nsIn K mainGlobals "_law_draw" = some (some (.ref f__law_draw)))
    (l__law_draw : K.lookup f__law_draw = some ⟨oc__law_draw, od__law_draw, .func (PySem.W.fnOf "_law_draw" "_law_draw" (defArgs s__law_draw) (defBody s__law_draw) (defScope s__law_draw) .none kV__law_draw dc__law_draw pm__law_draw an__law_draw cd__law_draw ct__law_draw), sl__law_draw⟩) (e__law_draw : PySem.W.codeIn K cd__law_draw "_law_draw" = true) (k__law_draw : PySem.W.keepIn K (.ref f__law_draw) = true)
    {od__law_names an__law_names : Option Addr} {sl__law_names : Array (Option Value)} {oc__law_names kV__law_names dc__law_names pm__law_names cd__law_names ct__law_names : Value}
    (a__law_names : PySem.W.nsIn K mainGlobals "_law_names" = some (some (.ref f__law_names)))
    (l__law_names : K.lookup f__law_names = some ⟨oc__law_names, od__law_names, .func (PySem.W.fnOf "_law_names" "_law_names" (defArgs s__law_names) (defBody s__law_names) (defScope s__law_names) .none kV__law_names dc__law_names pm__law_names an__law_names cd__law_names ct__law_names), sl__law_names⟩) (e__law_names : PySem.W.codeIn K cd__law_names "_law_names" = true) (k__law_names : PySem.W.keepIn K (.ref f__law_names) = true)
    {od__law_form an__law_form : Option Addr} {sl__law_form : Array (Option Value)} {oc__law_form kV__law_form dc__law_form pm__law_form cd__law_form ct__law_form : Value}
    (a__law_form : PySem.W.nsIn K mainGlobals "_law_form" = some (some (.ref f__law_form)))
    (l__law_form : K.lookup f__law_form = some ⟨oc__law_form, od__law_form, .func (PySem.W.fnOf "_law_form" "_law_form" (defArgs s__law_form) (defBody s__law_form) (defScope s__law_form) .none kV__law_form dc__law_form pm__law_form an__law_form cd__law_form ct__law_form), sl__law_form⟩) (e__law_form : PySem.W.codeIn K cd__law_form "_law_form" = true) (k__law_form : PySem.W.keepIn K (.ref f__law_form) = true)
    {od__law_rank an__law_rank : Option Addr} {sl__law_rank : Array (Option Value)} {oc__law_rank kV__law_rank dc__law_rank pm__law_rank cd__law_rank ct__law_rank : Value}
    (a__law_rank : PySem.W.nsIn K mainGlobals "_law_rank" = some (some (.ref f__law_rank)))
    (l__law_rank : K.lookup f__law_rank = some ⟨oc__law_rank, od__law_rank, .func (PySem.W.fnOf "_law_rank" "_law_rank" (defArgs s__law_rank) (defBody s__law_rank) (defScope s__law_rank) .none kV__law_rank dc__law_rank pm__law_rank an__law_rank cd__law_rank ct__law_rank), sl__law_rank⟩) (e__law_rank : PySem.W.codeIn K cd__law_rank "_law_rank" = true) (k__law_rank : PySem.W.keepIn K (.ref f__law_rank) = true)
    {od__law_words an__law_words : Option Addr} {sl__law_words : Array (Option Value)} {oc__law_words kV__law_words dc__law_words pm__law_words cd__law_words ct__law_words : Value}
    (a__law_words : PySem.W.nsIn K mainGlobals "_law_words" = some (some (.ref f__law_words)))
    (l__law_words : K.lookup f__law_words = some ⟨oc__law_words, od__law_words, .func (PySem.W.fnOf "_law_words" "_law_words" (defArgs s__law_words) (defBody s__law_words) (defScope s__law_words) .none kV__law_words dc__law_words pm__law_words an__law_words cd__law_words ct__law_words), sl__law_words⟩) (e__law_words : PySem.W.codeIn K cd__law_words "_law_words" = true) (k__law_words : PySem.W.keepIn K (.ref f__law_words) = true)
    {od__law_holds an__law_holds : Option Addr} {sl__law_holds : Array (Option Value)} {oc__law_holds kV__law_holds dc__law_holds pm__law_holds cd__law_holds ct__law_holds : Value}
    (a__law_holds : PySem.W.nsIn K mainGlobals "_law_holds" = some (some (.ref f__law_holds)))
    (l__law_holds : K.lookup f__law_holds = some ⟨oc__law_holds, od__law_holds, .func (PySem.W.fnOf "_law_holds" "_law_holds" (defArgs s__law_holds) (defBody s__law_holds) (defScope s__law_holds) .none kV__law_holds dc__law_holds pm__law_holds an__law_holds cd__law_holds ct__law_holds), sl__law_holds⟩) (e__law_holds : PySem.W.codeIn K cd__law_holds "_law_holds" = true) (k__law_holds : PySem.W.keepIn K (.ref f__law_holds) = true)
    {od_law an_law : Option Addr} {sl_law : Array (Option Value)} {oc_law kV_law dc_law pm_law cd_law ct_law : Value}
    (a_law : PySem.W.nsIn K mainGlobals "law" = some (some (.ref f_law)))
    (l_law : K.lookup f_law = some ⟨oc_law, od_law, .func (PySem.W.fnOf "law" "law" (defArgs s_law) (defBody s_law) (defScope s_law) .none kV_law dc_law pm_law an_law cd_law ct_law), sl_law⟩) (e_law : PySem.W.codeIn K cd_law "law" = true) (k_law : PySem.W.keepIn K (.ref f_law) = true)
    (ac_Tokens : PySem.W.nsIn K mainGlobals "Tokens" = some (some (.ref c_Tokens))) (pg_Tokens : PySem.W.plainGet K c_Tokens Str.empty = true) (hd_Tokens : PySem.W.hasDictIn K c_Tokens = true) (po_Tokens : PySem.W.plainOver K c_Tokens = true) (sa_Tokens : PySem.W.findIn K (.ref c_Tokens) "__setattr__" = some (some (.builtin "object.__setattr__"))) (mk_Tokens : PySem.W.makesIn K c_Tokens = true) (kc_Tokens : PySem.W.keepIn K (.ref c_Tokens) = true)
    (nf_Tokens_found : PySem.W.findIn K (.ref c_Tokens) "found" = some none)
    (nf_Tokens_taken : PySem.W.findIn K (.ref c_Tokens) "taken" = some none)
    (ac_Condition : PySem.W.nsIn K mainGlobals "Condition" = some (some (.ref c_Condition))) (pg_Condition : PySem.W.plainGet K c_Condition Str.empty = true) (hd_Condition : PySem.W.hasDictIn K c_Condition = true) (po_Condition : PySem.W.plainOver K c_Condition = true) (sa_Condition : PySem.W.findIn K (.ref c_Condition) "__setattr__" = some (some (.builtin "object.__setattr__"))) (mk_Condition : PySem.W.makesIn K c_Condition = true) (kc_Condition : PySem.W.keepIn K (.ref c_Condition) = true)
    (nf_Condition__parts : PySem.W.findIn K (.ref c_Condition) "_parts" = some none)
    (x_fi : PySem.W.fnIn K f_Condition___call__ = true)
    (z_int : PySem.W.nsIn K mainGlobals "int" = some none)
    (z_len : PySem.W.nsIn K mainGlobals "len" = some none)
    (z_all : PySem.W.nsIn K mainGlobals "all" = some none)
    (z_max : PySem.W.nsIn K mainGlobals "max" = some none)
    (z_isinstance : PySem.W.nsIn K mainGlobals "isinstance" = some none)
    (z_str : PySem.W.nsIn K mainGlobals "str" = some none)
    (z_tuple : PySem.W.nsIn K mainGlobals "tuple" = some none)
    (z_range : PySem.W.nsIn K mainGlobals "range" = some none)
    (z_bool : PySem.W.nsIn K mainGlobals "bool" = some none)
    (z_list : PySem.W.nsIn K mainGlobals "list" = some none)
    {tk_LETTERS : Tok} (y_LETTERS : PySem.W.nsIn K mainGlobals "LETTERS" = some (some (.str LET tk_LETTERS)))
    {tk_DIGITS : Tok} (y_DIGITS : PySem.W.nsIn K mainGlobals "DIGITS" = some (some (.str DIG tk_DIGITS)))
    {tk_BLANKS : Tok} (y_BLANKS : PySem.W.nsIn K mainGlobals "BLANKS" = some (some (.str " \n" tk_BLANKS)))
    {tk_NAME : Tok} (y_NAME : PySem.W.nsIn K mainGlobals "NAME" = some (some (.str "NAME" tk_NAME)))
    {tk_NUMBER : Tok} (y_NUMBER : PySem.W.nsIn K mainGlobals "NUMBER" = some (some (.str "NUMBER" tk_NUMBER)))
    {tk_WRONG : Tok} (y_WRONG : PySem.W.nsIn K mainGlobals "WRONG" = some (some (.str "WRONG" tk_WRONG)))
    {tk_END : Tok} (y_END : PySem.W.nsIn K mainGlobals "END" = some (some (.str "END" tk_END)))
    {tk_MOST_DIGITS : Tok} (y_MOST_DIGITS : PySem.W.nsIn K mainGlobals "MOST_DIGITS" = some (some (.int 12 tk_MOST_DIGITS)))
    {tk_MOST_AROUND : Tok} (y_MOST_AROUND : PySem.W.nsIn K mainGlobals "MOST_AROUND" = some (some (.int 30 tk_MOST_AROUND)))
    {td_KEYWORDS : Option Addr} {ti_KEYWORDS : Array Value} {tn_KEYWORDS : Nat} {ts_KEYWORDS : Array (Option Value)} (u_KEYWORDS : PySem.W.nsIn K mainGlobals "KEYWORDS" = some (some (.ref t_KEYWORDS))) (w_KEYWORDS : K.lookup t_KEYWORDS = some ⟨.type "tuple", td_KEYWORDS, .seq ti_KEYWORDS tn_KEYWORDS, ts_KEYWORDS⟩) (v_KEYWORDS : ti_KEYWORDS.size ≤ sizeLine ∧ Vals kws ti_KEYWORDS.toList)
    {td_SIGNS : Option Addr} {ti_SIGNS : Array Value} {tn_SIGNS : Nat} {ts_SIGNS : Array (Option Value)} (u_SIGNS : PySem.W.nsIn K mainGlobals "SIGNS" = some (some (.ref t_SIGNS))) (w_SIGNS : K.lookup t_SIGNS = some ⟨.type "tuple", td_SIGNS, .seq ti_SIGNS tn_SIGNS, ts_SIGNS⟩) (v_SIGNS : ti_SIGNS.size ≤ sizeLine ∧ Vals sgs ti_SIGNS.toList)
    {td_FIELDS : Option Addr} {ti_FIELDS : Array Value} {tn_FIELDS : Nat} {ts_FIELDS : Array (Option Value)} (u_FIELDS : PySem.W.nsIn K mainGlobals "FIELDS" = some (some (.ref t_FIELDS))) (w_FIELDS : K.lookup t_FIELDS = some ⟨.type "tuple", td_FIELDS, .seq ti_FIELDS tn_FIELDS, ts_FIELDS⟩) (v_FIELDS : ti_FIELDS.size ≤ sizeLine ∧ Vals fds ti_FIELDS.toList)
    {td_ANSWERS : Option Addr} {ti_ANSWERS : Array Value} {tn_ANSWERS : Nat} {ts_ANSWERS : Array (Option Value)} (u_ANSWERS : PySem.W.nsIn K mainGlobals "ANSWERS" = some (some (.ref t_ANSWERS))) (w_ANSWERS : K.lookup t_ANSWERS = some ⟨.type "tuple", td_ANSWERS, .seq ti_ANSWERS tn_ANSWERS, ts_ANSWERS⟩) (v_ANSWERS : ti_ANSWERS.size ≤ sizeLine ∧ Vals ans ti_ANSWERS.toList)
    {es_PARTS_OF_ROWS : Array DictEntry} {dn_PARTS_OF_ROWS : Nat} (u_PARTS_OF_ROWS : PySem.W.nsIn K mainGlobals "PARTS_OF_ROWS" = some (some (.ref t_PARTS_OF_ROWS))) (w_PARTS_OF_ROWS : K.lookup t_PARTS_OF_ROWS = some ⟨.type "dict", none, .dict es_PARTS_OF_ROWS dn_PARTS_OF_ROWS, #[]⟩) (v_PARTS_OF_ROWS : PySem.W.KeysLit w.params es_PARTS_OF_ROWS.toList)
    {kt_PARTS_OF_ROWS_function : Tok} (kk_PARTS_OF_ROWS_function : PySem.W.nsIn K t_PARTS_OF_ROWS "function" = some (some (.int 0 kt_PARTS_OF_ROWS_function)))
    {kt_PARTS_OF_ROWS_place : Tok} (kk_PARTS_OF_ROWS_place : PySem.W.nsIn K t_PARTS_OF_ROWS "place" = some (some (.int 1 kt_PARTS_OF_ROWS_place)))
    {kt_PARTS_OF_ROWS_kind : Tok} (kk_PARTS_OF_ROWS_kind : PySem.W.nsIn K t_PARTS_OF_ROWS "kind" = some (some (.int 2 kt_PARTS_OF_ROWS_kind)))
    {kt_PARTS_OF_ROWS_verdict : Tok} (kk_PARTS_OF_ROWS_verdict : PySem.W.nsIn K t_PARTS_OF_ROWS "verdict" = some (some (.int 3 kt_PARTS_OF_ROWS_verdict)))
    : ∃ fd : FuncData, (∀ (s : Shared) (v : Value), BindsTo s fd ⟨[v], []⟩ [("_law_script", v)]) ∧ ∀ base : Heap, K.In base → base.Ns mainGlobals mg → FnOk l.prog w K mg base CX0 28 fa fd ["_law_script"] (spLaw K) := by
  have e := hfa.symm.trans (PySem.W.mg_of X G a_law)
  cases e
  have F_is_word := fun_mk (st := s_is_word) l_is_word e_is_word k_is_word
  have b_is_word := F_is_word.binds (ps := ["text"]) fun _ _ _ _ _ _ us hl => match us, hl with | [_], _ => rfl
  have F_is_number := fun_mk (st := s_is_number) l_is_number e_is_number k_is_number
  have b_is_number := F_is_number.binds (ps := ["piece"]) fun _ _ _ _ _ _ us hl => match us, hl with | [_], _ => rfl
  have F_kind_of := fun_mk (st := s_kind_of) l_kind_of e_kind_of k_kind_of
  have b_kind_of := F_kind_of.binds (ps := ["piece"]) fun _ _ _ _ _ _ us hl => match us, hl with | [_], _ => rfl
  have F_run_end := fun_mk (st := s_run_end) l_run_end e_run_end k_run_end
  have b_run_end := F_run_end.binds (ps := ["text", "start"]) fun _ _ _ _ _ _ us hl => match us, hl with | [_, _], _ => rfl
  have F_tokens_of := fun_mk (st := s_tokens_of) l_tokens_of e_tokens_of k_tokens_of
  have b_tokens_of := F_tokens_of.binds (ps := ["text"]) fun _ _ _ _ _ _ us hl => match us, hl with | [_], _ => rfl
  have F_Tokens___init__ := fun_mk (st := s_Tokens___init__) l_Tokens___init__ e_Tokens___init__ k_Tokens___init__
  have b_Tokens___init__ := F_Tokens___init__.binds (ps := ["self", "text"]) fun _ _ _ _ _ _ us hl => match us, hl with | [_, _], _ => rfl
  have F_Tokens_kind_ahead : FunD K "kind_ahead" "Tokens.kind_ahead" (defArgs s_Tokens_kind_ahead) (defBody s_Tokens_kind_ahead) (defScope s_Tokens_kind_ahead) [.int 0] [] f_Tokens_kind_ahead _ := ⟨⟨_, _, _, _, _, _, _, _, _, _, rfl, l_Tokens_kind_ahead, e_Tokens_kind_ahead, .inr ⟨by simp, _, _, _, _, rfl, dl_Tokens_kind_ahead, dd_Tokens_kind_ahead.1, dd_Tokens_kind_ahead.2⟩, .inl rfl⟩, k_Tokens_kind_ahead⟩
  have b_Tokens_kind_ahead := F_Tokens_kind_ahead.binds1 (ps := ["self", "further"]) 1 0 (by simp) rfl (fun _ _ _ _ _ _ _ us its hu hi => match us, hu, its, hi with | [_], _, [_], _ => ⟨_, rfl, rfl⟩)
  have F_Tokens_take := fun_mk (st := s_Tokens_take) l_Tokens_take e_Tokens_take k_Tokens_take
  have b_Tokens_take := F_Tokens_take.binds (ps := ["self", "kind"]) fun _ _ _ _ _ _ us hl => match us, hl with | [_, _], _ => rfl
  have F_Tokens_word_ahead := fun_mk (st := s_Tokens_word_ahead) l_Tokens_word_ahead e_Tokens_word_ahead k_Tokens_word_ahead
  have b_Tokens_word_ahead := F_Tokens_word_ahead.binds (ps := ["self"]) fun _ _ _ _ _ _ us hl => match us, hl with | [_], _ => rfl
  have F_Tokens_skip_word := fun_mk (st := s_Tokens_skip_word) l_Tokens_skip_word e_Tokens_skip_word k_Tokens_skip_word
  have b_Tokens_skip_word := F_Tokens_skip_word.binds (ps := ["self", "word"]) fun _ _ _ _ _ _ us hl => match us, hl with | [_, _], _ => rfl
  have F_Tokens_take_word := fun_mk (st := s_Tokens_take_word) l_Tokens_take_word e_Tokens_take_word k_Tokens_take_word
  have b_Tokens_take_word := F_Tokens_take_word.binds (ps := ["self", "words"]) fun _ _ _ _ _ _ us hl => match us, hl with | [_, _], _ => rfl
  have F_read_number := fun_mk (st := s_read_number) l_read_number e_read_number k_read_number
  have b_read_number := F_read_number.binds (ps := ["tokens"]) fun _ _ _ _ _ _ us hl => match us, hl with | [_], _ => rfl
  have F_Condition___init__ := fun_mk (st := s_Condition___init__) l_Condition___init__ e_Condition___init__ k_Condition___init__
  have b_Condition___init__ := F_Condition___init__.binds (ps := ["self", "parts"]) fun _ _ _ _ _ _ us hl => match us, hl with | [_, _], _ => rfl
  have F_Condition___call__ := fun_mk (st := s_Condition___call__) l_Condition___call__ e_Condition___call__ k_Condition___call__
  have b_Condition___call__ := F_Condition___call__.binds (ps := ["self", "row"]) fun _ _ _ _ _ _ us hl => match us, hl with | [_, _], _ => rfl
  have F_read_condition := fun_mk (st := s_read_condition) l_read_condition e_read_condition k_read_condition
  have b_read_condition := F_read_condition.binds (ps := ["text"]) fun _ _ _ _ _ _ us hl => match us, hl with | [_], _ => rfl
  have F_question_tokens := fun_mk (st := s_question_tokens) l_question_tokens e_question_tokens k_question_tokens
  have b_question_tokens := F_question_tokens.binds (ps := ["text"]) fun _ _ _ _ _ _ us hl => match us, hl with | [_], _ => rfl
  have F_read_or := fun_mk (st := s_read_or) l_read_or e_read_or k_read_or
  have b_read_or := F_read_or.binds (ps := ["tokens", "around"]) fun _ _ _ _ _ _ us hl => match us, hl with | [_, _], _ => rfl
  have F_read_and := fun_mk (st := s_read_and) l_read_and e_read_and k_read_and
  have b_read_and := F_read_and.binds (ps := ["tokens", "around"]) fun _ _ _ _ _ _ us hl => match us, hl with | [_, _], _ => rfl
  have F_read_one := fun_mk (st := s_read_one) l_read_one e_read_one k_read_one
  have b_read_one := F_read_one.binds (ps := ["tokens", "around"]) fun _ _ _ _ _ _ us hl => match us, hl with | [_, _], _ => rfl
  have F_read_value := fun_mk (st := s_read_value) l_read_value e_read_value k_read_value
  have b_read_value := F_read_value.binds (ps := ["tokens", "word"]) fun _ _ _ _ _ _ us hl => match us, hl with | [_, _], _ => rfl
  have F__law_pool := fun_mk (st := s__law_pool) l__law_pool e__law_pool k__law_pool
  have b__law_pool := F__law_pool.binds (ps := ["_law_script"]) fun _ _ _ _ _ _ us hl => match us, hl with | [_], _ => rfl
  have F__law_mixed := fun_mk (st := s__law_mixed) l__law_mixed e__law_mixed k__law_mixed
  have b__law_mixed := F__law_mixed.binds (ps := ["_law_number", "_law_count", "_law_many"]) fun _ _ _ _ _ _ us hl => match us, hl with | [_, _, _], _ => rfl
  have F__law_draw := fun_mk (st := s__law_draw) l__law_draw e__law_draw k__law_draw
  have b__law_draw := F__law_draw.binds (ps := ["_law_pool_here", "_law_many"]) fun _ _ _ _ _ _ us hl => match us, hl with | [_, _], _ => rfl
  have F__law_names := fun_mk (st := s__law_names) l__law_names e__law_names k__law_names
  have b__law_names := F__law_names.binds (ps := ["_law_pool_here"]) fun _ _ _ _ _ _ us hl => match us, hl with | [_], _ => rfl
  have F__law_form := fun_mk (st := s__law_form) l__law_form e__law_form k__law_form
  have b__law_form := F__law_form.binds (ps := ["_law_pool_here", "_law_words_here", "_law_depth"]) fun _ _ _ _ _ _ us hl => match us, hl with | [_, _, _], _ => rfl
  have F__law_rank := fun_mk (st := s__law_rank) l__law_rank e__law_rank k__law_rank
  have b__law_rank := F__law_rank.binds (ps := ["_law_form_here"]) fun _ _ _ _ _ _ us hl => match us, hl with | [_], _ => rfl
  have F__law_words := fun_mk (st := s__law_words) l__law_words e__law_words k__law_words
  have b__law_words := F__law_words.binds (ps := ["_law_form_here", "_law_rank_here", "_law_extra"]) fun _ _ _ _ _ _ us hl => match us, hl with | [_, _, _], _ => rfl
  have F__law_holds := fun_mk (st := s__law_holds) l__law_holds e__law_holds k__law_holds
  have b__law_holds := F__law_holds.binds (ps := ["_law_form_here", "_law_row"]) fun _ _ _ _ _ _ us hl => match us, hl with | [_, _], _ => rfl
  have F_law := fun_mk (st := s_law) l_law e_law k_law
  have T : Txt w K mg { f_is_word := f_is_word, f_is_word_d := _, f_is_number := f_is_number, f_is_number_d := _, f_kind_of := f_kind_of, f_kind_of_d := _, f_run_end := f_run_end, f_run_end_d := _, f_tokens_of := f_tokens_of, f_tokens_of_d := _, f_Tokens___init__ := f_Tokens___init__, f_Tokens___init___d := _, f_Tokens_kind_ahead := f_Tokens_kind_ahead, f_Tokens_kind_ahead_d := _, f_Tokens_take := f_Tokens_take, f_Tokens_take_d := _, f_Tokens_word_ahead := f_Tokens_word_ahead, f_Tokens_word_ahead_d := _, f_Tokens_skip_word := f_Tokens_skip_word, f_Tokens_skip_word_d := _, f_Tokens_take_word := f_Tokens_take_word, f_Tokens_take_word_d := _, f_read_number := f_read_number, f_read_number_d := _, f_Condition___init__ := f_Condition___init__, f_Condition___init___d := _, f_Condition___call__ := f_Condition___call__, f_Condition___call___d := _, f_read_condition := f_read_condition, f_read_condition_d := _, f_question_tokens := f_question_tokens, f_question_tokens_d := _, f_read_or := f_read_or, f_read_or_d := _, f_read_and := f_read_and, f_read_and_d := _, f_read_one := f_read_one, f_read_one_d := _, f_read_value := f_read_value, f_read_value_d := _, f__law_pool := f__law_pool, f__law_pool_d := _, f__law_mixed := f__law_mixed, f__law_mixed_d := _, f__law_draw := f__law_draw, f__law_draw_d := _, f__law_names := f__law_names, f__law_names_d := _, f__law_form := f__law_form, f__law_form_d := _, f__law_rank := f__law_rank, f__law_rank_d := _, f__law_words := f__law_words, f__law_words_d := _, f__law_holds := f__law_holds, f__law_holds_d := _, f_law := fa, f_law_d := _, c_Tokens := c_Tokens, c_Condition := c_Condition, t_KEYWORDS := t_KEYWORDS, t_SIGNS := t_SIGNS, t_FIELDS := t_FIELDS, t_ANSWERS := t_ANSWERS, t_PARTS_OF_ROWS := t_PARTS_OF_ROWS } := {
    F_is_word := F_is_word,
    b_is_word := b_is_word,
    g_is_word := PySem.W.mg_of X G a_is_word,
    F_is_number := F_is_number,
    b_is_number := b_is_number,
    g_is_number := PySem.W.mg_of X G a_is_number,
    F_kind_of := F_kind_of,
    b_kind_of := b_kind_of,
    g_kind_of := PySem.W.mg_of X G a_kind_of,
    F_run_end := F_run_end,
    b_run_end := b_run_end,
    g_run_end := PySem.W.mg_of X G a_run_end,
    F_tokens_of := F_tokens_of,
    b_tokens_of := b_tokens_of,
    g_tokens_of := PySem.W.mg_of X G a_tokens_of,
    F_Tokens___init__ := F_Tokens___init__,
    b_Tokens___init__ := b_Tokens___init__,
    mk_Tokens := ⟨mk_Tokens, a_Tokens___init__, i_Tokens___init__, kc_Tokens⟩,
    F_Tokens_kind_ahead := F_Tokens_kind_ahead,
    b_Tokens_kind_ahead := b_Tokens_kind_ahead,
    m_Tokens_kind_ahead := ⟨a_Tokens_kind_ahead, i_Tokens_kind_ahead, k_Tokens_kind_ahead⟩,
    F_Tokens_take := F_Tokens_take,
    b_Tokens_take := b_Tokens_take,
    m_Tokens_take := ⟨a_Tokens_take, i_Tokens_take, k_Tokens_take⟩,
    F_Tokens_word_ahead := F_Tokens_word_ahead,
    b_Tokens_word_ahead := b_Tokens_word_ahead,
    m_Tokens_word_ahead := ⟨a_Tokens_word_ahead, i_Tokens_word_ahead, k_Tokens_word_ahead⟩,
    F_Tokens_skip_word := F_Tokens_skip_word,
    b_Tokens_skip_word := b_Tokens_skip_word,
    m_Tokens_skip_word := ⟨a_Tokens_skip_word, i_Tokens_skip_word, k_Tokens_skip_word⟩,
    F_Tokens_take_word := F_Tokens_take_word,
    b_Tokens_take_word := b_Tokens_take_word,
    m_Tokens_take_word := ⟨a_Tokens_take_word, i_Tokens_take_word, k_Tokens_take_word⟩,
    F_read_number := F_read_number,
    b_read_number := b_read_number,
    g_read_number := PySem.W.mg_of X G a_read_number,
    F_Condition___init__ := F_Condition___init__,
    b_Condition___init__ := b_Condition___init__,
    mk_Condition := ⟨mk_Condition, a_Condition___init__, i_Condition___init__, kc_Condition⟩,
    F_Condition___call__ := F_Condition___call__,
    b_Condition___call__ := b_Condition___call__,
    m_Condition___call__ := ⟨a_Condition___call__, i_Condition___call__, k_Condition___call__⟩,
    F_read_condition := F_read_condition,
    b_read_condition := b_read_condition,
    g_read_condition := PySem.W.mg_of X G a_read_condition,
    F_question_tokens := F_question_tokens,
    b_question_tokens := b_question_tokens,
    g_question_tokens := PySem.W.mg_of X G a_question_tokens,
    F_read_or := F_read_or,
    b_read_or := b_read_or,
    g_read_or := PySem.W.mg_of X G a_read_or,
    F_read_and := F_read_and,
    b_read_and := b_read_and,
    g_read_and := PySem.W.mg_of X G a_read_and,
    F_read_one := F_read_one,
    b_read_one := b_read_one,
    g_read_one := PySem.W.mg_of X G a_read_one,
    F_read_value := F_read_value,
    b_read_value := b_read_value,
    g_read_value := PySem.W.mg_of X G a_read_value,
    F__law_pool := F__law_pool,
    b__law_pool := b__law_pool,
    g__law_pool := PySem.W.mg_of X G a__law_pool,
    F__law_mixed := F__law_mixed,
    b__law_mixed := b__law_mixed,
    g__law_mixed := PySem.W.mg_of X G a__law_mixed,
    F__law_draw := F__law_draw,
    b__law_draw := b__law_draw,
    g__law_draw := PySem.W.mg_of X G a__law_draw,
    F__law_names := F__law_names,
    b__law_names := b__law_names,
    g__law_names := PySem.W.mg_of X G a__law_names,
    F__law_form := F__law_form,
    b__law_form := b__law_form,
    g__law_form := PySem.W.mg_of X G a__law_form,
    F__law_rank := F__law_rank,
    b__law_rank := b__law_rank,
    g__law_rank := PySem.W.mg_of X G a__law_rank,
    F__law_words := F__law_words,
    b__law_words := b__law_words,
    g__law_words := PySem.W.mg_of X G a__law_words,
    F__law_holds := F__law_holds,
    b__law_holds := b__law_holds,
    g__law_holds := PySem.W.mg_of X G a__law_holds,
    F_law := F_law,
    g_law := PySem.W.mg_of X G a_law,
    cl_Tokens := ⟨pg_Tokens, hd_Tokens, po_Tokens, sa_Tokens⟩,
    mg_Tokens := PySem.W.mg_of X G ac_Tokens,
    n_Tokens_found := nf_Tokens_found,
    n_Tokens_taken := nf_Tokens_taken,
    cl_Condition := ⟨pg_Condition, hd_Condition, po_Condition, sa_Condition⟩,
    mg_Condition := PySem.W.mg_of X G ac_Condition,
    n_Condition__parts := nf_Condition__parts,
    fi := x_fi,
    int := PySem.W.mg_none_of X G z_int,
    len := PySem.W.mg_none_of X G z_len,
    all := PySem.W.mg_none_of X G z_all,
    max := PySem.W.mg_none_of X G z_max,
    isinstance := PySem.W.mg_none_of X G z_isinstance,
    str := PySem.W.mg_none_of X G z_str,
    tuple := PySem.W.mg_none_of X G z_tuple,
    range := PySem.W.mg_none_of X G z_range,
    bool := PySem.W.mg_none_of X G z_bool,
    list := PySem.W.mg_none_of X G z_list,
    g_LETTERS := ⟨_, PySem.W.mg_of X G y_LETTERS⟩,
    g_DIGITS := ⟨_, PySem.W.mg_of X G y_DIGITS⟩,
    g_BLANKS := ⟨_, PySem.W.mg_of X G y_BLANKS⟩,
    g_NAME := ⟨_, PySem.W.mg_of X G y_NAME⟩,
    g_NUMBER := ⟨_, PySem.W.mg_of X G y_NUMBER⟩,
    g_WRONG := ⟨_, PySem.W.mg_of X G y_WRONG⟩,
    g_END := ⟨_, PySem.W.mg_of X G y_END⟩,
    g_MOST_DIGITS := ⟨_, PySem.W.mg_of X G y_MOST_DIGITS⟩,
    g_MOST_AROUND := ⟨_, PySem.W.mg_of X G y_MOST_AROUND⟩,
    g_KEYWORDS := PySem.W.mg_of X G u_KEYWORDS,
    q_KEYWORDS := fun H => .inr ⟨_, _, _, w_KEYWORDS, rfl, rfl, v_KEYWORDS.1, v_KEYWORDS.2⟩,
    g_SIGNS := PySem.W.mg_of X G u_SIGNS,
    q_SIGNS := fun H => .inr ⟨_, _, _, w_SIGNS, rfl, rfl, v_SIGNS.1, v_SIGNS.2⟩,
    g_FIELDS := PySem.W.mg_of X G u_FIELDS,
    q_FIELDS := fun H => .inr ⟨_, _, _, w_FIELDS, rfl, rfl, v_FIELDS.1, v_FIELDS.2⟩,
    g_ANSWERS := PySem.W.mg_of X G u_ANSWERS,
    q_ANSWERS := fun H => .inr ⟨_, _, _, w_ANSWERS, rfl, rfl, v_ANSWERS.1, v_ANSWERS.2⟩,
    g_PARTS_OF_ROWS := PySem.W.mg_of X G u_PARTS_OF_ROWS,
    kd_PARTS_OF_ROWS_function := ⟨_, _, _, w_PARTS_OF_ROWS, v_PARTS_OF_ROWS, kk_PARTS_OF_ROWS_function, ⟨_, rfl⟩⟩,
    kd_PARTS_OF_ROWS_place := ⟨_, _, _, w_PARTS_OF_ROWS, v_PARTS_OF_ROWS, kk_PARTS_OF_ROWS_place, ⟨_, rfl⟩⟩,
    kd_PARTS_OF_ROWS_kind := ⟨_, _, _, w_PARTS_OF_ROWS, v_PARTS_OF_ROWS, kk_PARTS_OF_ROWS_kind, ⟨_, rfl⟩⟩,
    kd_PARTS_OF_ROWS_verdict := ⟨_, _, _, w_PARTS_OF_ROWS, v_PARTS_OF_ROWS, kk_PARTS_OF_ROWS_verdict, ⟨_, rfl⟩⟩ }
  exact ⟨PySem.W.fnOf "law" "law" (defArgs s_law) (defBody s_law) (defScope s_law) .none kV_law dc_law pm_law an_law cd_law ct_law, fun s v => .of_eq rfl, fun base _ _ => ok_law T⟩
end K34
open PySem PySem.W PyProof.Rows
set_option maxRecDepth 100000 in
set_option maxHeartbeats 0 in
theorem PySem.Challenge.cw_allornothing_k34_conditions_on_rows_holds : PySem.Challenge.rw_allornothing_k34_conditions_on_rows.Holds := by
  w_on; o_law; k_head; (case hw => w_witness2)
  k_fill
  refine L2.walk_of (l := PySem.Challenge.rw_allornothing_k34_conditions_on_rows) (n := 63) (k := 28) (x := "_law_script") (CX := fun _ => L2.CX0) (sp := fun w => K34.spLaw _) rfl (by decide) rfl ⟨rfl, by decide, by decide⟩ (fun w h Y => PySem.W.kIn_of Y) ?F (fun _ _ a ns hl _ hS => ⟨a, ns, rfl, hS, hl, fun _ => rfl⟩) (fun _ _ _ _ _ h => h)
  case F =>
    intro w mg fa h KX G hmg
    refine' K34.all_mk KX G hmg ?a_is_word ?l_is_word ?e_is_word ?k_is_word ?a_is_number ?l_is_number ?e_is_number ?k_is_number ?a_kind_of ?l_kind_of ?e_kind_of ?k_kind_of ?a_run_end ?l_run_end ?e_run_end ?k_run_end ?a_tokens_of ?l_tokens_of ?e_tokens_of ?k_tokens_of ?a_Tokens___init__ ?l_Tokens___init__ ?e_Tokens___init__ ?k_Tokens___init__ ?i_Tokens___init__ ?a_Tokens_kind_ahead ?l_Tokens_kind_ahead ?e_Tokens_kind_ahead ?k_Tokens_kind_ahead ?dl_Tokens_kind_ahead ?dd_Tokens_kind_ahead ?i_Tokens_kind_ahead ?a_Tokens_take ?l_Tokens_take ?e_Tokens_take ?k_Tokens_take ?i_Tokens_take ?a_Tokens_word_ahead ?l_Tokens_word_ahead ?e_Tokens_word_ahead ?k_Tokens_word_ahead ?i_Tokens_word_ahead ?a_Tokens_skip_word ?l_Tokens_skip_word ?e_Tokens_skip_word ?k_Tokens_skip_word ?i_Tokens_skip_word ?a_Tokens_take_word ?l_Tokens_take_word ?e_Tokens_take_word ?k_Tokens_take_word ?i_Tokens_take_word ?a_read_number ?l_read_number ?e_read_number ?k_read_number ?a_Condition___init__ ?l_Condition___init__ ?e_Condition___init__ ?k_Condition___init__ ?i_Condition___init__ ?a_Condition___call__ ?l_Condition___call__ ?e_Condition___call__ ?k_Condition___call__ ?i_Condition___call__ ?a_read_condition ?l_read_condition ?e_read_condition ?k_read_condition ?a_question_tokens ?l_question_tokens ?e_question_tokens ?k_question_tokens ?a_read_or ?l_read_or ?e_read_or ?k_read_or ?a_read_and ?l_read_and ?e_read_and ?k_read_and ?a_read_one ?l_read_one ?e_read_one ?k_read_one ?a_read_value ?l_read_value ?e_read_value ?k_read_value ?a__law_pool ?l__law_pool ?e__law_pool ?k__law_pool ?a__law_mixed ?l__law_mixed ?e__law_mixed ?k__law_mixed ?a__law_draw ?l__law_draw ?e__law_draw ?k__law_draw ?a__law_names ?l__law_names ?e__law_names ?k__law_names ?a__law_form ?l__law_form ?e__law_form ?k__law_form ?a__law_rank ?l__law_rank ?e__law_rank ?k__law_rank ?a__law_words ?l__law_words ?e__law_words ?k__law_words ?a__law_holds ?l__law_holds ?e__law_holds ?k__law_holds ?a_law ?l_law ?e_law ?k_law ?ac_Tokens ?pg_Tokens ?hd_Tokens ?po_Tokens ?sa_Tokens ?mk_Tokens ?kc_Tokens ?nf_Tokens_found ?nf_Tokens_taken ?ac_Condition ?pg_Condition ?hd_Condition ?po_Condition ?sa_Condition ?mk_Condition ?kc_Condition ?nf_Condition__parts ?x_fi ?z_int ?z_len ?z_all ?z_max ?z_isinstance ?z_str ?z_tuple ?z_range ?z_bool ?z_list ?y_LETTERS ?y_DIGITS ?y_BLANKS ?y_NAME ?y_NUMBER ?y_WRONG ?y_END ?y_MOST_DIGITS ?y_MOST_AROUND ?u_KEYWORDS ?w_KEYWORDS ?v_KEYWORDS ?u_SIGNS ?w_SIGNS ?v_SIGNS ?u_FIELDS ?w_FIELDS ?v_FIELDS ?u_ANSWERS ?w_ANSWERS ?v_ANSWERS ?u_PARTS_OF_ROWS ?w_PARTS_OF_ROWS ?v_PARTS_OF_ROWS ?kk_PARTS_OF_ROWS_function ?kk_PARTS_OF_ROWS_place ?kk_PARTS_OF_ROWS_kind ?kk_PARTS_OF_ROWS_verdict
    (case ac_Tokens => k_is)
    (case ac_Condition => k_is)
    (case a_is_word => k_is)
    (case l_is_word => k_is)
    (case e_is_word => k_is)
    (case k_is_word => k_is)
    (case a_is_number => k_is)
    (case l_is_number => k_is)
    (case e_is_number => k_is)
    (case k_is_number => k_is)
    (case a_kind_of => k_is)
    (case l_kind_of => k_is)
    (case e_kind_of => k_is)
    (case k_kind_of => k_is)
    (case a_run_end => k_is)
    (case l_run_end => k_is)
    (case e_run_end => k_is)
    (case k_run_end => k_is)
    (case a_tokens_of => k_is)
    (case l_tokens_of => k_is)
    (case e_tokens_of => k_is)
    (case k_tokens_of => k_is)
    (case a_Tokens___init__ => k_is)
    (case l_Tokens___init__ => k_is)
    (case e_Tokens___init__ => k_is)
    (case k_Tokens___init__ => k_is)
    (case i_Tokens___init__ => k_is)
    (case a_Tokens_kind_ahead => k_is)
    (case l_Tokens_kind_ahead => k_is)
    (case e_Tokens_kind_ahead => k_is)
    (case k_Tokens_kind_ahead => k_is)
    (case dl_Tokens_kind_ahead => k_is)
    (case dd_Tokens_kind_ahead => exact ⟨rfl, by repeat (first | exact .nil | refine .cons ⟨_, rfl⟩ ?_)⟩)
    (case i_Tokens_kind_ahead => k_is)
    (case a_Tokens_take => k_is)
    (case l_Tokens_take => k_is)
    (case e_Tokens_take => k_is)
    (case k_Tokens_take => k_is)
    (case i_Tokens_take => k_is)
    (case a_Tokens_word_ahead => k_is)
    (case l_Tokens_word_ahead => k_is)
    (case e_Tokens_word_ahead => k_is)
    (case k_Tokens_word_ahead => k_is)
    (case i_Tokens_word_ahead => k_is)
    (case a_Tokens_skip_word => k_is)
    (case l_Tokens_skip_word => k_is)
    (case e_Tokens_skip_word => k_is)
    (case k_Tokens_skip_word => k_is)
    (case i_Tokens_skip_word => k_is)
    (case a_Tokens_take_word => k_is)
    (case l_Tokens_take_word => k_is)
    (case e_Tokens_take_word => k_is)
    (case k_Tokens_take_word => k_is)
    (case i_Tokens_take_word => k_is)
    (case a_read_number => k_is)
    (case l_read_number => k_is)
    (case e_read_number => k_is)
    (case k_read_number => k_is)
    (case a_Condition___init__ => k_is)
    (case l_Condition___init__ => k_is)
    (case e_Condition___init__ => k_is)
    (case k_Condition___init__ => k_is)
    (case i_Condition___init__ => k_is)
    (case a_Condition___call__ => k_is)
    (case l_Condition___call__ => k_is)
    (case e_Condition___call__ => k_is)
    (case k_Condition___call__ => k_is)
    (case i_Condition___call__ => k_is)
    (case a_read_condition => k_is)
    (case l_read_condition => k_is)
    (case e_read_condition => k_is)
    (case k_read_condition => k_is)
    (case a_question_tokens => k_is)
    (case l_question_tokens => k_is)
    (case e_question_tokens => k_is)
    (case k_question_tokens => k_is)
    (case a_read_or => k_is)
    (case l_read_or => k_is)
    (case e_read_or => k_is)
    (case k_read_or => k_is)
    (case a_read_and => k_is)
    (case l_read_and => k_is)
    (case e_read_and => k_is)
    (case k_read_and => k_is)
    (case a_read_one => k_is)
    (case l_read_one => k_is)
    (case e_read_one => k_is)
    (case k_read_one => k_is)
    (case a_read_value => k_is)
    (case l_read_value => k_is)
    (case e_read_value => k_is)
    (case k_read_value => k_is)
    (case a__law_pool => k_is)
    (case l__law_pool => k_is)
    (case e__law_pool => k_is)
    (case k__law_pool => k_is)
    (case a__law_mixed => k_is)
    (case l__law_mixed => k_is)
    (case e__law_mixed => k_is)
    (case k__law_mixed => k_is)
    (case a__law_draw => k_is)
    (case l__law_draw => k_is)
    (case e__law_draw => k_is)
    (case k__law_draw => k_is)
    (case a__law_names => k_is)
    (case l__law_names => k_is)
    (case e__law_names => k_is)
    (case k__law_names => k_is)
    (case a__law_form => k_is)
    (case l__law_form => k_is)
    (case e__law_form => k_is)
    (case k__law_form => k_is)
    (case a__law_rank => k_is)
    (case l__law_rank => k_is)
    (case e__law_rank => k_is)
    (case k__law_rank => k_is)
    (case a__law_words => k_is)
    (case l__law_words => k_is)
    (case e__law_words => k_is)
    (case k__law_words => k_is)
    (case a__law_holds => k_is)
    (case l__law_holds => k_is)
    (case e__law_holds => k_is)
    (case k__law_holds => k_is)
    (case a_law => k_is)
    (case l_law => k_is)
    (case e_law => k_is)
    (case k_law => k_is)
    (case pg_Tokens => k_is)
    (case hd_Tokens => k_is)
    (case po_Tokens => k_is)
    (case sa_Tokens => k_is)
    (case mk_Tokens => k_is)
    (case kc_Tokens => k_is)
    (case nf_Tokens_found => k_is)
    (case nf_Tokens_taken => k_is)
    (case pg_Condition => k_is)
    (case hd_Condition => k_is)
    (case po_Condition => k_is)
    (case sa_Condition => k_is)
    (case mk_Condition => k_is)
    (case kc_Condition => k_is)
    (case nf_Condition__parts => k_is)
    (case x_fi => k_is)
    (case z_int => k_is)
    (case z_len => k_is)
    (case z_all => k_is)
    (case z_max => k_is)
    (case z_isinstance => k_is)
    (case z_str => k_is)
    (case z_tuple => k_is)
    (case z_range => k_is)
    (case z_bool => k_is)
    (case z_list => k_is)
    (case y_LETTERS => k_is)
    (case y_DIGITS => k_is)
    (case y_BLANKS => k_is)
    (case y_NAME => k_is)
    (case y_NUMBER => k_is)
    (case y_WRONG => k_is)
    (case y_END => k_is)
    (case y_MOST_DIGITS => k_is)
    (case y_MOST_AROUND => k_is)
    (case u_KEYWORDS => k_is)
    (case w_KEYWORDS => k_is)
    (case v_KEYWORDS => exact ⟨by decide, by repeat (first | exact .nil | refine .cons ⟨_, rfl⟩ ?_)⟩)
    (case u_SIGNS => k_is)
    (case w_SIGNS => k_is)
    (case v_SIGNS => exact ⟨by decide, by repeat (first | exact .nil | refine .cons ⟨_, rfl⟩ ?_)⟩)
    (case u_FIELDS => k_is)
    (case w_FIELDS => k_is)
    (case v_FIELDS => exact ⟨by decide, by repeat (first | exact .nil | refine .cons ⟨_, rfl⟩ ?_)⟩)
    (case u_ANSWERS => k_is)
    (case w_ANSWERS => k_is)
    (case v_ANSWERS => exact ⟨by decide, by repeat (first | exact .nil | refine .cons ⟨_, rfl⟩ ?_)⟩)
    (case u_PARTS_OF_ROWS => k_is)
    (case w_PARTS_OF_ROWS => k_is)
    (case v_PARTS_OF_ROWS => exact ⟨⟨_, _, rfl, rfl⟩, ⟨⟨_, _, rfl, rfl⟩, ⟨⟨_, _, rfl, rfl⟩, ⟨⟨_, _, rfl, rfl⟩, trivial⟩⟩⟩⟩)
    (case kk_PARTS_OF_ROWS_function => k_is)
    (case kk_PARTS_OF_ROWS_place => k_is)
    (case kk_PARTS_OF_ROWS_kind => k_is)
    (case kk_PARTS_OF_ROWS_verdict => k_is)
#print axioms PySem.Challenge.cw_allornothing_k34_conditions_on_rows_holds
