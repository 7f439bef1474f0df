import PyProof.Rows.All
import Wide.All
import OpenK.AllK
import Wide.FinOn
import HandS.ForMost
import HandS.IsInst
import HandS.Conv
import HandS.Evl
import PyProof.StrBlock2
import HandS.ExcInit
import HandS.ExcIs
import HandS.ExcField
import HandS.Wide
import HandS.TupAny
import HandS.Steps
import KE.GoesEnum
import HandS.ForExc
import HandS.HotCalls
import HandS.WordsExc
import HandS.ExcCtx
import PySem.Challenge.RW_hushedpages_k09_whole_cut_texts
set_option Elab.async false
set_option linter.all false
set_option maxRecDepth 100000
set_option maxHeartbeats 4000000
namespace Vf
open PySem PySem.Spec PyProof.Rows L2
def topS (i : Nat) : Stmt := PySem.Challenge.pw_hushedpages_k09_whole_cut_texts.main.body.getD i (.Pass ⟨0, 0, 0, 0⟩)
abbrev s_is_word : Stmt := topS 28
theorem sc_is_word : FnScope ["run"] ["run"] (defScope s_is_word) := ⟨rfl, rfl, rfl, by decide +kernel, rfl, by decide +kernel, by decide +kernel⟩
abbrev s_is_name : Stmt := topS 29
theorem sc_is_name : FnScope ["run"] ["run"] (defScope s_is_name) := ⟨rfl, rfl, rfl, by decide +kernel, rfl, by decide +kernel, by decide +kernel⟩
abbrev s_consists_of : Stmt := topS 30
theorem sc_consists_of : FnScope ["run", "allowed"] ["run", "allowed"] (defScope s_consists_of) := ⟨rfl, rfl, rfl, by decide +kernel, rfl, by decide +kernel, by decide +kernel⟩
abbrev s_tokens_of : Stmt := topS 31
theorem sc_tokens_of : FnScope ["text", "found", "at", "behind"] ["text"] (defScope s_tokens_of) := ⟨rfl, rfl, rfl, by decide +kernel, rfl, by decide +kernel, by decide +kernel⟩
abbrev s_token_end : Stmt := topS 32
theorem sc_token_end : FnScope ["text", "at"] ["text", "at"] (defScope s_token_end) := ⟨rfl, rfl, rfl, by decide +kernel, rfl, by decide +kernel, by decide +kernel⟩
abbrev s_run_end : Stmt := topS 33
theorem sc_run_end : FnScope ["text", "at", "allowed"] ["text", "at", "allowed"] (defScope s_run_end) := ⟨rfl, rfl, rfl, by decide +kernel, rfl, by decide +kernel, by decide +kernel⟩
abbrev s_read_tree : Stmt := topS 36
theorem sc_read_tree : FnScope ["text", "tokens", "levels", "behind_call", "at", "token"] ["text"] (defScope s_read_tree) := ⟨rfl, rfl, rfl, by decide +kernel, rfl, by decide +kernel, by decide +kernel⟩
abbrev s_fits : Stmt := topS 37
theorem sc_fits : FnScope ["token", "many", "behind_call"] ["token", "many", "behind_call"] (defScope s_fits) := ⟨rfl, rfl, rfl, by decide +kernel, rfl, by decide +kernel, by decide +kernel⟩
abbrev s_take : Stmt := topS 38
theorem sc_take : FnScope ["token", "levels", "tree", "call"] ["token", "levels"] (defScope s_take) := ⟨rfl, rfl, rfl, by decide +kernel, rfl, by decide +kernel, by decide +kernel⟩
abbrev s_tree_of : Stmt := topS 39
theorem sc_tree_of : FnScope ["nodes", "node"] ["nodes"] (defScope s_tree_of) := ⟨rfl, rfl, rfl, by decide +kernel, rfl, by decide +kernel, by decide +kernel⟩
abbrev s_node_of : Stmt := topS 40
theorem sc_node_of : FnScope ["node"] ["node"] (defScope s_node_of) := ⟨rfl, rfl, rfl, by decide +kernel, rfl, by decide +kernel, by decide +kernel⟩
abbrev s_law_begin : Stmt := topS 42
theorem sc_law_begin : FnScope ["_law_script"] ["_law_script"] (defScope s_law_begin) := ⟨rfl, rfl, rfl, by decide +kernel, rfl, by decide +kernel, by decide +kernel⟩
abbrev s_law_draw : Stmt := topS 43
theorem sc_law_draw : FnScope ["_law_d", "_law_many", "_law_cell", "_law_found"] ["_law_d", "_law_many"] (defScope s_law_draw) := ⟨rfl, rfl, rfl, by decide +kernel, rfl, by decide +kernel, by decide +kernel⟩
abbrev s_law_pick : Stmt := topS 44
theorem sc_law_pick : FnScope ["_law_d", "_law_row"] ["_law_d", "_law_row"] (defScope s_law_pick) := ⟨rfl, rfl, rfl, by decide +kernel, rfl, by decide +kernel, by decide +kernel⟩
abbrev s_law_rare : Stmt := topS 45
theorem sc_law_rare : FnScope ["_law_d", "_law_many"] ["_law_d", "_law_many"] (defScope s_law_rare) := ⟨rfl, rfl, rfl, by decide +kernel, rfl, by decide +kernel, by decide +kernel⟩
abbrev s_law_word : Stmt := topS 46
theorem sc_law_word : FnScope ["_law_d", "_law_low", "_law_high", "_law_long", "_law_signs", "_law_k"] ["_law_d", "_law_low", "_law_high"] (defScope s_law_word) := ⟨rfl, rfl, rfl, by decide +kernel, rfl, by decide +kernel, by decide +kernel⟩
abbrev s_law_exact : Stmt := topS 47
theorem sc_law_exact : FnScope ["_law_told", "_law_due", "_law_k"] ["_law_told", "_law_due"] (defScope s_law_exact) := ⟨rfl, rfl, rfl, by decide +kernel, rfl, by decide +kernel, by decide +kernel⟩
abbrev s_law_told_error : Stmt := topS 48
theorem sc_law_told_error : FnScope ["_law_e", "_law_found", "_law_groups"] ["_law_e"] (defScope s_law_told_error) := ⟨rfl, rfl, rfl, by decide +kernel, rfl, by decide +kernel, by decide +kernel⟩
abbrev s_law_word_signs : Stmt := topS 49
theorem sc_law_word_signs : FnScope [] [] (defScope s_law_word_signs) := ⟨rfl, rfl, rfl, by decide +kernel, rfl, by decide +kernel, by decide +kernel⟩
abbrev s_law_run : Stmt := topS 50
theorem sc_law_run : FnScope ["_law_d", "_law_signs", "_law_size", "_law_k"] ["_law_d", "_law_signs", "_law_size"] (defScope s_law_run) := ⟨rfl, rfl, rfl, by decide +kernel, rfl, by decide +kernel, by decide +kernel⟩
abbrev s_law_some_word : Stmt := topS 51
theorem sc_law_some_word : FnScope ["_law_d", "_law_kind"] ["_law_d"] (defScope s_law_some_word) := ⟨rfl, rfl, rfl, by decide +kernel, rfl, by decide +kernel, by decide +kernel⟩
abbrev s_law_some_name : Stmt := topS 52
theorem sc_law_some_name : FnScope ["_law_d", "_law_kind", "_law_names"] ["_law_d"] (defScope s_law_some_name) := ⟨rfl, rfl, rfl, by decide +kernel, rfl, by decide +kernel, by decide +kernel⟩
abbrev s_law_runs_on : Stmt := topS 53
theorem sc_law_runs_on : FnScope ["_law_one", "_law_two"] ["_law_one", "_law_two"] (defScope s_law_runs_on) := ⟨rfl, rfl, rfl, by decide +kernel, rfl, by decide +kernel, by decide +kernel⟩
abbrev s_law_gap : Stmt := topS 54
theorem sc_law_gap : FnScope ["_law_d", "_law_needed", "_law_gap_here"] ["_law_d", "_law_needed"] (defScope s_law_gap) := ⟨rfl, rfl, rfl, by decide +kernel, rfl, by decide +kernel, by decide +kernel⟩
abbrev s_law_parts : Stmt := topS 55
theorem sc_law_parts : FnScope ["_law_d", "_law_tokens", "_law_parts_here", "_law_k", "_law_needed"] ["_law_d", "_law_tokens"] (defScope s_law_parts) := ⟨rfl, rfl, rfl, by decide +kernel, rfl, by decide +kernel, by decide +kernel⟩
abbrev s_law_token_walk : Stmt := topS 56
theorem sc_law_token_walk : FnScope ["_law_d", "_law_many", "_law_most", "_law_tokens", "_law_k", "_law_depth", "_law_menu", "_law_deed", "_law_free"] ["_law_d", "_law_many", "_law_most"] (defScope s_law_token_walk) := ⟨rfl, rfl, rfl, by decide +kernel, rfl, by decide +kernel, by decide +kernel⟩
abbrev s_law_odd_signs : Stmt := topS 57
theorem sc_law_odd_signs : FnScope [] [] (defScope s_law_odd_signs) := ⟨rfl, rfl, rfl, by decide +kernel, rfl, by decide +kernel, by decide +kernel⟩
abbrev s_law_odd_token : Stmt := topS 58
theorem sc_law_odd_token : FnScope ["_law_d", "_law_kind"] ["_law_d"] (defScope s_law_odd_token) := ⟨rfl, rfl, rfl, by decide +kernel, rfl, by decide +kernel, by decide +kernel⟩
abbrev s_law_spoilt : Stmt := topS 59
theorem sc_law_spoilt : FnScope ["_law_d", "_law_tokens", "_law_at", "_law_kind", "_law_to", "_law_row"] ["_law_d", "_law_tokens"] (defScope s_law_spoilt) := ⟨rfl, rfl, rfl, by decide +kernel, rfl, by decide +kernel, by decide +kernel⟩
abbrev s_law_first_bad : Stmt := topS 60
theorem sc_law_first_bad : FnScope ["_law_tokens", "_law_most", "_law_depth", "_law_k", "_law_token"] ["_law_tokens", "_law_most"] (defScope s_law_first_bad) := ⟨rfl, rfl, rfl, by decide +kernel, rfl, by decide +kernel, by decide +kernel⟩
abbrev s_law_tree_of : Stmt := topS 61
theorem sc_law_tree_of : FnScope ["_law_tokens", "_law_levels", "_law_token", "_law_inner", "_law_call"] ["_law_tokens"] (defScope s_law_tree_of) := ⟨rfl, rfl, rfl, by decide +kernel, rfl, by decide +kernel, by decide +kernel⟩
abbrev s_law_reads : Stmt := topS 62
theorem sc_law_reads : FnScope ["_law_text", "_law_tokens", "_law_bad", "_law_told", "_law_e"] ["_law_text", "_law_tokens"] (defScope s_law_reads) := ⟨rfl, rfl, rfl, by decide +kernel, rfl, by decide +kernel, by decide +kernel⟩
abbrev s_law_cuts_read : Stmt := topS 63
theorem sc_law_cuts_read : FnScope ["_law_parts_here", "_law_tokens", "_law_bad", "_law_k", "_law_ahead", "_law_deep"] ["_law_parts_here", "_law_tokens", "_law_bad"] (defScope s_law_cuts_read) := ⟨rfl, rfl, rfl, by decide +kernel, rfl, by decide +kernel, by decide +kernel⟩
abbrev s_law_short_reads : Stmt := topS 64
theorem sc_law_short_reads : FnScope ["_law_parts_here", "_law_tokens", "_law_at", "_law_ahead", "_law_many", "_law_short"] ["_law_parts_here", "_law_tokens", "_law_at"] (defScope s_law_short_reads) := ⟨rfl, rfl, rfl, by decide +kernel, rfl, by decide +kernel, by decide +kernel⟩
abbrev s_law_tails_read : Stmt := topS 65
theorem sc_law_tails_read : FnScope ["_law_d", "_law_parts_here", "_law_tokens", "_law_bad", "_law_ahead", "_law_loose", "_law_tail", "_law_k"] ["_law_d", "_law_parts_here", "_law_tokens", "_law_bad"] (defScope s_law_tails_read) := ⟨rfl, rfl, rfl, by decide +kernel, rfl, by decide +kernel, by decide +kernel⟩
abbrev s_law : Stmt := topS 66
theorem sc_law : FnScope ["_law_script", "_law_d", "_law_many", "_law_tokens", "_law_k", "_law_parts_here", "_law_bad"] ["_law_script"] (defScope s_law) := ⟨rfl, rfl, rfl, by decide +kernel, rfl, by decide +kernel, by decide +kernel⟩
abbrev s_BadText_init : Stmt := inClass (topS 5) 0
theorem sc_BadText_init : FnScope ["self", "at"] ["self", "at"] (defScope s_BadText_init) := ⟨rfl, rfl, rfl, by decide +kernel, rfl, by decide +kernel, by decide +kernel⟩
/-- a class of the text -/
structure ClsAt (K : PySem.W.Frag) (mg : Str → Option Value) (x : Str) (C : Addr) : Prop where
  G : mg x = some (.ref C)
  ic : PySem.W.isClsIn K C = true
  ty : PySem.W.typeIn K (.ref C) = some (.type "type")
/-- an own error's class with its __init__ -/
structure ErrAt (K : PySem.W.Frag) (mg : Str → Option Value) (x qi : Str) (C fI : Addr) (fd : FuncData) (st : Stmt) (ps fs : List Str) : Prop where
  G : mg x = some (.ref C)
  O : OexC K C
  EC : ExcC K C
  XC : XfC K C
  I : PySem.W.findIn K (.ref C) "__init__" = some (some (.ref fI))
  TI : PySem.W.typeIn K (.ref fI) = some (.type "function")
  F : Fun K "__init__" qi st fI fd
  B : Binds K fd ps []
  no : ∀ f ∈ fs, PySem.W.findIn K (.ref C) f = some none
section
variable {K : PySem.W.Frag} {D C : Addr} {b : Bool}
theorem kitCls_ref (ic : PySem.W.isClsIn K C = true) (ty : PySem.W.typeIn K (.ref C) = some (.type "type")) (sb : PySem.W.subIn K (.ref D) (.ref C) = some b) : PySem.W.kitCls K (.ref D) (.ref C) = some b := by
  have h : ((PySem.W.clsIn K C).isSome && PySem.W.typeIn K (.ref C) == some (.type "type")) = true := by
    have ic2 : (PySem.W.clsIn K C).isSome = true := ic
    rw [ic2, ty] <;> rfl
  show (if ((PySem.W.clsIn K C).isSome && PySem.W.typeIn K (.ref C) == some (.type "type")) = true then PySem.W.subIn K (.ref D) (.ref C) else none) = some b
  rw [if_pos h]; exact sb
theorem kit_ref (dd : PySem.W.subIn K (.ref D) (.ref D) = some true) (ic : PySem.W.isClsIn K C = true) (ty : PySem.W.typeIn K (.ref C) = some (.type "type")) (sb : PySem.W.subIn K (.ref D) (.ref C) = some b) : PySem.W.kitOne K (.ref D) (.ref C) = some b := by
  unfold PySem.W.kitOne
  by_cases h : (Value.ref D == Value.ref C) = true
  · rw [if_pos h]
    have e : Value.ref D = Value.ref C := beq_iff_eq.mp h
    rw [← e, dd] at sb
    exact sb
  · rw [if_neg h]; exact kitCls_ref ic ty sb
theorem kit_typ (sb : PySem.W.subIn K (.ref D) (.type "ValueError") = some true) : PySem.W.kitOne K (.ref D) (.type "ValueError") = some true := by
  have h : (Value.ref D == Value.type "ValueError") = false := beq_eq_false_iff_ne.mpr (fun e => by cases e)
  unfold PySem.W.kitOne
  rw [h, if_neg Bool.false_ne_true]
  show (if PySem.W.kitMeta "ValueError" = true then PySem.W.subIn K (.ref D) (.type "ValueError") else none) = some true
  rw [if_pos (by decide +kernel)]; exact sb
theorem exm_ref (bx : PySem.W.subIn K (.ref C) (.type "BaseException") = some true) (ic : PySem.W.isClsIn K C = true) (ty : PySem.W.typeIn K (.ref C) = some (.type "type")) (sb : PySem.W.subIn K (.ref D) (.ref C) = some b) : PySem.W.exmOne K (.ref D) (.ref C) = some b := by
  have h : (PySem.W.subIn K (.ref C) (.type "BaseException") == some true) = true := by rw [bx] <;> rfl
  show (if (PySem.W.subIn K (.ref C) (.type "BaseException") == some true) = true then PySem.W.kitCls K (.ref D) (.ref C) else none) = some b
  rw [if_pos h]; exact kitCls_ref ic ty sb
end
structure DefAt (K : PySem.W.Frag) (mg : Str → Option Value) (x : Str) (st : Stmt) (ps : List Str) (f : Addr) (fd : FuncData) : Prop where
  F : Fun K x x st f fd
  G : mg x = some (.ref f)
  B : Binds K fd ps []
  E : ∃ kV doc pm an cdv ct, fd = PySem.W.fnOf x x (defArgs st) (defBody st) (defScope st) .none kV doc pm an cdv ct
structure Txt (K : PySem.W.Frag) (mg : Str → Option Value) where
  a_is_word : Addr
  d_is_word : FuncData
  D_is_word : DefAt K mg "is_word" s_is_word ["run"] a_is_word d_is_word
  a_is_name : Addr
  d_is_name : FuncData
  D_is_name : DefAt K mg "is_name" s_is_name ["run"] a_is_name d_is_name
  a_consists_of : Addr
  d_consists_of : FuncData
  D_consists_of : DefAt K mg "consists_of" s_consists_of ["run", "allowed"] a_consists_of d_consists_of
  a_tokens_of : Addr
  d_tokens_of : FuncData
  D_tokens_of : DefAt K mg "tokens_of" s_tokens_of ["text"] a_tokens_of d_tokens_of
  a_token_end : Addr
  d_token_end : FuncData
  D_token_end : DefAt K mg "_token_end" s_token_end ["text", "at"] a_token_end d_token_end
  a_run_end : Addr
  d_run_end : FuncData
  D_run_end : DefAt K mg "_run_end" s_run_end ["text", "at", "allowed"] a_run_end d_run_end
  a_read_tree : Addr
  d_read_tree : FuncData
  D_read_tree : DefAt K mg "read_tree" s_read_tree ["text"] a_read_tree d_read_tree
  a_fits : Addr
  d_fits : FuncData
  D_fits : DefAt K mg "_fits" s_fits ["token", "many", "behind_call"] a_fits d_fits
  a_take : Addr
  d_take : FuncData
  D_take : DefAt K mg "_take" s_take ["token", "levels"] a_take d_take
  a_tree_of : Addr
  d_tree_of : FuncData
  D_tree_of : DefAt K mg "_tree_of" s_tree_of ["nodes"] a_tree_of d_tree_of
  a_node_of : Addr
  d_node_of : FuncData
  D_node_of : DefAt K mg "_node_of" s_node_of ["node"] a_node_of d_node_of
  a_law_begin : Addr
  d_law_begin : FuncData
  D_law_begin : DefAt K mg "_law_begin" s_law_begin ["_law_script"] a_law_begin d_law_begin
  a_law_draw : Addr
  d_law_draw : FuncData
  D_law_draw : DefAt K mg "_law_draw" s_law_draw ["_law_d", "_law_many"] a_law_draw d_law_draw
  a_law_pick : Addr
  d_law_pick : FuncData
  D_law_pick : DefAt K mg "_law_pick" s_law_pick ["_law_d", "_law_row"] a_law_pick d_law_pick
  a_law_rare : Addr
  d_law_rare : FuncData
  D_law_rare : DefAt K mg "_law_rare" s_law_rare ["_law_d", "_law_many"] a_law_rare d_law_rare
  a_law_word : Addr
  d_law_word : FuncData
  D_law_word : DefAt K mg "_law_word" s_law_word ["_law_d", "_law_low", "_law_high"] a_law_word d_law_word
  a_law_exact : Addr
  d_law_exact : FuncData
  D_law_exact : DefAt K mg "_law_exact" s_law_exact ["_law_told", "_law_due"] a_law_exact d_law_exact
  a_law_told_error : Addr
  d_law_told_error : FuncData
  D_law_told_error : DefAt K mg "_law_told_error" s_law_told_error ["_law_e"] a_law_told_error d_law_told_error
  a_law_word_signs : Addr
  d_law_word_signs : FuncData
  D_law_word_signs : DefAt K mg "_law_word_signs" s_law_word_signs [] a_law_word_signs d_law_word_signs
  a_law_run : Addr
  d_law_run : FuncData
  D_law_run : DefAt K mg "_law_run" s_law_run ["_law_d", "_law_signs", "_law_size"] a_law_run d_law_run
  a_law_some_word : Addr
  d_law_some_word : FuncData
  D_law_some_word : DefAt K mg "_law_some_word" s_law_some_word ["_law_d"] a_law_some_word d_law_some_word
  a_law_some_name : Addr
  d_law_some_name : FuncData
  D_law_some_name : DefAt K mg "_law_some_name" s_law_some_name ["_law_d"] a_law_some_name d_law_some_name
  a_law_runs_on : Addr
  d_law_runs_on : FuncData
  D_law_runs_on : DefAt K mg "_law_runs_on" s_law_runs_on ["_law_one", "_law_two"] a_law_runs_on d_law_runs_on
  a_law_gap : Addr
  d_law_gap : FuncData
  D_law_gap : DefAt K mg "_law_gap" s_law_gap ["_law_d", "_law_needed"] a_law_gap d_law_gap
  a_law_parts : Addr
  d_law_parts : FuncData
  D_law_parts : DefAt K mg "_law_parts" s_law_parts ["_law_d", "_law_tokens"] a_law_parts d_law_parts
  a_law_token_walk : Addr
  d_law_token_walk : FuncData
  D_law_token_walk : DefAt K mg "_law_token_walk" s_law_token_walk ["_law_d", "_law_many", "_law_most"] a_law_token_walk d_law_token_walk
  a_law_odd_signs : Addr
  d_law_odd_signs : FuncData
  D_law_odd_signs : DefAt K mg "_law_odd_signs" s_law_odd_signs [] a_law_odd_signs d_law_odd_signs
  a_law_odd_token : Addr
  d_law_odd_token : FuncData
  D_law_odd_token : DefAt K mg "_law_odd_token" s_law_odd_token ["_law_d"] a_law_odd_token d_law_odd_token
  a_law_spoilt : Addr
  d_law_spoilt : FuncData
  D_law_spoilt : DefAt K mg "_law_spoilt" s_law_spoilt ["_law_d", "_law_tokens"] a_law_spoilt d_law_spoilt
  a_law_first_bad : Addr
  d_law_first_bad : FuncData
  D_law_first_bad : DefAt K mg "_law_first_bad" s_law_first_bad ["_law_tokens", "_law_most"] a_law_first_bad d_law_first_bad
  a_law_tree_of : Addr
  d_law_tree_of : FuncData
  D_law_tree_of : DefAt K mg "_law_tree_of" s_law_tree_of ["_law_tokens"] a_law_tree_of d_law_tree_of
  a_law_reads : Addr
  d_law_reads : FuncData
  D_law_reads : DefAt K mg "_law_reads" s_law_reads ["_law_text", "_law_tokens"] a_law_reads d_law_reads
  a_law_cuts_read : Addr
  d_law_cuts_read : FuncData
  D_law_cuts_read : DefAt K mg "_law_cuts_read" s_law_cuts_read ["_law_parts_here", "_law_tokens", "_law_bad"] a_law_cuts_read d_law_cuts_read
  a_law_short_reads : Addr
  d_law_short_reads : FuncData
  D_law_short_reads : DefAt K mg "_law_short_reads" s_law_short_reads ["_law_parts_here", "_law_tokens", "_law_at"] a_law_short_reads d_law_short_reads
  a_law_tails_read : Addr
  d_law_tails_read : FuncData
  D_law_tails_read : DefAt K mg "_law_tails_read" s_law_tails_read ["_law_d", "_law_parts_here", "_law_tokens", "_law_bad"] a_law_tails_read d_law_tails_read
  a_law : Addr
  d_law : FuncData
  D_law : DefAt K mg "law" s_law ["_law_script"] a_law d_law
  t_LETTERS : Tok
  m_LETTERS : mg "LETTERS" = some (.str "abcdefghijklmnopqrstuvwxyz" t_LETTERS)
  t_WORD_CHARACTERS : Tok
  m_WORD_CHARACTERS : mg "WORD_CHARACTERS" = some (.str "abcdefghijklmnopqrstuvwxyz0123456789.,:;!?'()+=<>*/" t_WORD_CHARACTERS)
  t_BLANKS : Tok
  m_BLANKS : mg "BLANKS" = some (.str " \n" t_BLANKS)
  t_LONGEST_WORD : Tok
  m_LONGEST_WORD : mg "LONGEST_WORD" = some (.int 16 t_LONGEST_WORD)
  t_LONGEST_NAME : Tok
  m_LONGEST_NAME : mg "LONGEST_NAME" = some (.int 8 t_LONGEST_NAME)
  t_MOST_OPEN : Tok
  m_MOST_OPEN : mg "MOST_OPEN" = some (.int 12 t_MOST_OPEN)
  n_ValueError : mg "ValueError" = none
  n_bool : mg "bool" = none
  n_enumerate : mg "enumerate" = none
  n_int : mg "int" = none
  n_isinstance : mg "isinstance" = none
  n_len : mg "len" = none
  n_list : mg "list" = none
  n_range : mg "range" = none
  n_str : mg "str" = none
  n_tuple : mg "tuple" = none
  c_PagesError : Addr
  C_PagesError : ClsAt K mg "PagesError" c_PagesError
  c_RecordError : Addr
  C_RecordError : ClsAt K mg "RecordError" c_RecordError
  c_LimitError : Addr
  C_LimitError : ClsAt K mg "LimitError" c_LimitError
  c_GivenError : Addr
  C_GivenError : ClsAt K mg "GivenError" c_GivenError
  c_BadText : Addr
  C_BadText : ClsAt K mg "BadText" c_BadText
  c_BadCall : Addr
  C_BadCall : ClsAt K mg "BadCall" c_BadCall
  c_Misplaced : Addr
  C_Misplaced : ClsAt K mg "Misplaced" c_Misplaced
  c_Unknown : Addr
  C_Unknown : ClsAt K mg "Unknown" c_Unknown
  c_Twice : Addr
  C_Twice : ClsAt K mg "Twice" c_Twice
  c_TooLong : Addr
  C_TooLong : ClsAt K mg "TooLong" c_TooLong
  c_TooLarge : Addr
  C_TooLarge : ClsAt K mg "TooLarge" c_TooLarge
  c_TooMany : Addr
  C_TooMany : ClsAt K mg "TooMany" c_TooMany
  c_TooWide : Addr
  C_TooWide : ClsAt K mg "TooWide" c_TooWide
  c_TooTall : Addr
  C_TooTall : ClsAt K mg "TooTall" c_TooTall
  c_BadStyle : Addr
  C_BadStyle : ClsAt K mg "BadStyle" c_BadStyle
  c_BadSecret : Addr
  C_BadSecret : ClsAt K mg "BadSecret" c_BadSecret
  c_BadEnding : Addr
  C_BadEnding : ClsAt K mg "BadEnding" c_BadEnding
  c_NoStem : Addr
  C_NoStem : ClsAt K mg "NoStem" c_NoStem
  c_Untrue : Addr
  C_Untrue : ClsAt K mg "Untrue" c_Untrue
  c_BadFile : Addr
  C_BadFile : ClsAt K mg "BadFile" c_BadFile
  c_BadStep : Addr
  C_BadStep : ClsAt K mg "BadStep" c_BadStep
  i_BadText : Addr
  d_BadText : FuncData
  E_BadText : ErrAt K mg "BadText" "BadText.__init__" c_BadText i_BadText d_BadText s_BadText_init ["self", "at"] ["at"]
  k_BadText_PagesError : PySem.W.kitOne K (.ref c_BadText) (.ref c_PagesError) = some true
  k_BadText_RecordError : PySem.W.kitOne K (.ref c_BadText) (.ref c_RecordError) = some true
  k_BadText_LimitError : PySem.W.kitOne K (.ref c_BadText) (.ref c_LimitError) = some false
  k_BadText_GivenError : PySem.W.kitOne K (.ref c_BadText) (.ref c_GivenError) = some false
  k_BadText_BadText : PySem.W.kitOne K (.ref c_BadText) (.ref c_BadText) = some true
  k_BadText_BadCall : PySem.W.kitOne K (.ref c_BadText) (.ref c_BadCall) = some false
  k_BadText_Misplaced : PySem.W.kitOne K (.ref c_BadText) (.ref c_Misplaced) = some false
  k_BadText_Unknown : PySem.W.kitOne K (.ref c_BadText) (.ref c_Unknown) = some false
  k_BadText_Twice : PySem.W.kitOne K (.ref c_BadText) (.ref c_Twice) = some false
  k_BadText_TooLong : PySem.W.kitOne K (.ref c_BadText) (.ref c_TooLong) = some false
  k_BadText_TooLarge : PySem.W.kitOne K (.ref c_BadText) (.ref c_TooLarge) = some false
  k_BadText_TooMany : PySem.W.kitOne K (.ref c_BadText) (.ref c_TooMany) = some false
  k_BadText_TooWide : PySem.W.kitOne K (.ref c_BadText) (.ref c_TooWide) = some false
  k_BadText_TooTall : PySem.W.kitOne K (.ref c_BadText) (.ref c_TooTall) = some false
  k_BadText_BadStyle : PySem.W.kitOne K (.ref c_BadText) (.ref c_BadStyle) = some false
  k_BadText_BadSecret : PySem.W.kitOne K (.ref c_BadText) (.ref c_BadSecret) = some false
  k_BadText_BadEnding : PySem.W.kitOne K (.ref c_BadText) (.ref c_BadEnding) = some false
  k_BadText_NoStem : PySem.W.kitOne K (.ref c_BadText) (.ref c_NoStem) = some false
  k_BadText_Untrue : PySem.W.kitOne K (.ref c_BadText) (.ref c_Untrue) = some false
  k_BadText_BadFile : PySem.W.kitOne K (.ref c_BadText) (.ref c_BadFile) = some false
  k_BadText_BadStep : PySem.W.kitOne K (.ref c_BadText) (.ref c_BadStep) = some false
  v_BadText : PySem.W.kitOne K (.ref c_BadText) (.type "ValueError") = some true
  x_BadText : PySem.W.exmOne K (.ref c_BadText) (.ref c_PagesError) = some true
/-! ### the dice -/
/-- at d the dice, at l the script's copy -/
structure DI (d l : Addr) (H : Hp) : Prop where
  ne : l ≠ d
  sc : ∃ ns : List Int, H l = some (.lst (ns.map V.int))
  st : ∃ i b s c : Int, 0 ≤ i ∧ H d = some (.lst [.ref l, .int i, .int b, .int s, .int c])
/-- all but the dice stands -/
def Kp (d : Addr) (H H' : Hp) : Prop := ∀ b o, b ≠ d → H b = some o → H' b = some o
theorem Kp.refl (d : Addr) (H : Hp) : Kp d H H := fun _ _ _ h => h
theorem Kp.trans {d : Addr} {H H1 H2 : Hp} (a : Kp d H H1) (b : Kp d H1 H2) : Kp d H H2 := fun x o n h => b x o n (a x o n h)
theorem Kp.upd {d : Addr} {H H' : Hp} {o : HO} (a : Kp d H H') : Kp d H (upd H' d o) := fun x u n h => by
  rw [upd_ne n]; exact a x u n h
theorem Kp.new {d p : Addr} {H H' : Hp} {o : HO} (a : Kp d H H') (hp : H' p = none) : Kp d H (L2.upd H' p o) := fun x u n h => by
  have h2 := a x u n h
  rw [upd_ne (ne_of_none h2 hp)]; exact h2
theorem Kp.mut {d p : Addr} {H H' : Hp} {o : HO} (a : Kp d H H') (hp : H p = none) : Kp d H (L2.upd H' p o) := fun x u n h => by
  rw [upd_ne (ne_of_none h hp)]; exact a x u n h
theorem Kp.sq {K : PySem.W.Frag} {d a : Addr} {H H' : Hp} {xs : List V} (k : Kp d H H') (n : a ≠ d) (h : SqL K H a xs) : SqL K H' a xs := by
  rcases h with (h | ⟨o, h⟩) | h
  · exact .inl (.inl (k _ _ n h))
  · exact .inl (.inr ⟨o, k _ _ n h⟩)
  · exact .inr h
theorem DI.keep {d l : Addr} {H H' : Hp} (h : DI d l H) (e : ∀ b o, H b = some o → H' b = some o) : DI d l H' := by
  obtain ⟨n, ⟨ns, h1⟩, i, b, s, c, h0, h2⟩ := h
  exact ⟨n, ⟨ns, e _ _ h1⟩, i, b, s, c, h0, e _ _ h2⟩
theorem DI.at {d l p : Addr} {H : Hp} {o : HO} (h : DI d l H) (n1 : p ≠ d) (n2 : p ≠ l) : DI d l (upd H p o) := by
  obtain ⟨n, ⟨ns, h1⟩, i, b, s, c, h0, h2⟩ := h
  exact ⟨n, ⟨ns, by rw [upd_ne n2.symm]; exact h1⟩, i, b, s, c, h0, by rw [upd_ne n1.symm]; exact h2⟩
theorem DI.new {d l p : Addr} {H : Hp} {o : HO} (h : DI d l H) (hp : H p = none) : DI d l (upd H p o) :=
  h.keep fun b u e => by rw [upd_ne (ne_of_none e hp)]; exact e
theorem DI.nd {d l p : Addr} {H : Hp} (h : DI d l H) (hp : H p = none) : p ≠ d ∧ p ≠ l := by
  obtain ⟨n, ⟨ns, h1⟩, i, b, s, c, h0, h2⟩ := h
  exact ⟨fun e => (by rw [e, h2] at hp; cases hp), fun e => (by rw [e, h1] at hp; cases hp)⟩
theorem DI.set {d l : Addr} {H : Hp} {i b s c : Int} (h : DI d l H) (h0 : 0 ≤ i) : DI d l (upd H d (.lst [.ref l, .int i, .int b, .int s, .int c])) := by
  obtain ⟨n, ⟨ns, h1⟩, _⟩ := h
  exact ⟨n, ⟨ns, by rw [upd_ne n]; exact h1⟩, i, b, s, c, h0, upd_same⟩
section
variable {P : Program} {w : World} {K : PySem.W.Frag} {mg : Str → Option Value} {base : Heap}
/-! ### begin -/
def spBegin (K : PySem.W.Frag) : Sp := fun vs H Q _ => ∃ (a : Addr) (ns : List Int), vs = [.ref a] ∧ SqL K H a (ns.map V.int) ∧ ns.length ≤ 63 ∧
  ∀ H' d l, Same H H' → DI d l H' → Q (.ref d) H'
theorem ok_begin (T : Txt K mg) : FnOk P w K mg base CX0 1 T.a_law_begin T.d_law_begin ["_law_script"] (spBegin K) := by
  refine T.D_law_begin.F.ok sc_law_begin (fun vs H Q E h => ?_) (fun cdv A outer s H vs Q E hr h => ?_)
  · obtain ⟨a, ns, rfl, _⟩ := h
    rfl
  · obtain ⟨a, ns, rfl, hS, hl, q⟩ := h
    refine ⟨_, (pss_one (ps_ret (pe_lst (pa_cons (pe_callTy call_list_of (by rfl) T.n_list (by decide +kernel) (pa_cons (pv 0) pa_nil)) (pa_cons pe_int (pa_cons pe_int (pa_cons pe_int (pa_cons pe_int pa_nil)))))))), ?_⟩
    refine ⟨_, rfl, a, _, rfl, .inl hS, fun l nl => ?_⟩
    refine ⟨by show 5 ≤ sizeLine; decide, fun d nd => ?_⟩
    refine q _ d l (fun b o e => ?_) ?_
    · have n1 : b ≠ l := ne_of_none e nl
      have e1 : upd H l (.lst (ns.map V.int)) b = some o := by rw [upd_ne n1]; exact e
      rw [upd_ne (ne_of_none e1 nd)]
      exact e1
    · have e1 : upd H l (.lst (ns.map V.int)) l = some (.lst (ns.map V.int)) := upd_same
      have n1 : l ≠ d := ne_of_none e1 nd
      exact ⟨n1, ⟨ns, by rw [upd_ne n1]; exact e1⟩, 0, 0, 7, 0, by decide, upd_same⟩
/-! ### draw -/
def spDraw : Sp := fun vs H Q _ => ∃ (d l : Addr) (m : Int), vs = [.ref d, .int m] ∧ DI d l H ∧ m ≤ 1000000 ∧
  ∀ H' r, Kp d H H' → DI d l H' → (m < 2 → r = 0) → (2 ≤ m → 0 ≤ r ∧ r < m) → Q (.int r) H'
theorem ok_draw (T : Txt K mg) : FnOk P w K mg base CX0 1 T.a_law_draw T.d_law_draw ["_law_d", "_law_many"] spDraw := by
  refine T.D_law_draw.F.ok sc_law_draw (fun vs H Q E h => ?_) (fun cdv A outer s H vs Q E hr h => ?_)
  · obtain ⟨d, l, m, rfl, _⟩ := h
    rfl
  · obtain ⟨d, l, m, rfl, hD, hm, q⟩ := h
    refine ⟨_, (pss_cons (ps_if (pt_cmpR op_lt (pv 1) pe_int (nomark _)) (pss_one (ps_ret pe_int)) pss_nil)
      (pss_cons (ps_set (i := 2) sc_law_draw.nd rfl (.inl rfl) (pe_op op_add (pe_op op_mul (pe_ix ix_list (pv 0) pe_int (fun _ _ => rfl)) pe_int) pe_int))
      (Evl.pss_cut (ps_if (PW.pt (pw_and (pt_cmpR op_eq (pe_ix ix_list (pv 0) pe_int (fun _ _ => rfl)) pe_int (nomark _)) (pw_and1 (pt_cmpR op_lt (pe_ix ix_list (pv 0) pe_int (fun _ _ => rfl)) (pe_callB call_len_seq (by rfl) T.n_len PySem.boot_len (pa_cons (pe_ix ix_list (pv 0) pe_int (fun _ _ => rfl)) pa_nil)) (nomark _))))) (pss_cons (ps_set (i := 2) sc_law_draw.nd rfl (.inl rfl) (pe_ix ix_list (pe_ix ix_list (pv 0) pe_int (fun _ _ => rfl)) (pe_ix ix_list (pv 0) pe_int (fun _ _ => rfl)) (fun _ _ => rfl)))
      (pss_cons (ps_asg (pe_op op_add (pe_ix ix_list (pv 0) pe_int (fun _ _ => rfl)) pe_int) (pg_sub (pv 0) pe_int set_list))
      (Evl.pss_cut (ps_if (pt_cmpR op_lt (pv 2) pe_int (nomark _)) (pss_one (ps_set (i := 2) sc_law_draw.nd rfl (.inl rfl) (pe_op op_sub pe_int (pe_op op_mul pe_int (pv 2))))) pss_nil)
      (pss_one (ps_if (pt_cmpR op_ge (pv 2) pe_int (nomark _)) (pss_cons (ps_set (i := 2) sc_law_draw.nd rfl (.inl rfl) (pe_op op_and (pv 2) (pe_op op_sub (pe_op op_shl pe_int pe_int) pe_int)))
      (pss_one (ps_asg (pv 2) (pg_sub (pv 0) pe_int set_list)))) pss_nil))))) pss_nil)
      (pss_cons (ps_if (pt_cmpR op_gt (pe_ix ix_list (pv 0) pe_int (fun _ _ => rfl)) pe_int (nomark _)) (pss_cons (ps_set (i := 3) sc_law_draw.nd rfl (.inl rfl) (pe_op op_modN (pe_callTy call_int1 (by rfl) T.n_int (by decide +kernel) (pa_cons (pe_ix ix_list (pv 0) pe_int (fun _ _ => rfl)) pa_nil)) (pv 1)))
      (pss_cons (ps_asg (pe_op op_fdivN (pe_ix ix_list (pv 0) pe_int (fun _ _ => rfl)) (pv 1)) (pg_sub (pv 0) pe_int set_list))
      (pss_one (ps_ret (pv 3))))) pss_nil)
      (pss_cons (ps_asg (pe_op op_add (pe_ix ix_list (pv 0) pe_int (fun _ _ => rfl)) pe_int) (pg_sub (pv 0) pe_int set_list))
      (pss_cons (ps_asg (pe_op op_modN (pe_callTy call_int1 (by rfl) T.n_int (by decide +kernel) (pa_cons (pe_op op_add (pe_op op_add (pe_op op_mul (pe_ix ix_list (pv 0) pe_int (fun _ _ => rfl)) pe_int) (pe_op op_mul (pv 2) pe_int)) (pe_op op_mul (pe_ix ix_list (pv 0) pe_int (fun _ _ => rfl)) pe_int)) pa_nil)) pe_int) (pg_sub (pv 0) pe_int set_list))
      (pss_one (ps_ret (pe_op op_modN (pe_callTy call_int1 (by rfl) T.n_int (by decide +kernel) (pa_cons (pe_op op_modN (pe_callTy call_int1 (by rfl) T.n_int (by decide +kernel) (pa_cons (pe_op op_add (pe_op op_add (pe_op op_mul (pe_ix ix_list (pv 0) pe_int (fun _ _ => rfl)) pe_int) (pe_op op_mul (pe_ix ix_list (pv 0) pe_int (fun _ _ => rfl)) pe_int)) pe_int) pa_nil)) pe_int) pa_nil)) (pv 1)))))))))), ?_⟩
    refine ⟨_, rfl, _, _, rfl, rfl, _, rfl, ite2 (fun e => ?_) (fun e => ?_)⟩
    · have e := of_decide_eq_true e
      exact q H 0 (Kp.refl d H) hD (fun _ => rfl) (fun z => by omega)
    have hm2 : 2 ≤ m := by
      have e2 : ¬ m < 2 := fun z => e (decide_eq_true z)
      omega
    have hmN : m ≠ 0 := by omega
    have hmA : m.natAbs < 1073741824 := by omega
    have fm : ∀ z : Int, 0 ≤ z.fmod m ∧ z.fmod m < m := fun z => ⟨Int.fmod_nonneg_of_pos z (by omega), Int.fmod_lt_of_pos z (by omega)⟩
    obtain ⟨n, ⟨ns, h1⟩, i, b, s5, c, h0, h2⟩ := id hD
    -- cell = d[4] * 977 + 3
    refine ⟨_, rfl, _, _, _, _, rfl, rfl, SqL.of h2, rfl, _, _, rfl, rfl, .inr ⟨by decide, by decide⟩, _, _, rfl, rfl, ?_⟩
    refine ⟨fun σ' H' => ∃ (cell : Int) (x3 : Option V), σ' = [some (.ref d), some (.int m), some (.int cell), x3] ∧ Kp d H H' ∧ DI d l H', ?_, ?_⟩
    · -- the cell
      refine ⟨_, rfl, _, _, _, _, rfl, rfl, SqL.of h2, rfl, rfl, _, rfl, ite2 (fun e1 => ?_) (fun e1 => ?_)⟩
      · refine ⟨_, rfl, _, _, _, _, rfl, rfl, SqL.of h2, rfl, _, rfl, _, _, _, _, rfl, rfl, SqL.of h2, rfl, _, _, rfl, .inl (SqL.of h1), _, _, rfl, rfl, _, rfl, ite2 (fun e2 => ?_) (fun e2 => ?_)⟩
        · have e2 := of_decide_eq_true e2
          rw [List.length_map] at e2
          obtain ⟨j, rfl⟩ : ∃ j : Nat, i = (j : Int) := ⟨i.toNat, by omega⟩
          have hj : j < ns.length := by omega
          have gj : (ns.map V.int)[j]? = some (.int ns[j]) := by
            rw [List.getElem?_map, List.getElem?_eq_getElem hj]; rfl
          refine ⟨_, rfl, _, _, _, _, rfl, rfl, SqL.of h2, rfl, _, rfl, _, _, _, _, rfl, rfl, SqL.of h2, rfl, _, _, _, _, rfl, rfl, SqL.of h1, atI_nat gj, ?_⟩
          -- d[1] = d[1] + 1
          refine ⟨_, rfl, _, _, _, _, rfl, rfl, SqL.of h2, rfl, _, _, rfl, rfl, _, rfl, _, _, _, _, rfl, rfl, h2, rfl, ?_⟩
          have D1 := hD.set (i := (j : Int) + 1) (b := b) (s := s5) (c := c) (by omega)
          have K1 : Kp d H (upd H d (.lst [.ref l, .int ((j : Int) + 1), .int b, .int s5, .int c])) := (Kp.refl d H).upd
          refine ⟨fun σ' H' => ∃ (cell : Int) (x3 : Option V), σ' = [some (.ref d), some (.int m), some (.int cell), x3] ∧ H' = upd H d (.lst [.ref l, .int ((j : Int) + 1), .int b, .int s5, .int c]), ?_, ?_⟩
          · refine ⟨_, rfl, _, _, rfl, rfl, _, rfl, ite2 (fun _ => ?_) (fun _ => ?_)⟩
            · exact ⟨_, rfl, _, _, rfl, rfl, .inl ⟨by decide, by decide⟩, _, _, rfl, rfl, _, _, rfl, rfl⟩
            · exact ⟨_, _, rfl, rfl⟩
          · rintro σ' H' ⟨cell, x3, rfl, rfl⟩
            refine ⟨_, rfl, _, _, rfl, rfl, _, rfl, ite2 (fun _ => ?_) (fun _ => ?_)⟩
            · refine ⟨_, rfl, _, _, rfl, rfl, ⟨by decide, by decide, by decide⟩, _, _, rfl, rfl, _, _, rfl, rfl, ?_⟩
              refine ⟨_, rfl, _, rfl, _, _, _, _, rfl, rfl, upd_same, rfl, ?_⟩
              exact ⟨_, _, rfl, K1.upd, D1.set (by omega)⟩
            · exact ⟨_, _, rfl, K1, D1⟩
        · exact ⟨_, _, rfl, Kp.refl d H, hD⟩
      · exact ⟨_, _, rfl, Kp.refl d H, hD⟩
    · rintro σ' H1 ⟨cell, x3, rfl, K1, D1⟩
      obtain ⟨n, ⟨ns, h1⟩, i, b, s5, c, h0, h2⟩ := id D1
      refine ⟨_, rfl, _, _, _, _, rfl, rfl, SqL.of h2, rfl, _, _, rfl, rfl, _, rfl, ite2 (fun e1 => ?_) (fun e1 => ?_)⟩
      · refine ⟨_, rfl, _, _, _, _, rfl, rfl, SqL.of h2, rfl, .inl ⟨_, rfl, _, rfl, _, _, rfl, rfl, hmN, ?_⟩⟩
        refine ⟨_, rfl, _, _, _, _, rfl, rfl, SqL.of h2, rfl, _, rfl, _, _, rfl, rfl, ⟨hmN, hmA⟩, _, rfl, _, _, _, _, rfl, rfl, h2, rfl, ?_⟩
        exact ⟨_, rfl, q _ _ K1.upd (D1.set h0) (fun z => by omega) (fun _ => fm _)⟩
      · refine ⟨_, rfl, _, _, _, _, rfl, rfl, SqL.of h2, rfl, _, _, rfl, rfl, _, rfl, _, _, _, _, rfl, rfl, h2, rfl, ?_⟩
        refine ⟨_, rfl, _, _, _, _, rfl, rfl, SqL.of upd_same, rfl, _, _, rfl, rfl, .inr ⟨by decide, by decide⟩, _, rfl, _, _, rfl, rfl, .inr ⟨by decide, by decide⟩, _, _, rfl, rfl, _, rfl, _, _, _, _, rfl, rfl, SqL.of upd_same, rfl, _, _, rfl, rfl, .inr ⟨by decide, by decide⟩, _, _, rfl, rfl, .inl ⟨_, rfl, _, _, rfl, rfl, (by show (2147483647 : Int) ≠ 0; decide), _, rfl, _, _, _, _, rfl, rfl, upd_same, rfl, ?_⟩⟩
        refine ⟨_, rfl, _, _, _, _, rfl, rfl, SqL.of upd_same, rfl, _, _, rfl, rfl, .inr ⟨by decide, by decide⟩, _, rfl, _, _, _, _, rfl, rfl, SqL.of upd_same, rfl, _, _, rfl, rfl, .inr ⟨by decide, by decide⟩, _, _, rfl, rfl, _, _, rfl, rfl, .inl ⟨_, rfl, _, _, rfl, rfl, (by show (2147483399 : Int) ≠ 0; decide), .inl ⟨_, rfl, _, rfl, _, _, rfl, rfl, hmN, ?_⟩⟩⟩
        exact q _ _ K1.upd.upd ((D1.set h0).set h0) (fun z => by omega) (fun _ => fm _)
end
end Vf

set_option Elab.async false
set_option linter.all false
set_option maxRecDepth 100000
set_option maxHeartbeats 4000000
namespace Vf
open PySem PySem.Spec PyProof.Rows L2 TL
/-! ### the mathematics of tokens -/
def sW : Str := "abcdefghijklmnopqrstuvwxyz0123456789.,:;!?'()+=<>*/"
def sL : Str := "abcdefghijklmnopqrstuvwxyz"
def sB : Str := " \n"
def sOdd : Str := "\"#$&-ABCDEFGHIJKLMNOPQRSTUVWXYZ[\\]^_`|~"
def cW (c : Nat) : Bool := decide (c ∈ sW.cps.toList)
def cL (c : Nat) : Bool := decide (c ∈ sL.cps.toList)
def cB (c : Nat) : Bool := decide (c ∈ sB.cps.toList)
/-- the text of these signs -/
def mkS (zs : List Nat) : Str := ⟨zs.toArray⟩
def sV (zs : List Nat) : V := .str (mkS zs)
theorem mkS_cps (zs : List Nat) : (mkS zs).cps.toList = zs := rfl
theorem mkS_of (z : Str) : mkS z.cps.toList = z := rfl
theorem mkS_len (zs : List Nat) : (mkS zs).length = zs.length := by simp [mkS, Str.length]
theorem len_cps (z : Str) : z.length = z.cps.toList.length := by simp [Str.length]
theorem mkS_app (a b : List Nat) : mkS a ++ mkS b = mkS (a ++ b) := by
  have h : (mkS a ++ mkS b).cps.toList = a ++ b := by rw [Str.cps_append, Array.toList_append]; rfl
  rw [← h]
  rfl
theorem mkS_inj {a b : List Nat} (h : mkS a = mkS b) : a = b := by
  have h2 := congrArg (fun z : Str => z.cps.toList) h
  exact h2
theorem sW_list : sW.cps.toList = [97,98,99,100,101,102,103,104,105,106,107,108,109,110,111,112,113,114,115,116,117,118,119,120,121,122,48,49,50,51,52,53,54,55,56,57,46,44,58,59,33,63,39,40,41,43,61,60,62,42,47] := by decide +kernel
theorem sL_list : sL.cps.toList = [97,98,99,100,101,102,103,104,105,106,107,108,109,110,111,112,113,114,115,116,117,118,119,120,121,122] := by decide +kernel
theorem sB_list : sB.cps.toList = [32, 10] := by decide +kernel
theorem cL_W {c : Nat} (h : cL c = true) : cW c = true := by
  have h1 := of_decide_eq_true h
  refine decide_eq_true ?_
  rw [sL_list] at h1
  rw [sW_list]
  rw [show ([97,98,99,100,101,102,103,104,105,106,107,108,109,110,111,112,113,114,115,116,117,118,119,120,121,122,48,49,50,51,52,53,54,55,56,57,46,44,58,59,33,63,39,40,41,43,61,60,62,42,47] : List Nat) = [97,98,99,100,101,102,103,104,105,106,107,108,109,110,111,112,113,114,115,116,117,118,119,120,121,122] ++ [48,49,50,51,52,53,54,55,56,57,46,44,58,59,33,63,39,40,41,43,61,60,62,42,47] from rfl]
  exact List.mem_append_left _ h1
theorem cW_B {c : Nat} (h : cW c = true) : cB c = false := by
  refine decide_eq_false fun h2 => ?_
  rw [sB_list] at h2
  have h1 := of_decide_eq_true h
  rw [sW_list] at h1
  simp only [List.mem_cons, List.not_mem_nil, or_false] at h2
  rcases h2 with rfl | rfl
  · exact absurd h1 (by decide)
  · exact absurd h1 (by decide)
theorem cW_at : cW 64 = false := by
  unfold cW
  rw [sW_list]
  decide
theorem cB_at : cB 64 = false := by
  unfold cB
  rw [sB_list]
  decide
theorem cW_ne {c : Nat} (h : cW c = true) : c ≠ 64 := fun e => by
  rw [e, cW_at] at h
  cases h
theorem drop_le {α : Type} (p : α → Bool) : ∀ l : List α, (l.dropWhile p).length ≤ l.length
  | [] => Nat.le_refl _
  | c :: r => by
    rw [List.dropWhile_cons]
    split
    · exact Nat.le_trans (drop_le p r) (Nat.le_succ _)
    · exact Nat.le_refl _
/-- the tokens of a text -/
def tokF : Nat → List Nat → List (List Nat)
  | 0, _ => []
  | _ + 1, [] => []
  | n + 1, c :: r =>
    if cB c then tokF n r else if c = 64 then (c :: r.takeWhile cL) :: tokF n (r.dropWhile cL)
    else if cW c then (c :: r.takeWhile cW) :: tokF n (r.dropWhile cW) else [c] :: tokF n r
theorem tokF_more : ∀ (n m : Nat) (zs : List Nat), zs.length ≤ n → zs.length ≤ m → tokF n zs = tokF m zs
  | 0, 0, _, _, _ => rfl
  | 0, m + 1, zs, h, _ => by
    have e : zs = [] := List.length_eq_zero_iff.mp (Nat.le_zero.mp h)
    subst e
    rfl
  | n + 1, 0, zs, _, h => by
    have e : zs = [] := List.length_eq_zero_iff.mp (Nat.le_zero.mp h)
    subst e
    rfl
  | n + 1, m + 1, [], _, _ => rfl
  | n + 1, m + 1, c :: r, h1, h2 => by
    have a1 : r.length ≤ n := Nat.le_of_succ_le_succ h1
    have a2 : r.length ≤ m := Nat.le_of_succ_le_succ h2
    have d1 := drop_le cL r
    have d2 := drop_le cW r
    show (if cB c then tokF n r else if c = 64 then (c :: r.takeWhile cL) :: tokF n (r.dropWhile cL) else if cW c then (c :: r.takeWhile cW) :: tokF n (r.dropWhile cW) else [c] :: tokF n r) =
      (if cB c then tokF m r else if c = 64 then (c :: r.takeWhile cL) :: tokF m (r.dropWhile cL) else if cW c then (c :: r.takeWhile cW) :: tokF m (r.dropWhile cW) else [c] :: tokF m r)
    rw [tokF_more n m r a1 a2, tokF_more n m _ (Nat.le_trans d1 a1) (Nat.le_trans d1 a2), tokF_more n m _ (Nat.le_trans d2 a1) (Nat.le_trans d2 a2)]
def tok (zs : List Nat) : List (List Nat) := tokF zs.length zs
theorem tok_nil : tok [] = [] := rfl
theorem tok_cons (c : Nat) (r : List Nat) : tok (c :: r) = if cB c then tok r else if c = 64 then (c :: r.takeWhile cL) :: tok (r.dropWhile cL)
    else if cW c then (c :: r.takeWhile cW) :: tok (r.dropWhile cW) else [c] :: tok r := by
  show (if cB c then tokF r.length r else if c = 64 then (c :: r.takeWhile cL) :: tokF r.length (r.dropWhile cL) else if cW c then (c :: r.takeWhile cW) :: tokF r.length (r.dropWhile cW) else [c] :: tokF r.length r) = _
  rw [tokF_more r.length (r.dropWhile cL).length (r.dropWhile cL) (drop_le _ _) (Nat.le_refl _), tokF_more r.length (r.dropWhile cW).length (r.dropWhile cW) (drop_le _ _) (Nat.le_refl _)]
  rfl
/-! #### what the law's own walk has found, and how it goes on -/
def cont : Nat → List (List Nat) → List Nat → List (List Nat)
  | 1, f, r => f.dropLast ++ ((f.getLast?.getD []) ++ r.takeWhile cW) :: tok (r.dropWhile cW)
  | 2, f, r => f.dropLast ++ ((f.getLast?.getD []) ++ r.takeWhile cL) :: tok (r.dropWhile cL)
  | _, f, r => f ++ tok r
theorem cont0 (f : List (List Nat)) (r : List Nat) : cont 0 f r = f ++ tok r := rfl
theorem cont1 (g : List (List Nat)) (t r : List Nat) : cont 1 (g ++ [t]) r = g ++ (t ++ r.takeWhile cW) :: tok (r.dropWhile cW) := by
  show (g ++ [t]).dropLast ++ (((g ++ [t]).getLast?.getD []) ++ r.takeWhile cW) :: tok (r.dropWhile cW) = _
  rw [List.dropLast_concat, List.getLast?_concat]; rfl
theorem cont2 (g : List (List Nat)) (t r : List Nat) : cont 2 (g ++ [t]) r = g ++ (t ++ r.takeWhile cL) :: tok (r.dropWhile cL) := by
  show (g ++ [t]).dropLast ++ (((g ++ [t]).getLast?.getD []) ++ r.takeWhile cL) :: tok (r.dropWhile cL) = _
  rw [List.dropLast_concat, List.getLast?_concat]; rfl
/-- a sign that goes on -/
theorem cont1_on {c : Nat} (h : cW c = true) (g : List (List Nat)) (t r : List Nat) : cont 1 (g ++ [t]) (c :: r) = cont 1 (g ++ [t ++ [c]]) r := by
  rw [cont1, cont1, List.takeWhile_cons_of_pos h, List.dropWhile_cons_of_pos h, List.append_assoc]; rfl
theorem cont2_on {c : Nat} (h : cL c = true) (g : List (List Nat)) (t r : List Nat) : cont 2 (g ++ [t]) (c :: r) = cont 2 (g ++ [t ++ [c]]) r := by
  rw [cont2, cont2, List.takeWhile_cons_of_pos h, List.dropWhile_cons_of_pos h, List.append_assoc]; rfl
/-- a sign that doesn't -/
theorem cont1_off {c : Nat} (h : cW c = false) (g : List (List Nat)) (t r : List Nat) : cont 1 (g ++ [t]) (c :: r) = cont 0 (g ++ [t]) (c :: r) := by
  rw [cont1, cont0, List.takeWhile_cons_of_neg (by rw [h]; decide), List.dropWhile_cons_of_neg (by rw [h]; decide), List.append_nil, List.append_assoc]; rfl
theorem cont2_off {c : Nat} (h : cL c = false) (g : List (List Nat)) (t r : List Nat) : cont 2 (g ++ [t]) (c :: r) = cont 0 (g ++ [t]) (c :: r) := by
  rw [cont2, cont0, List.takeWhile_cons_of_neg (by rw [h]; decide), List.dropWhile_cons_of_neg (by rw [h]; decide), List.append_nil, List.append_assoc]; rfl
theorem cont_blank {c : Nat} (h : cB c = true) (f : List (List Nat)) (r : List Nat) : cont 0 f (c :: r) = cont 0 f r := by
  rw [cont0, cont0, tok_cons, if_pos h]
theorem cont_at (f : List (List Nat)) (r : List Nat) : cont 0 f (64 :: r) = cont 2 (f ++ [[64]]) r := by
  rw [cont0, cont2, tok_cons, if_neg (by rw [cB_at]; decide), if_pos rfl]; rfl
theorem cont_word {c : Nat} (h : cW c = true) (f : List (List Nat)) (r : List Nat) : cont 0 f (c :: r) = cont 1 (f ++ [[c]]) r := by
  rw [cont0, cont1, tok_cons, if_neg (by rw [cW_B h]; decide), if_neg (cW_ne h), if_pos h]; rfl
theorem cont_odd {c : Nat} (hb : cB c = false) (h : cW c = false) (ha : c ≠ 64) (f : List (List Nat)) (r : List Nat) : cont 0 f (c :: r) = cont 0 (f ++ [[c]]) r := by
  rw [cont0, cont0, tok_cons, if_neg (by rw [hb]; decide), if_neg ha, if_neg (by rw [h]; decide), List.append_assoc]; rfl
theorem cont_end1 (g : List (List Nat)) (t : List Nat) : cont 1 (g ++ [t]) [] = g ++ [t] := by
  rw [cont1]; show g ++ [t ++ []] = _; rw [List.append_nil]
theorem cont_end2 (g : List (List Nat)) (t : List Nat) : cont 2 (g ++ [t]) [] = g ++ [t] := by
  rw [cont2]; show g ++ [t ++ []] = _; rw [List.append_nil]
theorem cont_end0 (f : List (List Nat)) : cont 0 f [] = f := by
  rw [cont0, tok_nil, List.append_nil]
/-! #### tokens put together -/
/-- blanks and line feeds alone -/
def Bl (g : List Nat) : Prop := ∀ c ∈ g, cB c = true
/-- a token -/
def Tk (t : List Nat) : Prop := (∃ c, t = [c] ∧ cB c = false ∧ cW c = false ∧ c ≠ 64) ∨ (∃ r, t = 64 :: r ∧ ∀ c ∈ r, cL c = true) ∨ (t ≠ [] ∧ ∀ c ∈ t, cW c = true)
/-- the one runs on into the other -/
def runs (t u : List Nat) : Bool := if t.headD 0 = 64 then cL (u.headD 0) else cW (t.headD 0) && cW (u.headD 0)
theorem tok_gap : ∀ (g r : List Nat), Bl g → tok (g ++ r) = tok r
  | [], _, _ => rfl
  | c :: g, r, h => by
    rw [List.cons_append, tok_cons, if_pos (h c List.mem_cons_self)]
    exact tok_gap g r fun z hz => h z (List.mem_cons_of_mem _ hz)
theorem take_all {p : Nat → Bool} : ∀ (t r : List Nat), (∀ c ∈ t, p c = true) → (∀ c r', r = c :: r' → p c = false) → (t ++ r).takeWhile p = t ∧ (t ++ r).dropWhile p = r
  | [], [], _, _ => ⟨rfl, rfl⟩
  | [], c :: r, _, h => by
    have e := h c r rfl
    rw [List.nil_append, List.takeWhile_cons_of_neg (by rw [e]; decide), List.dropWhile_cons_of_neg (by rw [e]; decide)]
    exact ⟨rfl, rfl⟩
  | c :: t, r, ht, h => by
    have ⟨a, b⟩ := take_all t r (fun z hz => ht z (List.mem_cons_of_mem _ hz)) h
    rw [List.cons_append, List.takeWhile_cons_of_pos (ht c List.mem_cons_self), List.dropWhile_cons_of_pos (ht c List.mem_cons_self), a, b]
    exact ⟨rfl, rfl⟩
theorem tok_tok {t r : List Nat} (h : Tk t) (hr : r = [] ∨ runs t r = false) : tok (t ++ r) = t :: tok r := by
  rcases h with ⟨c, rfl, hb, hw, ha⟩ | ⟨u, rfl, hu⟩ | ⟨hn, hw⟩
  · show tok (c :: r) = _
    rw [tok_cons, if_neg (by rw [hb]; decide), if_neg ha, if_neg (by rw [hw]; decide)]
  · have hs : ∀ c r', r = c :: r' → cL c = false := by
      intro c r' e
      rcases hr with z | z
      · rw [z] at e; cases e
      · subst e; exact z
    have ⟨a, b⟩ := take_all u r hu hs
    rw [List.cons_append, tok_cons, if_neg (by rw [cB_at]; decide), if_pos rfl, a, b]
  · cases t with
    | nil => exact absurd rfl hn
    | cons c u =>
      have hc := hw c List.mem_cons_self
      have hs : ∀ x r', r = x :: r' → cW x = false := by
        intro x r' e
        rcases hr with z | z
        · rw [z] at e; cases e
        · subst e
          unfold runs at z
          rw [show (c :: u).headD 0 = c from rfl, if_neg (cW_ne hc), hc] at z
          exact z
      have ⟨a, b⟩ := take_all u r (fun z hz => hw z (List.mem_cons_of_mem _ hz)) hs
      rw [List.cons_append, tok_cons, if_neg (by rw [cW_B hc]; decide), if_neg (cW_ne hc), if_pos hc, a, b]
/-- tokens and the gaps behind them, put into one row -/
def mixed : List (List Nat) → List (List Nat) → List Nat
  | t :: ts, g :: gs => t ++ (g ++ mixed ts gs)
  | _, _ => []
/-- what is asked of a gap behind token k -/
def need (ts : List (List Nat)) (k : Nat) : Bool := match ts[k]?, ts[k + 1]? with
  | some t, some u => runs t u
  | _, _ => false
theorem runs_bl {t g r : List Nat} (hn : g ≠ []) (hg : Bl g) : runs t (g ++ r) = false := by
  cases g with
  | nil => exact absurd rfl hn
  | cons c g =>
    have hb := hg c List.mem_cons_self
    have hw : cW c = false := by
      cases e : cW c with
      | false => rfl
      | true => rw [cW_B e] at hb; cases hb
    have hl : cL c = false := by
      cases e : cL c with
      | false => rfl
      | true => rw [cL_W e] at hw; cases hw
    unfold runs
    rw [List.cons_append]
    show (if t.headD 0 = 64 then cL c else cW (t.headD 0) && cW c) = false
    rw [hl, hw, Bool.and_false]
    split <;> rfl
theorem runs_head {t u r : List Nat} (hu : u ≠ []) : runs t (u ++ r) = runs t u := by
  cases u with
  | nil => exact absurd rfl hu
  | cons c u => rfl
theorem Tk.ne {t : List Nat} (h : Tk t) : t ≠ [] := by
  rcases h with ⟨c, rfl, _⟩ | ⟨r, rfl, _⟩ | ⟨h, _⟩
  · exact fun e => by cases e
  · exact fun e => by cases e
  · exact h
theorem tok_mixed : ∀ (ts gs : List (List Nat)), (∀ t ∈ ts, Tk t) → gs.length = ts.length → (∀ k g, gs[k]? = some g → Bl g ∧ (need ts k = true → g ≠ [])) → tok (mixed ts gs) = ts
  | [], [], _, _, _ => rfl
  | [], _ :: _, _, h, _ => by cases h
  | _ :: _, [], _, h, _ => by cases h
  | t :: ts, g :: gs, ht, hl, hg => by
    have ih := tok_mixed ts gs (fun u hu => ht u (List.mem_cons_of_mem _ hu)) (Nat.succ.inj hl) (fun k g' e => by
      have := hg (k + 1) g' e
      exact this)
    obtain ⟨hb, hne⟩ := hg 0 g rfl
    show tok (t ++ (g ++ mixed ts gs)) = t :: ts
    rw [tok_tok (ht t List.mem_cons_self), tok_gap g _ hb, ih]
    by_cases e : g = []
    · subst e
      rw [List.nil_append]
      cases ts with
      | nil => exact .inl (by cases gs <;> rfl)
      | cons u us =>
        cases gs with
        | nil => cases hl
        | cons g2 gs2 =>
          refine .inr ?_
          show runs t (u ++ (g2 ++ mixed us gs2)) = false
          rw [runs_head (ht u (List.mem_cons_of_mem _ List.mem_cons_self)).ne]
          cases q : runs t u with
          | false => rfl
          | true => exact absurd rfl (hne q)
    · exact .inr (runs_bl e hb)
/-! #### small things -/
theorem take_succ' {α : Type} {l : List α} {i : Nat} {x : α} (h : l[i]? = some x) : l.take (i + 1) = l.take i ++ [x] := by
  rw [List.take_add_one, h]; rfl
theorem big_ok {n : Nat} (h : n ≤ 100000) : n ≤ sizeLine := Nat.le_trans h (by decide)
theorem get_sV {ts : List (List Nat)} {i : Nat} {t : List Nat} (h : ts[i]? = some t) : (ts.map sV)[i]? = some (sV t) := by
  rw [List.getElem?_map, h]; rfl
theorem drop_at {zs : List Nat} {i c : Nat} (h : zs[i]? = some c) : zs.drop i = c :: zs.drop (i + 1) := by
  have ⟨h1, h2⟩ := List.getElem?_eq_some_iff.mp h
  rw [List.drop_eq_getElem_cons h1, h2]
theorem same_mut {H H' : Hp} {p : Addr} {o : HO} (a : Same H H') (hp : H p = none) : Same H (upd H' p o) := fun x u h => by
  rw [upd_ne (ne_of_none h hp)]; exact a x u h
theorem same_upd {H H' : Hp} {p : Addr} {o : HO} (a : Same H H') (hp : H' p = none) : Same H (upd H' p o) := fun x u h => by
  have h2 := a x u h
  rw [upd_ne (ne_of_none h2 hp)]; exact h2
theorem dec_sign (c : Nat) (z : Str) (e : Nat) (hz : z = mkS [e]) : decide (V.str ⟨#[c]⟩ = V.str z) = decide (c = e) := by
  rw [hz]
  by_cases h : c = e
  · subst h; rw [decide_eq_true rfl]; exact decide_eq_true rfl
  · rw [decide_eq_false h]
    refine decide_eq_false fun q => h ?_
    have e2 : mkS [c] = mkS [e] := V.str.inj q
    have e3 := mkS_inj e2
    injection e3
theorem tf (b : Bool) : b = true ∨ b = false := by cases b <;> simp
theorem bl_of {p : Prop} [Decidable p] {b : Bool} (h : decide p = b) : V.bl (decide p) = V.bl b := congrArg V.bl h
theorem at_mk : (("@" : Str)) = mkS [64] := by decide +kernel
/-! ### texts put together -/
theorem empty_mk : (("" : Str)) = mkS [] := by decide +kernel
theorem map_sV (zss : List (List Nat)) : zss.map sV = (zss.map mkS).map V.str := by
  rw [List.map_map]; rfl
theorem sum_len : ∀ zss : List (List Nat), ((zss.map mkS).map (·.length)).sum = zss.flatten.length
  | [] => rfl
  | z :: r => by
    rw [List.map_cons, List.map_cons, List.sum_cons, sum_len r, List.flatten_cons, List.length_append, mkS_len]
theorem joinL_nil : ∀ zss : List (List Nat), joinL [] zss = zss.flatten
  | [] => rfl
  | [z] => by show z = z ++ []; rw [List.append_nil]
  | z :: y :: r => by
    show z ++ ([] ++ joinL [] (y :: r)) = z ++ (y :: r).flatten
    rw [List.nil_append, joinL_nil (y :: r)]
theorem join_mk (zss : List (List Nat)) : Txt.join ("" : Str) (zss.map mkS) = mkS zss.flatten := by
  have h : tl (Txt.join ("" : Str) (zss.map mkS)) = zss.flatten := by
    rw [join_eq, tl_join, show (zss.map mkS).map tl = zss from (by rw [List.map_map]; exact List.map_id'' (fun _ => rfl) zss), empty_mk]
    exact joinL_nil zss
  rw [← h]; rfl
theorem flat_len {B : Nat} : ∀ {zss : List (List Nat)}, (∀ z ∈ zss, z.length ≤ B) → zss.flatten.length ≤ zss.length * B
  | [], _ => Nat.zero_le _
  | z :: r, h => by
    have ih := flat_len (zss := r) fun y hy => h y (List.mem_cons_of_mem _ hy)
    have hz := h z List.mem_cons_self
    rw [List.flatten_cons, List.length_append, List.length_cons, Nat.succ_mul]
    omega
theorem flat_one : ∀ {zss : List (List Nat)}, (∀ z ∈ zss, z.length = 1) → zss.flatten.length = zss.length
  | [], _ => rfl
  | z :: r, h => by
    rw [List.flatten_cons, List.length_append, List.length_cons, flat_one fun y hy => h y (List.mem_cons_of_mem _ hy), h z List.mem_cons_self]
    omega
theorem blank_mk : ((" " : Str)) = mkS [32] := by decide +kernel
theorem feed_mk : (("\n" : Str)) = mkS [10] := by decide +kernel
end Vf

set_option Elab.async false
set_option linter.all false
set_option maxRecDepth 100000
set_option maxHeartbeats 4000000
namespace Vf
open PySem PySem.Spec PyProof.Rows L2 TL
/-- what the list of a comprehension holds: texts -/
def PvS (R : List Nat → Prop) (d l : Addr) (H : Hp) (D : Addr) (i : Nat) (H' : Hp) : Prop :=
  ∃ zss : List (List Nat), zss.length = i ∧ (∀ zs ∈ zss, R zs) ∧ Kp d H H' ∧ DI d l H' ∧ H' D = some (.lst (zss.map sV))
theorem PvS.start {R : List Nat → Prop} {d l D : Addr} {H : Hp} (hD : DI d l H) (nD : H D = none) : PvS R d l H D 0 (upd H D (.lst [])) :=
  ⟨[], rfl, (fun _ h => nomatch h), (Kp.refl d H).new nD, hD.new nD, upd_same⟩
theorem PvS.dice {R : List Nat → Prop} {d l D : Addr} {H H1 : Hp} {i : Nat} (p : PvS R d l H D i H1) : DI d l H1 := by
  obtain ⟨_, _, _, _, h, _⟩ := p
  exact h
theorem PvS.step {R : List Nat → Prop} {d l D : Addr} {H H1 H2 : Hp} {i : Nat} {zs : List Nat} (hD : DI d l H) (nD : H D = none) (p : PvS R d l H D i H1) (hi : i < 100000) (K2 : Kp d H1 H2) (D2 : DI d l H2) (r : R zs) :
    ∃ acc, H2 D = some (.lst acc) ∧ acc.length < sizeLine ∧ PvS R d l H D (i + 1) (upd H2 D (.lst (acc ++ [sV zs]))) := by
  obtain ⟨zss, hl, hR, K1, D1, e1⟩ := p
  have n1 := hD.nd nD
  have e2 : H2 D = some (.lst (zss.map sV)) := K2 _ _ n1.1 e1
  refine ⟨_, e2, ?_, zss ++ [zs], ?_, ?_, (K1.trans K2).mut nD, D2.at n1.1 n1.2, ?_⟩
  · rw [List.length_map, hl]
    exact Nat.lt_of_lt_of_le hi (by decide)
  · rw [List.length_append, hl]; rfl
  · intro z hz
    rcases List.mem_append.mp hz with h | h
    · exact hR z h
    · rw [List.mem_singleton.mp h]; exact r
  · rw [upd_same, List.map_append]; rfl
section
variable {P : Program} {w : World} {K : PySem.W.Frag} {mg : Str → Option Value} {base : Heap}
/-! ### pick, rare -/
/-- what is picked from -/
def Row (K : PySem.W.Frag) (H : Hp) (d : Addr) (row : V) (xs : List V) : Prop :=
  (∃ a, row = .ref a ∧ a ≠ d ∧ SqL K H a xs) ∨ ∃ zs, row = sV zs ∧ xs = zs.map fun c => sV [c]
def spPick (K : PySem.W.Frag) : Sp := fun vs H Q _ => ∃ (d l : Addr) (row : V) (xs : List V), vs = [.ref d, row] ∧ DI d l H ∧ Row K H d row xs ∧ 0 < xs.length ∧ xs.length ≤ 1000 ∧
  ∀ H' v, Kp d H H' → DI d l H' → v ∈ xs → Q v H'
theorem at_draw {xs : List V} {r : Int} (h : 0 < xs.length) (h1 : (xs.length : Int) < 2 → r = 0) (h2 : 2 ≤ (xs.length : Int) → 0 ≤ r ∧ r < (xs.length : Int)) :
    ∃ (j : Nat) (hj : j < xs.length), r = (j : Int) := by
  by_cases h3 : 2 ≤ (xs.length : Int)
  · have ⟨a, b⟩ := h2 h3
    exact ⟨r.toNat, by omega, by omega⟩
  · exact ⟨0, h, by rw [h1 (by omega)]; rfl⟩
theorem ok_pick (T : Txt K mg) : FnOk P w K mg base CX0 2 T.a_law_pick T.d_law_pick ["_law_d", "_law_row"] (spPick K) := by
  have G_law_draw : FnOk P w K mg base CX0 1 T.a_law_draw T.d_law_draw ["_law_d", "_law_many"] spDraw := ok_draw T
  refine T.D_law_pick.F.ok sc_law_pick (fun vs H Q E h => ?_) (fun cdv A outer s H vs Q E hr h => ?_)
  · obtain ⟨d, l, row, xs, rfl, _⟩ := h
    rfl
  · obtain ⟨d, l, row, xs, rfl, hD, hR, h0, hx, q⟩ := h
    refine ⟨_, (pss_one (ps_ret (pe_ix ix_seq (pv 1) (pe_call G_law_draw (hr.mono (by decide)) (by rfl) T.D_law_draw.G T.D_law_draw.F.kp T.D_law_draw.B .nil pass0 (pa_cons (pv 0) (pa_cons (pe_callB call_len (by rfl) T.n_len PySem.boot_len (pa_cons (pv 1) pa_nil)) pa_nil))) (fun _ _ => rfl)))), ?_⟩
    have hlen : LenV K row H xs.length := by
      rcases hR with ⟨a, rfl, _, hS⟩ | ⟨zs, rfl, rfl⟩
      · exact .inl ⟨_, hS, rfl⟩
      · rw [List.length_map] at hx ⊢
        refine ⟨?_, (mkS_len zs).symm⟩
        rw [mkS_len]
        exact Nat.le_trans hx (by decide)
    refine ⟨_, rfl, _, rfl, _, rfl, _, _, rfl, hlen, d, l, _, rfl, hD, by omega, fun H' r k D' e1 e2 => ?_⟩
    obtain ⟨j, hj, rfl⟩ := at_draw h0 e1 e2
    rcases hR with ⟨a, rfl, nd, hS⟩ | ⟨zs, rfl, rfl⟩
    · exact .inl ⟨a, xs, _, xs[j], rfl, rfl, k.sq nd hS, atI_nat (List.getElem?_eq_getElem hj), q H' _ k D' (List.getElem_mem hj)⟩
    · have hj2 : j < zs.length := by rw [List.length_map] at hj; exact hj
      refine .inr (.inr ⟨mkS zs, _, zs[j], rfl, rfl, ?_, ?_, q H' _ k D' (List.mem_map.mpr ⟨zs[j], List.getElem_mem hj2, rfl⟩)⟩)
      · rw [mkS_len]; rw [List.length_map] at hx; exact Nat.le_trans hx (by decide)
      · rw [mkS_cps]; exact atI_nat (List.getElem?_eq_getElem hj2)
def spRare : Sp := fun vs H Q _ => ∃ (d l : Addr) (m : Int), vs = [.ref d, .int m] ∧ DI d l H ∧ m ≤ 1000000 ∧ ∀ H' b, Kp d H H' → DI d l H' → Q (.bl b) H'
theorem ok_rare (T : Txt K mg) : FnOk P w K mg base CX0 2 T.a_law_rare T.d_law_rare ["_law_d", "_law_many"] spRare := by
  have G_law_draw : FnOk P w K mg base CX0 1 T.a_law_draw T.d_law_draw ["_law_d", "_law_many"] spDraw := ok_draw T
  refine T.D_law_rare.F.ok sc_law_rare (fun vs H Q E h => ?_) (fun cdv A outer s H vs Q E hr h => ?_)
  · obtain ⟨d, l, m, rfl, _⟩ := h
    rfl
  · obtain ⟨d, l, m, rfl, hD, hm, q⟩ := h
    refine ⟨_, (pss_one (ps_ret (pe_cmpR op_eq (pe_call G_law_draw (hr.mono (by decide)) (by rfl) T.D_law_draw.G T.D_law_draw.F.kp T.D_law_draw.B .nil pass0 (pa_cons (pv 0) (pa_cons (pv 1) pa_nil))) (pe_op op_fdivN (pe_op op_mul (pv 1) pe_int) pe_int) (nomark _)))), ?_⟩
    refine ⟨_, rfl, _, rfl, d, l, m, rfl, hD, hm, fun H' r k D' e1 e2 => ?_⟩
    exact ⟨_, rfl, _, _, rfl, rfl, .inr ⟨by decide, by decide⟩, _, _, rfl, rfl, ⟨by decide, by decide⟩, rfl, q H' _ k D'⟩
/-! ### run, word -/
def spRun : Sp := fun vs H Q _ => ∃ (d l : Addr) (cs : List Nat) (n : Int), vs = [.ref d, sV cs, .int n] ∧ DI d l H ∧ 0 < cs.length ∧ cs.length ≤ 1000 ∧ 0 ≤ n ∧ n ≤ 1000 ∧
  ∀ H' zs, Kp d H H' → DI d l H' → (zs.length : Int) = n → (∀ c ∈ zs, c ∈ cs) → Q (sV zs) H'
/-- texts of one sign each -/
def One (cs zs : List Nat) : Prop := ∃ c, zs = [c] ∧ c ∈ cs
theorem one_flat {cs : List Nat} : ∀ {zss : List (List Nat)}, (∀ z ∈ zss, One cs z) → zss.flatten.length = zss.length ∧ ∀ c ∈ zss.flatten, c ∈ cs
  | [], _ => ⟨rfl, fun _ h => nomatch h⟩
  | z :: r, h => by
    obtain ⟨c, rfl, hc⟩ := h z List.mem_cons_self
    have ⟨a, b⟩ := one_flat (zss := r) fun y hy => h y (List.mem_cons_of_mem _ hy)
    rw [List.flatten_cons]
    refine ⟨by rw [List.length_append, a]; show 1 + r.length = r.length + 1; omega, fun x hx => ?_⟩
    rcases List.mem_append.mp hx with e | e
    · rw [List.mem_singleton.mp e]; exact hc
    · exact b x e
theorem pick_one {d l : Addr} {cs : List Nat} {H : Hp} {Q : VK} (hD : DI d l H) (h0 : 0 < cs.length) (hx : cs.length ≤ 1000) (q : ∀ H' zs, Kp d H H' → DI d l H' → One cs zs → Q (sV zs) H') : spPick K [.ref d, sV cs] H Q E0 := by
  refine ⟨d, l, _, _, rfl, hD, .inr ⟨cs, rfl, rfl⟩, by rw [List.length_map]; exact h0, by rw [List.length_map]; exact hx, fun H' v k D' hv => ?_⟩
  obtain ⟨c, hc, rfl⟩ := List.mem_map.mp hv
  exact q H' _ k D' ⟨c, rfl, hc⟩
theorem ok_run (T : Txt K mg) : FnOk P w K mg base CX0 3 T.a_law_run T.d_law_run ["_law_d", "_law_signs", "_law_size"] spRun := by
  have G_law_pick : FnOk P w K mg base CX0 2 T.a_law_pick T.d_law_pick ["_law_d", "_law_row"] (spPick K) := ok_pick T
  refine T.D_law_run.F.ok sc_law_run (fun vs H Q E h => ?_) (fun cdv A outer s H vs Q E hr h => ?_)
  · obtain ⟨d, l, cs, n, rfl, _⟩ := h
    rfl
  · obtain ⟨d, l, cs, n, rfl, hD, h0, hx, hn0, hn, q⟩ := h
    refine ⟨_, (pss_one (ps_ret (pe_join pe_str (pe_lc (own := [("_law_k", 3)]) (g := gName 3) (tt := tYes) rfl sc_law_run.nd (pi_range1 (by rfl) T.n_range (pa_cons (pv 2) pa_nil)) (blkOk_by (own := [("_law_k", 3)]) (N := ["_law_d", "_law_signs", "_law_size", "_law_k"]) (sc := defScope s_law_run) (by decide +kernel)) (fun _ _ _ _ _ => (pg_name (i := 3) sc_law_run.nd rfl (.inl rfl))) (fun _ _ _ _ _ => pts_nil) (fun _ _ _ _ _ => (pe_call G_law_pick (hr.mono (by decide)) (by rfl) T.D_law_pick.G T.D_law_pick.F.kp T.D_law_pick.B .nil pass0 (pa_cons (pv 0) (pa_cons (pv 1) pa_nil)))))))), ?_⟩
    refine ⟨⟨_, rfl⟩, _, rfl, n, rfl, by omega, by omega, ?_⟩
    refine fun D nD => lc_range (lo := 0) (n := n.toNat) (PvS (One cs) d l H D) (PvS.start hD nD) (fun i H1 hi p => ⟨rfl, ?_⟩) (fun H' p => ?_)
    · exact ⟨_, rfl, _, rfl, pick_one p.dice h0 hx fun H2 zs k2 d2 r => p.step hD nD (by omega) k2 d2 r⟩
    · obtain ⟨zss, hl, hR, K1, D1, e1⟩ := p
      have ⟨f1, f2⟩ := one_flat hR
      refine ⟨_, D, zss.map mkS, rfl, rfl, .inl (SqL.of (by rw [e1, map_sV])), ?_, ?_⟩
      · rw [sum_len, f1, show (("" : Str)).length = 0 from by rw [empty_mk, mkS_len]; rfl]; omega
      · rw [join_mk]
        exact q H' _ K1 D1 (by rw [f1, hl]; omega) f2
def spWord : Sp := fun vs H Q _ => ∃ (d l : Addr) (lo hi : Int), vs = [.ref d, .int lo, .int hi] ∧ DI d l H ∧ 0 ≤ lo ∧ lo ≤ hi ∧ hi ≤ 900 ∧
  ∀ H' zs, Kp d H H' → DI d l H' → lo ≤ (zs.length : Int) → (zs.length : Int) ≤ hi → (∀ c ∈ zs, cW c = true) → Q (sV zs) H'
theorem ok_word (T : Txt K mg) : FnOk P w K mg base CX0 3 T.a_law_word T.d_law_word ["_law_d", "_law_low", "_law_high"] spWord := by
  have G_law_draw : FnOk P w K mg base CX0 1 T.a_law_draw T.d_law_draw ["_law_d", "_law_many"] spDraw := ok_draw T
  have G_law_pick : FnOk P w K mg base CX0 2 T.a_law_pick T.d_law_pick ["_law_d", "_law_row"] (spPick K) := ok_pick T
  refine T.D_law_word.F.ok sc_law_word (fun vs H Q E h => ?_) (fun cdv A outer s H vs Q E hr h => ?_)
  · obtain ⟨d, l, lo, hi, rfl, _⟩ := h
    rfl
  · obtain ⟨d, l, lo, hi, rfl, hD, h0, hlo, hhi, q⟩ := h
    refine ⟨_, (pss_cons (ps_set (i := 3) sc_law_word.nd rfl (.inl rfl) (pe_op op_add (pv 1) (pe_call G_law_draw (hr.mono (by decide)) (by rfl) T.D_law_draw.G T.D_law_draw.F.kp T.D_law_draw.B .nil pass0 (pa_cons (pv 0) (pa_cons (pe_op op_add (pe_op op_sub (pv 2) (pv 1)) pe_int) pa_nil)))))
      (pss_cons (ps_set (i := 4) sc_law_word.nd rfl (.inr rfl) (pe_call G_law_pick (hr.mono (by decide)) (by rfl) T.D_law_pick.G T.D_law_pick.F.kp T.D_law_pick.B .nil pass0 (pa_cons (pv 0) (pa_cons (pe_lst (pa_cons pe_str (pa_cons pe_str (pa_cons pe_str (pa_cons pe_str (pa_cons pe_str (pa_cons pe_str pa_nil))))))) pa_nil))))
      (pss_one (ps_ret (pe_join pe_str (pe_lc (own := [("_law_k", 5)]) (g := gName 5) (tt := tYes) rfl sc_law_word.nd (pi_range1 (by rfl) T.n_range (pa_cons (pv 3) pa_nil)) (blkOk_by (own := [("_law_k", 5)]) (N := ["_law_d", "_law_low", "_law_high", "_law_long", "_law_signs", "_law_k"]) (sc := defScope s_law_word) (by decide +kernel)) (fun _ _ _ _ _ => (pg_name (i := 5) sc_law_word.nd rfl (.inl rfl))) (fun _ _ _ _ _ => pts_nil) (fun _ _ _ _ _ => (pe_call G_law_pick (hr.mono (by decide)) (by rfl) T.D_law_pick.G T.D_law_pick.F.kp T.D_law_pick.B .nil pass0 (pa_cons (pv 0) (pa_cons (pv 4) pa_nil)))))))))), ?_⟩
    refine ⟨_, rfl, _, rfl, _, rfl, _, rfl, _, _, rfl, rfl, _, _, rfl, rfl, d, l, _, rfl, hD, by omega, fun H1 r K1 D1 r1 r2 => ?_⟩
    have hr0 : 0 ≤ r ∧ r ≤ hi - lo := by
      by_cases z : hi - lo + 1 < 2
      · have := r1 z; omega
      · have := r2 (by omega); omega
    refine ⟨_, _, rfl, rfl, ?_⟩
    refine ⟨_, rfl, ⟨by show 6 ≤ sizeLine; decide, fun p np => ?_⟩⟩
    refine ⟨d, l, _, _, rfl, D1.new np, .inl ⟨p, rfl, (D1.nd np).1, SqL.of upd_same⟩, by show 0 < 6; decide, by show 6 ≤ 1000; decide, fun H2 v K2 D2 hv => ?_⟩
    have hz : ∃ z : Str, v = .str z ∧ (0 < z.cps.toList.length ∧ z.cps.toList.length ≤ 1000 ∧ z.cps.toList.all cW = true) := by
      simp only [List.mem_cons, List.not_mem_nil, or_false] at hv
      rcases hv with rfl | rfl | rfl | rfl | rfl | rfl <;> exact ⟨_, rfl, by decide +kernel⟩
    obtain ⟨z, rfl, hz0, hz1, hz2⟩ := hz
    have K3 : Kp d H H2 := (K1.new np).trans K2
    refine ⟨⟨_, rfl⟩, _, rfl, _, rfl, by omega, by omega, ?_⟩
    refine fun D nD => lc_range (lo := 0) (n := (lo + r).toNat) (PvS (One z.cps.toList) d l H2 D) (PvS.start D2 nD) (fun i H1 hi p => ⟨rfl, ?_⟩) (fun H' p => ?_)
    · exact ⟨_, rfl, _, rfl, pick_one (cs := z.cps.toList) p.dice hz0 hz1 fun H2 zs k2 d2 r => p.step D2 nD (by omega) k2 d2 r⟩
    · obtain ⟨zss, hl, hR, K4, D4, e1⟩ := p
      have ⟨f1, f2⟩ := one_flat hR
      refine ⟨_, D, zss.map mkS, rfl, rfl, .inl (SqL.of (by rw [e1, map_sV])), ?_, ?_⟩
      · rw [sum_len, f1, show (("" : Str)).length = 0 from by rw [empty_mk, mkS_len]; rfl]; omega
      · rw [join_mk]
        exact q H' _ (K3.trans K4) D4 (by rw [f1, hl]; omega) (by rw [f1, hl]; omega) fun c hc => List.all_eq_true.mp hz2 c (f2 c hc)
end
end Vf

set_option Elab.async false
set_option linter.all false
set_option maxRecDepth 100000
set_option maxHeartbeats 4000000
namespace Vf
open PySem PySem.Spec PyProof.Rows L2 TL
/-- texts that the dice make, no argument but the dice -/
def spStr (R : List Nat → Prop) : Sp := fun vs H Q _ => ∃ (d l : Addr), vs = [.ref d] ∧ DI d l H ∧ ∀ H' zs, Kp d H H' → DI d l H' → R zs → Q (sV zs) H'
def spC (z : Str) : Sp := fun vs H Q _ => vs = [] ∧ Q (.str z) H
def RWord (zs : List Nat) : Prop := zs ≠ [] ∧ zs.length ≤ 16 ∧ ∀ c ∈ zs, cW c = true
def RName (zs : List Nat) : Prop := zs ≠ [] ∧ zs.length ≤ 8 ∧ ∀ c ∈ zs, cL c = true
def RTok (zs : List Nat) : Prop := Tk zs ∧ zs.length ≤ 60
theorem ne_of_len {zs : List Nat} {n : Int} (h : (zs.length : Int) = n) (h0 : 0 < n) : zs ≠ [] := fun e => by
  rw [e] at h
  have : (([] : List Nat).length : Int) = 0 := rfl
  omega
theorem mem_cW {c : Nat} (h : c ∈ sW.cps.toList) : cW c = true := decide_eq_true h
theorem mem_cL {c : Nat} (h : c ∈ sL.cps.toList) : cL c = true := decide_eq_true h
theorem sW_n : sW.cps.toList.length = 51 := by decide +kernel
theorem sL_n : sL.cps.toList.length = 26 := by decide +kernel
theorem sOdd_n : sOdd.cps.toList.length = 39 := by decide +kernel
def sNames : Str := ("let hole page note key head par list item table row cell show over up low fence grid line" : Str) ++ (" figure label contents index" : Str)
theorem names_ok : ∀ y ∈ Txt.split sNames (" " : Str), (y.cps.toList.length ≠ 0 ∧ y.cps.toList.length ≤ 8) ∧ y.cps.toList.all cL = true := by decide +kernel
theorem names_n : 0 < (Txt.split sNames (" " : Str)).length ∧ (Txt.split sNames (" " : Str)).length ≤ 1000 := by decide +kernel
section
variable {P : Program} {w : World} {K : PySem.W.Frag} {mg : Str → Option Value} {base : Heap}
theorem ok_word_signs (T : Txt K mg) : FnOk P w K mg base CX0 1 T.a_law_word_signs T.d_law_word_signs [] (spC sW) := by
  refine T.D_law_word_signs.F.ok sc_law_word_signs (fun vs H Q E h => ?_) (fun cdv A outer s H vs Q E hr h => ?_)
  · obtain ⟨rfl, _⟩ := h
    rfl
  · obtain ⟨rfl, q⟩ := h
    exact ⟨_, (pss_one (ps_ret pe_str)), q⟩
theorem ok_odd_signs (T : Txt K mg) : FnOk P w K mg base CX0 1 T.a_law_odd_signs T.d_law_odd_signs [] (spC sOdd) := by
  refine T.D_law_odd_signs.F.ok sc_law_odd_signs (fun vs H Q E h => ?_) (fun cdv A outer s H vs Q E hr h => ?_)
  · obtain ⟨rfl, _⟩ := h
    rfl
  · obtain ⟨rfl, q⟩ := h
    exact ⟨_, (pss_one (ps_ret pe_str)), q⟩
theorem ok_some_word (T : Txt K mg) : FnOk P w K mg base CX0 4 T.a_law_some_word T.d_law_some_word ["_law_d"] (spStr RWord) := by
  have G_law_draw : FnOk P w K mg base CX0 1 T.a_law_draw T.d_law_draw ["_law_d", "_law_many"] spDraw := ok_draw T
  have G_law_run : FnOk P w K mg base CX0 3 T.a_law_run T.d_law_run ["_law_d", "_law_signs", "_law_size"] spRun := ok_run T
  have G_law_word : FnOk P w K mg base CX0 3 T.a_law_word T.d_law_word ["_law_d", "_law_low", "_law_high"] spWord := ok_word T
  have G_law_word_signs : FnOk P w K mg base CX0 1 T.a_law_word_signs T.d_law_word_signs [] (spC sW) := ok_word_signs T
  refine T.D_law_some_word.F.ok sc_law_some_word (fun vs H Q E h => ?_) (fun cdv A outer s H vs Q E hr h => ?_)
  · obtain ⟨d, l, rfl, _⟩ := h
    rfl
  · obtain ⟨d, l, rfl, hD, q⟩ := h
    refine ⟨_, (pss_cons (ps_set (i := 1) sc_law_some_word.nd rfl (.inl rfl) (pe_call G_law_draw (hr.mono (by decide)) (by rfl) T.D_law_draw.G T.D_law_draw.F.kp T.D_law_draw.B .nil pass0 (pa_cons (pv 0) (pa_cons pe_int pa_nil))))
      (pss_cons (ps_if (pt_cmpR op_eq (pv 1) pe_int (nomark _)) (pss_one (ps_ret (pe_call G_law_run (hr.mono (by decide)) (by rfl) T.D_law_run.G T.D_law_run.F.kp T.D_law_run.B .nil pass0 (pa_cons (pv 0) (pa_cons (pe_call0 G_law_word_signs (hr.mono (by decide)) (by rfl) T.D_law_word_signs.G T.D_law_word_signs.F.kp T.D_law_word_signs.B .nil pass0) (pa_cons (pe_op op_add pe_int (pe_call G_law_draw (hr.mono (by decide)) (by rfl) T.D_law_draw.G T.D_law_draw.F.kp T.D_law_draw.B .nil pass0 (pa_cons (pv 0) (pa_cons pe_int pa_nil)))) pa_nil)))))) pss_nil)
      (pss_cons (ps_if (pt_cmpR op_eq (pv 1) pe_int (nomark _)) (pss_one (ps_ret (pe_call G_law_run (hr.mono (by decide)) (by rfl) T.D_law_run.G T.D_law_run.F.kp T.D_law_run.B .nil pass0 (pa_cons (pv 0) (pa_cons (pe_call0 G_law_word_signs (hr.mono (by decide)) (by rfl) T.D_law_word_signs.G T.D_law_word_signs.F.kp T.D_law_word_signs.B .nil pass0) (pa_cons (pe_op op_add pe_int (pe_call G_law_draw (hr.mono (by decide)) (by rfl) T.D_law_draw.G T.D_law_draw.F.kp T.D_law_draw.B .nil pass0 (pa_cons (pv 0) (pa_cons pe_int pa_nil)))) pa_nil)))))) pss_nil)
      (pss_one (ps_ret (pe_call G_law_word (hr.mono (by decide)) (by rfl) T.D_law_word.G T.D_law_word.F.kp T.D_law_word.B .nil pass0 (pa_cons (pv 0) (pa_cons pe_int (pa_cons pe_int pa_nil))))))))), ?_⟩
    refine ⟨_, rfl, d, l, _, rfl, hD, by decide, fun H1 r K1 D1 _ r2 => ?_⟩
    have fin : ∀ (a : Int) (m : Int) (H2 : Hp) (r : Int), 1 ≤ a → 0 ≤ r → a + r ≤ 16 → Kp d H H2 → DI d l H2 → spRun [.ref d, .str sW, .int (a + r)] H2 Q E0 := by
      intro a m H2 r ha h0 h16 K2 D2
      refine ⟨d, l, sW.cps.toList, _, rfl, D2, by rw [sW_n]; decide, by rw [sW_n]; decide, by omega, by omega, fun H3 zs K3 D3 el hc => ?_⟩
      exact q H3 zs (K2.trans K3) D3 ⟨ne_of_len el (by omega), by omega, fun c h => mem_cW (hc c h)⟩
    refine ⟨_, rfl, rfl, _, rfl, ite2 (fun _ => ?_) (fun _ => ?_)⟩
    · refine ⟨_, rfl, rfl, _, rfl, d, l, _, rfl, D1, by decide, fun H2 r' K2 D2 _ e2 => ?_⟩
      have e3 := e2 (by decide)
      exact ⟨_, _, rfl, rfl, fin 1 16 H2 r' (by decide) e3.1 (by omega) (K1.trans K2) D2⟩
    · refine ⟨_, rfl, rfl, _, rfl, ite2 (fun _ => ?_) (fun _ => ?_)⟩
      · refine ⟨_, rfl, rfl, _, rfl, d, l, _, rfl, D1, by decide, fun H2 r' K2 D2 _ e2 => ?_⟩
        have e3 := e2 (by decide)
        exact ⟨_, _, rfl, rfl, fin 15 2 H2 r' (by decide) e3.1 (by omega) (K1.trans K2) D2⟩
      · refine ⟨_, rfl, d, l, _, _, rfl, D1, by decide, by decide, by decide, fun H2 zs K2 D2 l1 l2 hc => ?_⟩
        refine q H2 zs (K1.trans K2) D2 ⟨fun e => ?_, by omega, hc⟩
        rw [e] at l1
        exact absurd l1 (by decide)
theorem ok_some_name (T : Txt K mg) : FnOk P w K mg base CX0 4 T.a_law_some_name T.d_law_some_name ["_law_d"] (spStr RName) := by
  have G_law_draw : FnOk P w K mg base CX0 1 T.a_law_draw T.d_law_draw ["_law_d", "_law_many"] spDraw := ok_draw T
  have G_law_pick : FnOk P w K mg base CX0 2 T.a_law_pick T.d_law_pick ["_law_d", "_law_row"] (spPick K) := ok_pick T
  have G_law_run : FnOk P w K mg base CX0 3 T.a_law_run T.d_law_run ["_law_d", "_law_signs", "_law_size"] spRun := ok_run T
  refine T.D_law_some_name.F.ok sc_law_some_name (fun vs H Q E h => ?_) (fun cdv A outer s H vs Q E hr h => ?_)
  · obtain ⟨d, l, rfl, _⟩ := h
    rfl
  · obtain ⟨d, l, rfl, hD, q⟩ := h
    refine ⟨_, (pss_cons (ps_set (i := 1) sc_law_some_name.nd rfl (.inl rfl) (pe_call G_law_draw (hr.mono (by decide)) (by rfl) T.D_law_draw.G T.D_law_draw.F.kp T.D_law_draw.B .nil pass0 (pa_cons (pv 0) (pa_cons pe_int pa_nil))))
      (pss_cons (ps_if (pt_cmpR op_eq (pv 1) pe_int (nomark _)) (pss_one (ps_ret (pe_call G_law_run (hr.mono (by decide)) (by rfl) T.D_law_run.G T.D_law_run.F.kp T.D_law_run.B .nil pass0 (pa_cons (pv 0) (pa_cons pe_str (pa_cons (pe_op op_add pe_int (pe_call G_law_draw (hr.mono (by decide)) (by rfl) T.D_law_draw.G T.D_law_draw.F.kp T.D_law_draw.B .nil pass0 (pa_cons (pv 0) (pa_cons pe_int pa_nil)))) pa_nil)))))) pss_nil)
      (pss_cons (ps_if (pt_cmpR op_eq (pv 1) pe_int (nomark _)) (pss_one (ps_ret (pe_call G_law_run (hr.mono (by decide)) (by rfl) T.D_law_run.G T.D_law_run.F.kp T.D_law_run.B .nil pass0 (pa_cons (pv 0) (pa_cons pe_str (pa_cons (pe_op op_add pe_int (pe_call G_law_draw (hr.mono (by decide)) (by rfl) T.D_law_draw.G T.D_law_draw.F.kp T.D_law_draw.B .nil pass0 (pa_cons (pv 0) (pa_cons pe_int pa_nil)))) pa_nil)))))) pss_nil)
      (pss_cons (ps_if (pt_cmpR op_eq (pv 1) pe_int (nomark _)) (pss_cons (ps_set (i := 2) sc_law_some_name.nd rfl (.inl rfl) pe_str)
      (pss_one (ps_ret (pe_call G_law_pick (hr.mono (by decide)) (by rfl) T.D_law_pick.G T.D_law_pick.F.kp T.D_law_pick.B .nil pass0 (pa_cons (pv 0) (pa_cons (pe_split (pe_op op_add_str (pv 2) pe_str) pe_str) pa_nil)))))) pss_nil)
      (pss_one (ps_ret (pe_call G_law_run (hr.mono (by decide)) (by rfl) T.D_law_run.G T.D_law_run.F.kp T.D_law_run.B .nil pass0 (pa_cons (pv 0) (pa_cons pe_str (pa_cons (pe_op op_add pe_int (pe_call G_law_draw (hr.mono (by decide)) (by rfl) T.D_law_draw.G T.D_law_draw.F.kp T.D_law_draw.B .nil pass0 (pa_cons (pv 0) (pa_cons pe_int pa_nil)))) pa_nil)))))))))), ?_⟩
    refine ⟨_, rfl, d, l, _, rfl, hD, by decide, fun H1 r K1 D1 _ r2 => ?_⟩
    have fin : ∀ (z : Str) (a : Int) (H2 : Hp) (r : Int), z.cps.toList.length ≠ 0 → z.cps.toList.length ≤ 1000 → z.cps.toList.all cL = true → 1 ≤ a → 0 ≤ r → a + r ≤ 8 → Kp d H H2 → DI d l H2 → spRun [.ref d, .str z, .int (a + r)] H2 Q E0 := by
      intro z a H2 r hz0 hz1 hz ha h0 h16 K2 D2
      refine ⟨d, l, z.cps.toList, _, rfl, D2, by omega, hz1, by omega, by omega, fun H3 zs K3 D3 el hc => ?_⟩
      exact q H3 zs (K2.trans K3) D3 ⟨ne_of_len el (by omega), by omega, fun c h => List.all_eq_true.mp hz c (hc c h)⟩
    refine ⟨_, rfl, rfl, _, rfl, ite2 (fun _ => ?_) (fun _ => ?_)⟩
    · refine ⟨_, rfl, _, rfl, d, l, _, rfl, D1, by decide, fun H2 r' K2 D2 _ e2 => ?_⟩
      have e3 := e2 (by decide)
      exact ⟨_, _, rfl, rfl, fin _ 1 H2 r' (by decide +kernel) (by decide +kernel) (by decide +kernel) (by decide) e3.1 (by omega) (K1.trans K2) D2⟩
    refine ⟨_, rfl, rfl, _, rfl, ite2 (fun _ => ?_) (fun _ => ?_)⟩
    · refine ⟨_, rfl, _, rfl, d, l, _, rfl, D1, by decide, fun H2 r' K2 D2 _ e2 => ?_⟩
      have e3 := e2 (by decide)
      exact ⟨_, _, rfl, rfl, fin _ 7 H2 r' (by decide +kernel) (by decide +kernel) (by decide +kernel) (by decide) e3.1 (by omega) (K1.trans K2) D2⟩
    refine ⟨_, rfl, rfl, _, rfl, ite2 (fun _ => ?_) (fun _ => ?_)⟩
    · refine ⟨_, rfl, _, rfl, _, _, rfl, rfl, by decide +kernel, ⟨_, rfl⟩, sNames, (" " : Str), rfl, rfl, by decide +kernel, by decide +kernel, fun p np => ?_⟩
      refine ⟨d, l, _, (Txt.split sNames (" " : Str)).map V.str, rfl, D1.new np, .inl ⟨p, rfl, (D1.nd np).1, SqL.of upd_same⟩, by rw [List.length_map]; exact names_n.1, by rw [List.length_map]; exact names_n.2, fun H2 v K2 D2 hv => ?_⟩
      obtain ⟨y, hy, rfl⟩ := List.mem_map.mp hv
      have ⟨⟨y1, y2⟩, y3⟩ := names_ok y hy
      exact q H2 y.cps.toList ((K1.new np).trans K2) D2 ⟨fun e => y1 (by rw [e]; rfl), y2, fun c h => List.all_eq_true.mp y3 c h⟩
    · refine ⟨_, rfl, _, rfl, d, l, _, rfl, D1, by decide, fun H2 r' K2 D2 _ e2 => ?_⟩
      have e3 := e2 (by decide)
      exact ⟨_, _, rfl, rfl, fin _ 1 H2 r' (by decide +kernel) (by decide +kernel) (by decide +kernel) (by decide) e3.1 (by omega) (K1.trans K2) D2⟩
end
end Vf

set_option Elab.async false
set_option linter.all false
set_option maxRecDepth 100000
set_option maxHeartbeats 4000000
namespace Vf
open PySem PySem.Spec PyProof.Rows L2 TL
/-- two values are the same data, at most n - 1 tuples deep -/
def Eqv : Nat → Hp → V → V → Prop
  | 0, _, _, _ => False
  | n + 1, H, v, u => ((∃ z, v = .str z ∧ u = .str z) ∨ (∃ i, v = .int i ∧ u = .int i) ∨ (v = .non ∧ u = .non)) ∨
      ∃ (a b : Addr) (xs ys : List V), v = .ref a ∧ u = .ref b ∧ H a = some (.tup xs) ∧ H b = some (.tup ys) ∧ xs.length = ys.length ∧ xs.length ≤ 100000 ∧ ∀ (i : Nat) x y, xs[i]? = some x → ys[i]? = some y → Eqv n H x y
def spExact (n : Nat) : Sp := fun vs H Q _ => ∃ (v u : V), vs = [v, u] ∧ Eqv n H v u ∧ Q (.bl true) H
theorem eq_self {H : Hp} {Q : VK} {x : V} (q : Q (.bl true) H) : Q (.bl (decide (x = x))) H := by
  rw [decide_eq_true rfl]; exact q
section
variable {P : Program} {w : World} {K : PySem.W.Frag} {mg : Str → Option Value} {base : Heap}
theorem ok_exact (T : Txt K mg) : ∀ n : Nat, FnOk P w K mg base CX0 (n + 1) T.a_law_exact T.d_law_exact ["_law_told", "_law_due"] (spExact n)
  | 0 => by
    refine T.D_law_exact.F.ok sc_law_exact (fun vs H Q E h => ?_) (fun cdv A outer s H vs Q E hr h => ?_)
    · obtain ⟨v, u, rfl, _⟩ := h
      rfl
    · obtain ⟨v, u, rfl, hE, q⟩ := h
      exact hE.elim
  | n + 1 => by
    have G_law_exact : FnOk P w K mg base CX0 (n + 1) T.a_law_exact T.d_law_exact ["_law_told", "_law_due"] (spExact n) := ok_exact T n
    refine T.D_law_exact.F.ok sc_law_exact (fun vs H Q E h => ?_) (fun cdv A outer s H vs Q E hr h => ?_)
    · obtain ⟨v, u, rfl, _⟩ := h
      rfl
    · obtain ⟨v, u, rfl, hE, q⟩ := h
      refine ⟨_, (pss_cons (ps_if (pt_val (pe_callB call_isi (by rfl) T.n_isinstance (by decide +kernel) (pa_cons (pv 1) (pa_cons (pe_bltn (v := .ty "tuple") (by rfl) T.n_tuple (by decide +kernel) rfl) pa_nil)))) (pss_cons (ps_if (PW.pt (pw_or (pt_not (pt_val (pe_callB call_isi (by rfl) T.n_isinstance (by decide +kernel) (pa_cons (pv 0) (pa_cons (pe_bltn (v := .ty "tuple") (by rfl) T.n_tuple (by decide +kernel) rfl) pa_nil))))) (pw_or1 (pt_cmpR op_ne (pe_callB call_len (by rfl) T.n_len PySem.boot_len (pa_cons (pv 0) pa_nil)) (pe_callB call_len (by rfl) T.n_len PySem.boot_len (pa_cons (pv 1) pa_nil)) (nomark _))))) (pss_one (ps_ret pe_bl)) pss_nil)
      (pss_cons (ps_for PassesOwn.never rfl (pi_range1 (by rfl) T.n_range (pa_cons (pe_callB call_len (by rfl) T.n_len PySem.boot_len (pa_cons (pv 1) pa_nil)) pa_nil)) (pg_name (i := 2) sc_law_exact.nd rfl (.inl rfl)) (pss_one (ps_if (pt_not (pt_val (pe_call G_law_exact hr (by rfl) T.D_law_exact.G T.D_law_exact.F.kp T.D_law_exact.B .nil pass0 (pa_cons (pe_ix ix_seq (pv 0) (pv 2) (fun _ _ => rfl)) (pa_cons (pe_ix ix_seq (pv 1) (pv 2) (fun _ _ => rfl)) pa_nil))))) (pss_one (ps_ret pe_bl)) pss_nil)))
      (pss_one (ps_ret pe_bl)))) pss_nil)
      (pss_cons (ps_if (pt_cmpR op_isN (pv 1) pe_non (nomark _)) (pss_one (ps_ret (pe_cmpR op_isN (pv 0) pe_non (nomark _)))) pss_nil)
      (pss_cons (ps_if (pt_val (pe_callB call_isi (by rfl) T.n_isinstance (by decide +kernel) (pa_cons (pv 1) (pa_cons (pe_bltn (v := .ty "bool") (by rfl) T.n_bool (by decide +kernel) rfl) pa_nil)))) (pss_one (ps_ret (pe_and (pe_callB call_isi (by rfl) T.n_isinstance (by decide +kernel) (pa_cons (pv 0) (pa_cons (pe_bltn (v := .ty "bool") (by rfl) T.n_bool (by decide +kernel) rfl) pa_nil))) (pe_one (pe_cmpR op_eq (pv 0) (pv 1) (nomark _)))))) pss_nil)
      (pss_cons (ps_if (pt_val (pe_callB call_isi (by rfl) T.n_isinstance (by decide +kernel) (pa_cons (pv 1) (pa_cons (pe_bltn (v := .ty "int") (by rfl) T.n_int (by decide +kernel) rfl) pa_nil)))) (pss_one (ps_ret (pe_and (pe_callB call_isi (by rfl) T.n_isinstance (by decide +kernel) (pa_cons (pv 0) (pa_cons (pe_bltn (v := .ty "int") (by rfl) T.n_int (by decide +kernel) rfl) pa_nil))) (pe_and (pe_not (pe_callB call_isi (by rfl) T.n_isinstance (by decide +kernel) (pa_cons (pv 0) (pa_cons (pe_bltn (v := .ty "bool") (by rfl) T.n_bool (by decide +kernel) rfl) pa_nil)))) (pe_one (pe_cmpR op_eq (pv 0) (pv 1) (nomark _))))))) pss_nil)
      (pss_one (ps_ret (pe_and (pe_callB call_isi (by rfl) T.n_isinstance (by decide +kernel) (pa_cons (pv 0) (pa_cons (pe_bltn (v := .ty "str") (by rfl) T.n_str (by decide +kernel) rfl) pa_nil))) (pe_one (pe_cmpR op_eq (pv 0) (pv 1) (nomark _)))))))))), ?_⟩
      rcases hE with (⟨z, rfl, rfl⟩ | ⟨i, rfl, rfl⟩ | ⟨rfl, rfl⟩) | ⟨a, b, xs, ys, rfl, rfl, ha, hb, el, en, hE⟩
      · refine ⟨_, rfl, _, _, .type "str", .type "tuple", false, rfl, .ty _, .base (.str _), kit_ty (by decide +kernel), _, rfl, ?_⟩
        refine ⟨_, rfl, rfl, false, bl_of (decide_eq_false (fun e => by cases e)), ?_⟩
        refine ⟨_, rfl, _, _, .type "str", .type "bool", false, rfl, .ty _, .base (.str _), kit_ty (by decide +kernel), _, rfl, ?_⟩
        refine ⟨_, rfl, _, _, .type "str", .type "int", false, rfl, .ty _, .base (.str _), kit_ty (by decide +kernel), _, rfl, ?_⟩
        exact ⟨_, rfl, _, _, .type "str", .type "str", true, rfl, .ty _, .base (.str _), kit_ty (by decide +kernel), true, rfl, _, rfl, _, rfl, rfl, eq_self q⟩
      · refine ⟨_, rfl, _, _, .type "int", .type "tuple", false, rfl, .ty _, .base (.int _), kit_ty (by decide +kernel), _, rfl, ?_⟩
        refine ⟨_, rfl, rfl, false, bl_of (decide_eq_false (fun e => by cases e)), ?_⟩
        refine ⟨_, rfl, _, _, .type "int", .type "bool", false, rfl, .ty _, .base (.int _), kit_ty (by decide +kernel), _, rfl, ?_⟩
        refine ⟨_, rfl, _, _, .type "int", .type "int", true, rfl, .ty _, .base (.int _), kit_ty (by decide +kernel), _, rfl, ?_⟩
        exact ⟨_, rfl, _, _, .type "int", .type "int", true, rfl, .ty _, .base (.int _), kit_ty (by decide +kernel), true, rfl, _, rfl, _, _, .type "int", .type "bool", false, rfl, .ty _, .base (.int _), kit_ty (by decide +kernel), false, rfl, true, rfl, _, rfl, _, rfl, rfl, eq_self q⟩
      · refine ⟨_, rfl, _, _, .type "NoneType", .type "tuple", false, rfl, .ty _, .base .non, kit_ty (by decide +kernel), _, rfl, ?_⟩
        exact ⟨_, rfl, rfl, true, bl_of (decide_eq_true rfl), _, rfl, rfl, eq_self q⟩
      · refine ⟨_, rfl, _, _, .type "tuple", .type "tuple", true, rfl, .ty _, .base (.tup hb), kit_ty (by decide +kernel), _, rfl, ?_⟩
        refine ⟨_, rfl, _, _, .type "tuple", .type "tuple", true, rfl, .ty _, .base (.tup ha), kit_ty (by decide +kernel), _, rfl, ?_⟩
        refine ⟨_, rfl, _, _, rfl, .inr ⟨_, SqT.of ha, rfl⟩, _, rfl, _, _, rfl, .inr ⟨_, SqT.of hb, rfl⟩, rfl, false, ?_, ?_⟩
        · rw [el, decide_eq_true rfl]; rfl
        refine ⟨_, rfl, _, _, rfl, .inr ⟨_, SqT.of hb, rfl⟩, _, rfl, by omega, by omega, ?_⟩
        refine for_range (lo := 0) (n := ((ys.length : Nat) : Int).toNat) (fun i σ' H' => H' = H ∧ ∃ x2 : Option V, σ' = [some (.ref a), some (.ref b), x2]) ⟨rfl, none, rfl⟩ ?_ ?_
        · rintro i σ' H' hi ⟨rfl, x2, rfl⟩
          have hi2 : i < ys.length := by omega
          have hi1 : i < xs.length := by omega
          have gx : xs[i]? = some xs[i] := List.getElem?_eq_getElem hi1
          have gy : ys[i]? = some ys[i] := List.getElem?_eq_getElem hi2
          have e0 : ((0 : Int) + (i : Int)) = (i : Int) := Int.zero_add _
          refine ⟨_, rfl, _, rfl, .inr (.inl ⟨a, xs, _, _, rfl, rfl, SqT.of ha, at_of e0 gx, ?_⟩)⟩
          refine ⟨_, rfl, _, rfl, .inr (.inl ⟨b, ys, _, _, rfl, rfl, SqT.of hb, at_of e0 gy, ?_⟩)⟩
          exact ⟨_, _, rfl, hE i _ _ gx gy, true, rfl, rfl, _, rfl⟩
        · rintro σ' H' ⟨rfl, x2, rfl⟩
          exact q
end
end Vf

set_option Elab.async false
set_option linter.all false
set_option maxRecDepth 100000
set_option maxHeartbeats 4000000
namespace Vf
open PySem PySem.Spec PyProof.Rows L2 TL
/-! ### trees -/
mutual
inductive Tr where
  | nil
  | word (w : List Nat) (r : Tr)
  | call (n : List Nat) (a : Ar) (r : Tr)
inductive Ar where
  | nil
  | cons (t : Tr) (r : Ar)
end
mutual
def toksT : Tr → List (List Nat)
  | .nil => []
  | .word w r => w :: toksT r
  | .call n a r => (64 :: n) :: (toksA a ++ toksT r)
def toksA : Ar → List (List Nat)
  | .nil => []
  | .cons t r => [123] :: (toksT t ++ ([125] :: toksA r))
end
mutual
def depT : Tr → Nat
  | .nil => 0
  | .word _ r => depT r
  | .call _ a r => max (depA a) (depT r)
def depA : Ar → Nat
  | .nil => 0
  | .cons t r => max (depT t + 1) (depA r)
end
mutual
def GoodT : Tr → Prop
  | .nil => True
  | .word w r => RWord w ∧ GoodT r
  | .call n a r => RName n ∧ GoodA a ∧ GoodT r
def GoodA : Ar → Prop
  | .nil => True
  | .cons t r => GoodT t ∧ GoodA r
end
def appT : Tr → Tr → Tr
  | .nil, u => u
  | .word w r, u => .word w (appT r u)
  | .call n a r, u => .call n a (appT r u)
def appA : Ar → Ar → Ar
  | .nil, u => u
  | .cons t r, u => .cons t (appA r u)
theorem toksT_app : ∀ t u : Tr, toksT (appT t u) = toksT t ++ toksT u
  | .nil, u => by simp only [appT, toksT, List.nil_append]
  | .word w r, u => by simp only [appT, toksT, toksT_app r u, List.cons_append]
  | .call n a r, u => by simp only [appT, toksT, toksT_app r u, List.cons_append, List.append_assoc]
theorem toksA_app : ∀ t u : Ar, toksA (appA t u) = toksA t ++ toksA u
  | .nil, u => by simp only [appA, toksA, List.nil_append]
  | .cons t r, u => by simp only [appA, toksA, toksA_app r u, List.cons_append, List.append_assoc]
theorem depT_app : ∀ t u : Tr, depT (appT t u) = max (depT t) (depT u)
  | .nil, u => by simp only [appT, depT]; omega
  | .word w r, u => by simp only [appT, depT, depT_app r u]
  | .call n a r, u => by simp only [appT, depT, depT_app r u]; omega
theorem depA_app : ∀ t u : Ar, depA (appA t u) = max (depA t) (depA u)
  | .nil, u => by simp only [appA, depA]; omega
  | .cons t r, u => by simp only [appA, depA, depA_app r u]; omega
theorem GoodT_app : ∀ {t u : Tr}, GoodT t → GoodT u → GoodT (appT t u)
  | .nil, _, _, h => by simp only [appT]; exact h
  | .word w r, _, h, k => by
    simp only [appT, GoodT] at h ⊢
    exact ⟨h.1, GoodT_app h.2 k⟩
  | .call n a r, _, h, k => by
    simp only [appT, GoodT] at h ⊢
    exact ⟨h.1, h.2.1, GoodT_app h.2.2 k⟩
theorem GoodA_app : ∀ {t u : Ar}, GoodA t → GoodA u → GoodA (appA t u)
  | .nil, _, _, h => by simp only [appA]; exact h
  | .cons t r, _, h, k => by
    simp only [appA, GoodA] at h ⊢
    exact ⟨h.1, GoodA_app h.2 k⟩
/-- every token of a good tree is short and not empty -/
theorem RWord.len {z : List Nat} (h : RWord z) : z.length ≤ 16 := h.2.1
theorem RName.len {z : List Nat} (h : RName z) : z.length ≤ 8 := h.2.1
mutual
theorem toksT_len : ∀ {t : Tr}, GoodT t → ∀ z ∈ toksT t, z.length ≤ 17 ∧ z ≠ []
  | .nil, _ => fun z h => by simp only [toksT] at h; cases h
  | .word w r, g => fun z h => by
    simp only [toksT, GoodT] at h g
    rcases List.mem_cons.mp h with rfl | h
    · exact ⟨Nat.le_succ_of_le g.1.len, g.1.1⟩
    · exact toksT_len g.2 z h
  | .call n a r, g => fun z h => by
    simp only [toksT, GoodT] at h g
    rcases List.mem_cons.mp h with rfl | h
    · refine ⟨?_, by simp⟩
      have := g.1.len
      show n.length + 1 ≤ 17
      omega
    · rcases List.mem_append.mp h with h | h
      · exact toksA_len g.2.1 z h
      · exact toksT_len g.2.2 z h
theorem toksA_len : ∀ {t : Ar}, GoodA t → ∀ z ∈ toksA t, z.length ≤ 17 ∧ z ≠ []
  | .nil, _ => fun z h => by simp only [toksA] at h; cases h
  | .cons t r, g => fun z h => by
    simp only [toksA, GoodA] at h g
    rcases List.mem_cons.mp h with rfl | h
    · exact ⟨by show 1 ≤ 17; decide, by simp⟩
    · rcases List.mem_append.mp h with h | h
      · exact toksT_len g.1 z h
      · rcases List.mem_cons.mp h with rfl | h
        · exact ⟨by show 1 ≤ 17; decide, by simp⟩
        · exact toksA_len g.2 z h
end
/-! ### trees in the heap -/
def kWord : V := .str ("word" : Str)
def kCall : V := .str ("call" : Str)
mutual
def RepT (H : Hp) : Tr → List V → Prop
  | .nil, vs => vs = []
  | .word w r, vs => ∃ p vs', vs = .ref p :: vs' ∧ H p = some (.tup [kWord, sV w]) ∧ RepT H r vs'
  | .call n a r, vs => ∃ p q us vs', vs = .ref p :: vs' ∧ H p = some (.tup [kCall, sV n, .ref q]) ∧ H q = some (.tup us) ∧ RepA H a us ∧ RepT H r vs'
def RepA (H : Hp) : Ar → List V → Prop
  | .nil, vs => vs = []
  | .cons t r, vs => ∃ p us vs', vs = .ref p :: vs' ∧ H p = some (.tup us) ∧ RepT H t us ∧ RepA H r vs'
end
/-- tuples stay -/
def TKeep (H H' : Hp) : Prop := ∀ p xs, H p = some (.tup xs) → H' p = some (.tup xs)
theorem TKeep.refl (H : Hp) : TKeep H H := fun _ _ h => h
theorem TKeep.trans {H H1 H2 : Hp} (a : TKeep H H1) (b : TKeep H1 H2) : TKeep H H2 := fun p xs h => b p xs (a p xs h)
theorem TKeep.same {H H' : Hp} (s : Same H H') : TKeep H H' := fun p xs h => s p _ h
theorem TKeep.kp {d l : Addr} {H H' : Hp} (s : Kp d H H') (hD : DI d l H) : TKeep H H' := fun p xs h => s p _ (fun e => by
  obtain ⟨_, _, _, _, _, _, _, e2⟩ := hD
  rw [e, e2] at h; cases h) h
theorem TKeep.kpl {p : Addr} {H H' : Hp} {xs : List V} (s : Kp p H H') (hp : H p = some (.lst xs)) : TKeep H H' := fun q ys h => s q _ (fun e => by rw [e, hp] at h; cases h) h
theorem TKeep.new {H : Hp} {p : Addr} {o : HO} (hp : H p = none) : TKeep H (upd H p o) := fun q xs h => by rw [upd_ne (ne_of_none h hp)]; exact h
theorem TKeep.mut {H : Hp} {p : Addr} {o : HO} {ys : List V} (hp : H p = some (.lst ys)) : TKeep H (upd H p o) := fun q xs h => by
  rw [upd_ne (fun e => by rw [e, hp] at h; cases h)]; exact h
mutual
theorem RepT.keep {H H' : Hp} (k : TKeep H H') : ∀ {t : Tr} {vs : List V}, RepT H t vs → RepT H' t vs
  | .nil, vs, h => by simp only [RepT] at h ⊢; exact h
  | .word w r, vs, h => by
    simp only [RepT] at h ⊢
    obtain ⟨p, vs', e, a, b⟩ := h
    exact ⟨p, vs', e, k _ _ a, RepT.keep k b⟩
  | .call n a r, vs, h => by
    simp only [RepT] at h ⊢
    obtain ⟨p, q, us, vs', e, a, b, c, d⟩ := h
    exact ⟨p, q, us, vs', e, k _ _ a, k _ _ b, RepA.keep k c, RepT.keep k d⟩
theorem RepA.keep {H H' : Hp} (k : TKeep H H') : ∀ {t : Ar} {vs : List V}, RepA H t vs → RepA H' t vs
  | .nil, vs, h => by simp only [RepA] at h ⊢; exact h
  | .cons t r, vs, h => by
    simp only [RepA] at h ⊢
    obtain ⟨p, us, vs', e, a, b, c⟩ := h
    exact ⟨p, us, vs', e, k _ _ a, RepT.keep k b, RepA.keep k c⟩
end
theorem RepT.app {H : Hp} : ∀ {t u : Tr} {vs us : List V}, RepT H t vs → RepT H u us → RepT H (appT t u) (vs ++ us)
  | .nil, u, vs, us, h, k => by
    simp only [RepT] at h
    subst h
    exact k
  | .word w r, u, vs, us, h, k => by
    simp only [RepT, appT] at h ⊢
    obtain ⟨p, vs', rfl, a, b⟩ := h
    exact ⟨p, vs' ++ us, rfl, a, RepT.app b k⟩
  | .call n a r, u, vs, us, h, k => by
    simp only [RepT, appT] at h ⊢
    obtain ⟨p, q, ws, vs', rfl, a, b, c, d⟩ := h
    exact ⟨p, q, ws, vs' ++ us, rfl, a, b, c, RepT.app d k⟩
theorem RepA.app {H : Hp} : ∀ {t u : Ar} {vs us : List V}, RepA H t vs → RepA H u us → RepA H (appA t u) (vs ++ us)
  | .nil, u, vs, us, h, k => by
    simp only [RepA] at h
    subst h
    exact k
  | .cons t r, u, vs, us, h, k => by
    simp only [RepA, appA] at h ⊢
    obtain ⟨p, ws, vs', rfl, a, b, c⟩ := h
    exact ⟨p, ws, vs' ++ us, rfl, a, b, RepA.app c k⟩
theorem RepT.len {H : Hp} : ∀ {t : Tr} {vs : List V}, RepT H t vs → vs.length ≤ (toksT t).length
  | .nil, vs, h => by
    simp only [RepT] at h
    subst h
    exact Nat.zero_le _
  | .word w r, vs, h => by
    simp only [RepT, toksT] at h ⊢
    obtain ⟨p, vs', rfl, a, b⟩ := h
    have := RepT.len b
    rw [List.length_cons, List.length_cons]
    omega
  | .call n a r, vs, h => by
    simp only [RepT, toksT] at h ⊢
    obtain ⟨p, q, ws, vs', rfl, a, b, c, d⟩ := h
    have := RepT.len d
    rw [List.length_cons, List.length_cons, List.length_append]
    omega
theorem RepA.len {H : Hp} : ∀ {t : Ar} {vs : List V}, RepA H t vs → vs.length ≤ (toksA t).length
  | .nil, vs, h => by
    simp only [RepA] at h
    subst h
    exact Nat.zero_le _
  | .cons t r, vs, h => by
    simp only [RepA, toksA] at h ⊢
    obtain ⟨p, ws, vs', rfl, a, b, c⟩ := h
    have := RepA.len c
    rw [List.length_cons, List.length_cons, List.length_append, List.length_cons]
    omega
/-- a tree's value -/
def TV (H : Hp) (v : V) (t : Tr) : Prop := ∃ p us, v = .ref p ∧ H p = some (.tup us) ∧ RepT H t us
theorem TV.keep {H H' : Hp} {v : V} {t : Tr} (h : TV H v t) (k : TKeep H H') : TV H' v t := by
  obtain ⟨p, us, e, a, b⟩ := h
  exact ⟨p, us, e, k _ _ a, b.keep k⟩
/-- a call's value -/
def CV (H : Hp) (v : V) (n : List Nat) (a : Ar) : Prop := ∃ p q us, v = .ref p ∧ H p = some (.tup [kCall, sV n, .ref q]) ∧ H q = some (.tup us) ∧ RepA H a us
theorem CV.keep {H H' : Hp} {v : V} {n : List Nat} {a : Ar} (h : CV H v n a) (k : TKeep H H') : CV H' v n a := by
  obtain ⟨p, q, us, e, x, b, c⟩ := h
  exact ⟨p, q, us, e, k _ _ x, k _ _ b, c.keep k⟩
theorem call_ne_word : V.bl (decide (kCall = V.str ("word" : Str))) = V.bl false := by decide +kernel
theorem word_eq_word : V.bl (decide (kWord = V.str ("word" : Str))) = V.bl true := by decide +kernel
theorem brO_mk : (("{" : Str)) = mkS [123] := by decide +kernel
theorem brC_mk : (("}" : Str)) = mkS [125] := by decide +kernel
theorem brO_sV : V.str ("{" : Str) = sV [123] := by rw [brO_mk]; rfl
theorem brC_sV : V.str ("}" : Str) = sV [125] := by rw [brC_mk]; rfl
/-- tokens joined by blanks -/
def spaced (ts : List (List Nat)) : List Nat := joinL [32] ts
theorem join_sp (ts : List (List Nat)) : Txt.join (" " : Str) (ts.map mkS) = mkS (spaced ts) := by
  have h : tl (Txt.join (" " : Str) (ts.map mkS)) = spaced ts := by
    rw [join_eq, tl_join, show (ts.map mkS).map tl = ts from (by rw [List.map_map]; exact List.map_id'' (fun _ => rfl) ts), blank_mk]
    rfl
  rw [← h]; rfl
theorem sum_le {B : Nat} : ∀ {zss : List (List Nat)}, (∀ z ∈ zss, z.length ≤ B) → ((zss.map mkS).map (·.length)).sum ≤ zss.length * B
  | [], _ => Nat.zero_le _
  | z :: r, h => by
    have ih := sum_le (zss := r) fun y hy => h y (List.mem_cons_of_mem _ hy)
    have hz := h z List.mem_cons_self
    rw [List.map_cons, List.map_cons, List.sum_cons, mkS_len, List.length_cons, Nat.succ_mul]
    omega
theorem blank_len : ((" " : Str)).length = 1 := by rw [blank_mk, mkS_len]; rfl
theorem at_app {n : List Nat} : ("@" : Str) ++ mkS n = mkS (64 :: n) := by rw [at_mk, mkS_app]; rfl
theorem at_len : (("@" : Str)).length = 1 := by rw [at_mk, mkS_len]; rfl
theorem drop_x {us : List V} {i : Nat} {x : V} (hx : us[i]? = some x) : us.drop i = x :: us.drop (i + 1) := by
  have ⟨h1, h2⟩ := List.getElem?_eq_some_iff.mp hx
  rw [List.drop_eq_getElem_cons h1, h2]
theorem lt_size {n : Nat} (h : n < 100000) : n < sizeLine := Nat.lt_of_lt_of_le h (by decide)
theorem snoc_sV (ts : List (List Nat)) (z : List Nat) : (ts ++ [z]).map sV = ts.map sV ++ [sV z] := by rw [List.map_append]; rfl
end Vf

set_option Elab.async false
set_option linter.all false
set_option maxRecDepth 100000
set_option maxHeartbeats 4000000
namespace Vf
open PySem PySem.Spec PyProof.Rows L2 TL
theorem Kp.freeD {d l p : Addr} {H H' : Hp} (k : Kp d H H') (D : DI d l H') (n : H' p = none) : H p = none := by
  cases e : H p with
  | none => rfl
  | some o =>
    have h := k p o (D.nd n).1 e
    rw [n] at h; cases h
theorem cut_lo {ts : List (List Nat)} {i : Nat} (h : i ≤ ts.length) : cutV (ts.map sV) none (some (i : Int)) = (ts.take i).map sV := by
  unfold cutV
  rw [HT.sIx_none, HT.sIx_nat, List.length_map, List.drop_zero, Nat.sub_zero, Nat.min_eq_left h, List.map_take]
theorem cut_hi {ts : List (List Nat)} {i : Nat} (h : i ≤ ts.length) : cutV (ts.map sV) (some (i : Int)) none = (ts.drop i).map sV := by
  unfold cutV
  rw [HT.sIx_none, HT.sIx_nat, List.length_map, Nat.min_eq_left h, ← List.map_drop, List.take_of_length_le (by rw [List.length_map, List.length_drop]; exact Nat.le_refl _)]
end Vf

set_option Elab.async false
set_option linter.all false
set_option maxRecDepth 100000
set_option maxHeartbeats 4000000
namespace Vf
open PySem PySem.Spec PyProof.Rows L2 TL
/-! ### text times int -/
theorem mul_ok {z : Str} {n : Int} (h2 : 2 ≤ n) (hn : n ≤ 1000) (hz : z.length ≤ 10000) : MulOk z n := by
  refine ⟨?_, fun _ _ => ?_, fun _ _ => ?_⟩
  · rw [decide_eq_false (by omega), decide_eq_false (by omega)]; rfl
  · have h3 : (9000000 : Int) ≤ (2 ^ 63 - 1) / n := (Int.le_ediv_iff_mul_le (by omega)).mpr (by omega)
    omega
  · have e : n.toNat ≤ 1000 := by omega
    have h4 : z.length * n.toNat ≤ 10000 * 1000 := Nat.mul_le_mul hz e
    show decide (sizeLine < z.length * n.toNat) = false
    exact decide_eq_false (Nat.not_lt.mpr (Nat.le_trans h4 (by decide)))
theorem mul_len {z : Str} {n : Int} (h2 : 2 ≤ n) : (Txt.mul z n).length ≤ z.length * n.toNat := by
  unfold Txt.mul
  rw [if_neg (by omega)]
  split
  · have h : 1 ≤ n.toNat := by omega
    calc z.length = z.length * 1 := (Nat.mul_one _).symm
      _ ≤ z.length * n.toNat := Nat.mul_le_mul_left _ h
  · show ((List.replicate n.toNat z.cps).foldl (· ++ ·) #[]).size ≤ z.cps.size * n.toNat
    rw [size_reps]
    show 0 + n.toNat * z.cps.size ≤ _
    rw [Nat.zero_add, Nat.mul_comm]
    exact Nat.le_refl _
theorem op_mul_str {X : Cx} : OpR X (binaryOp .Mult) (fun x y H Q => ∃ z n, x = .str z ∧ y = .int n ∧ MulOk z n ∧ Q (.str (Txt.mul z n)) H) := by
  intro pins s σ H x y v u Q I rx ry h
  obtain ⟨z, n, rfl, rfl, hm, q⟩ := h
  obtain ⟨t, rfl⟩ := rx
  obtain ⟨t', rfl⟩ := ry
  exact SB.mul hm fun t' k => ⟨.str (Txt.mul z n), H, I.tok _, ⟨_, rfl⟩, q⟩
/-! ### tokens and gaps by turns -/
def inter : List (List Nat) → List (List Nat) → List (List Nat)
  | t :: ts, g :: gs => t :: g :: inter ts gs
  | _, _ => []
theorem inter_flat : ∀ ts gs : List (List Nat), (inter ts gs).flatten = mixed ts gs
  | t :: ts, g :: gs => by
    show t ++ (g ++ (inter ts gs).flatten) = t ++ (g ++ mixed ts gs)
    rw [inter_flat ts gs]
  | [], _ => rfl
  | _ :: _, [] => rfl
theorem inter_snoc : ∀ (ts gs : List (List Nat)) (t g : List Nat), gs.length = ts.length → inter (ts ++ [t]) (gs ++ [g]) = inter ts gs ++ [t, g]
  | [], [], _, _, _ => rfl
  | [], _ :: _, _, _, h => by cases h
  | _ :: _, [], _, _, h => by cases h
  | t0 :: ts, g0 :: gs, t, g, h => by
    show t0 :: g0 :: inter (ts ++ [t]) (gs ++ [g]) = t0 :: g0 :: (inter ts gs ++ [t, g])
    rw [inter_snoc ts gs t g (Nat.succ.inj h)]
theorem inter_len : ∀ ts gs : List (List Nat), (inter ts gs).length ≤ 2 * ts.length
  | t :: ts, g :: gs => by
    have := inter_len ts gs
    show (inter ts gs).length + 1 + 1 ≤ 2 * (ts.length + 1)
    omega
  | [], _ => Nat.zero_le _
  | _ :: _, [] => Nat.zero_le _
section
variable {P : Program} {w : World} {K : PySem.W.Frag} {mg : Str → Option Value} {base : Heap}
/-! ### runs_on, gap, parts -/
def spRunsOn : Sp := fun vs H Q _ => ∃ (t u : List Nat), vs = [sV t, sV u] ∧ t ≠ [] ∧ u ≠ [] ∧ t.length ≤ 100000 ∧ u.length ≤ 100000 ∧ Q (.bl (runs t u)) H
theorem head_at {t : List Nat} (h : t ≠ []) : atI t 0 = some (t.headD 0) := by
  cases t with
  | nil => exact absurd rfl h
  | cons c r => exact atI_nat (j := 0) rfl
theorem dec_at (c : Nat) : decide (V.str ⟨#[c]⟩ = V.str ("@" : Str)) = decide (c = 64) := by
  rw [at_mk]
  by_cases h : c = 64
  · subst h; rfl
  · rw [decide_eq_false h]
    refine decide_eq_false fun e => h ?_
    have e2 : mkS [c] = mkS [64] := V.str.inj e
    have e3 := mkS_inj e2
    injection e3
theorem ok_runs_on (T : Txt K mg) : FnOk P w K mg base CX0 2 T.a_law_runs_on T.d_law_runs_on ["_law_one", "_law_two"] spRunsOn := by
  have G_law_word_signs : FnOk P w K mg base CX0 1 T.a_law_word_signs T.d_law_word_signs [] (spC sW) := ok_word_signs T
  refine T.D_law_runs_on.F.ok sc_law_runs_on (fun vs H Q E h => ?_) (fun cdv A outer s H vs Q E hr h => ?_)
  · obtain ⟨t, u, rfl, _⟩ := h
    rfl
  · obtain ⟨t, u, rfl, ht, hu, lt, lu, q⟩ := h
    refine ⟨_, (pss_cons (ps_if (pt_cmpR op_eq (pe_ix ix_str (pv 0) pe_int (fun _ _ => rfl)) pe_str (nomark _)) (pss_one (ps_ret (pe_cmpR op_in_sign (pe_ix ix_str (pv 1) pe_int (fun _ _ => rfl)) pe_str (by rfl)))) pss_nil)
      (pss_one (ps_ret (pe_and (pe_cmpR op_in_sign (pe_ix ix_str (pv 0) pe_int (fun _ _ => rfl)) (pe_call0 G_law_word_signs (hr.mono (by decide)) (by rfl) T.D_law_word_signs.G T.D_law_word_signs.F.kp T.D_law_word_signs.B .nil pass0) (by rfl)) (pe_one (pe_cmpR op_in_sign (pe_ix ix_str (pv 1) pe_int (fun _ _ => rfl)) (pe_call0 G_law_word_signs (hr.mono (by decide)) (by rfl) T.D_law_word_signs.G T.D_law_word_signs.F.kp T.D_law_word_signs.B .nil pass0) (by rfl))))))), ?_⟩
    have zt : (mkS t).length ≤ sizeLine := by rw [mkS_len]; exact big_ok lt
    have zu : (mkS u).length ≤ sizeLine := by rw [mkS_len]; exact big_ok lu
    refine ⟨_, rfl, mkS t, 0, _, rfl, rfl, zt, head_at ht, rfl, _, rfl, ?_⟩
    rw [dec_at]
    refine ite2 (fun e => ?_) (fun e => ?_)
    · have e1 : t.headD 0 = 64 := of_decide_eq_true e
      refine ⟨_, rfl, mkS u, 0, _, rfl, rfl, zu, head_at hu, _, _, rfl, rfl, ?_⟩
      have e2 : runs t u = cL (u.headD 0) := by unfold runs; rw [if_pos e1]
      rw [e2] at q
      exact q
    · have e1 : ¬ t.headD 0 = 64 := fun z => e (decide_eq_true z)
      have e2 : runs t u = (cW (t.headD 0) && cW (u.headD 0)) := by unfold runs; rw [if_neg e1]
      rw [e2] at q
      refine ⟨_, rfl, mkS t, 0, _, rfl, rfl, zt, head_at ht, rfl, _, _, rfl, rfl, _, rfl, ?_⟩
      show if cW (t.headD 0) = true then _ else _
      cases e3 : cW (t.headD 0) with
      | true =>
        rw [e3] at q
        exact ⟨_, rfl, mkS u, 0, _, rfl, rfl, zu, head_at hu, rfl, _, _, rfl, rfl, q⟩
      | false =>
        rw [e3] at q
        exact q
def spGap : Sp := fun vs H Q _ => ∃ (d l : Addr) (b : Bool), vs = [.ref d, .bl b] ∧ DI d l H ∧ ∀ H' zs, Kp d H H' → DI d l H' → Bl zs → zs.length ≤ 3 → (b = true → zs ≠ []) → Q (sV zs) H'
theorem ok_gap (T : Txt K mg) : FnOk P w K mg base CX0 3 T.a_law_gap T.d_law_gap ["_law_d", "_law_needed"] spGap := by
  have G_law_pick : FnOk P w K mg base CX0 2 T.a_law_pick T.d_law_pick ["_law_d", "_law_row"] (spPick K) := ok_pick T
  refine T.D_law_gap.F.ok sc_law_gap (fun vs H Q E h => ?_) (fun cdv A outer s H vs Q E hr h => ?_)
  · obtain ⟨d, l, b, rfl, _⟩ := h
    rfl
  · obtain ⟨d, l, b, rfl, hD, q⟩ := h
    refine ⟨_, (pss_cons (ps_set (i := 2) sc_law_gap.nd rfl (.inl rfl) (pe_call G_law_pick (hr.mono (by decide)) (by rfl) T.D_law_pick.G T.D_law_pick.F.kp T.D_law_pick.B .nil pass0 (pa_cons (pv 0) (pa_cons (pe_lst (pa_cons pe_str (pa_cons pe_str (pa_cons pe_str (pa_cons pe_str (pa_cons pe_str (pa_cons pe_str (pa_cons pe_str (pa_cons pe_str pa_nil))))))))) pa_nil))))
      (pss_one (ps_ret (pe_ifExp (PW.pt (pw_and (pt_val (pv 1)) (pw_and1 (pt_cmpR op_eq (pv 2) pe_str (nomark _))))) pe_str (pv 2))))), ?_⟩
    refine ⟨_, rfl, by show 8 ≤ sizeLine; decide, fun p np => ?_⟩
    refine ⟨d, l, _, _, rfl, hD.new np, .inl ⟨p, rfl, (hD.nd np).1, SqL.of upd_same⟩, by show 0 < 8; decide, by show 8 ≤ 1000; decide, fun H2 v K2 D2 hv => ?_⟩
    have hz : ∃ z : Str, v = .str z ∧ (z.cps.toList.all cB = true ∧ z.cps.toList.length ≤ 3) := by
      simp only [List.mem_cons, List.not_mem_nil, or_false] at hv
      rcases hv with rfl | rfl | rfl | rfl | rfl | rfl | rfl | rfl <;> exact ⟨_, rfl, by decide +kernel⟩
    obtain ⟨z, rfl, hz1, hz2⟩ := hz
    have K3 : Kp d H H2 := ((Kp.refl d H).new np).trans K2
    have hB : Bl z.cps.toList := fun c hc => List.all_eq_true.mp hz1 c hc
    have sp1 : Q (.str (" " : Str)) H2 := q H2 (" " : Str).cps.toList K3 D2 (fun c hc => List.all_eq_true.mp (by decide +kernel : (" " : Str).cps.toList.all cB = true) c hc) (by decide +kernel) (fun _ => by decide +kernel)
    cases b with
    | true =>
      refine ⟨_, rfl, _, rfl, _, rfl, rfl, _, rfl, ?_⟩
      refine ite2 (fun e => ?_) (fun e => ?_)
      · exact sp1
      · refine ⟨_, rfl, q H2 z.cps.toList K3 D2 hB hz2 fun _ e0 => e (decide_eq_true ?_)⟩
        have e1 : z = mkS [] := by rw [← mkS_of z, e0]
        rw [e1, empty_mk]
    | false =>
      exact ⟨_, rfl, _, rfl, _, rfl, q H2 z.cps.toList K3 D2 hB hz2 fun z => nomatch z⟩
def spParts (K : PySem.W.Frag) : Sp := fun vs H Q _ => ∃ (d l t : Addr) (ts : List (List Nat)), vs = [.ref d, .ref t] ∧ DI d l H ∧ t ≠ d ∧ SqL K H t (ts.map sV) ∧ ts.length ≤ 20000 ∧ (∀ z ∈ ts, z ≠ [] ∧ z.length ≤ 1000) ∧
  ∀ H' p g0 gs, Kp d H H' → DI d l H' → H p = none → H' p = some (.lst ((g0 :: inter ts gs).map sV)) → Bl g0 → g0.length ≤ 3 → gs.length = ts.length →
    (∀ k g, gs[k]? = some g → (Bl g ∧ (need ts k = true → g ≠ [])) ∧ g.length ≤ 3) → Q (.ref p) H'
theorem ok_parts (T : Txt K mg) : FnOk P w K mg base CX0 4 T.a_law_parts T.d_law_parts ["_law_d", "_law_tokens"] (spParts K) := by
  have G_law_gap : FnOk P w K mg base CX0 3 T.a_law_gap T.d_law_gap ["_law_d", "_law_needed"] spGap := ok_gap T
  have G_law_runs_on : FnOk P w K mg base CX0 2 T.a_law_runs_on T.d_law_runs_on ["_law_one", "_law_two"] spRunsOn := ok_runs_on T
  refine T.D_law_parts.F.ok sc_law_parts (fun vs H Q E h => ?_) (fun cdv A outer s H vs Q E hr h => ?_)
  · obtain ⟨d, l, t, ts, rfl, _⟩ := h
    rfl
  · obtain ⟨d, l, t, ts, rfl, hD, htd, hS, hl, hts, q⟩ := h
    refine ⟨_, (pss_cons (ps_set (i := 2) sc_law_parts.nd rfl (.inl rfl) (pe_lst (pa_cons (pe_call G_law_gap (hr.mono (by decide)) (by rfl) T.D_law_gap.G T.D_law_gap.F.kp T.D_law_gap.B .nil pass0 (pa_cons (pv 0) (pa_cons pe_bl pa_nil))) pa_nil)))
      (pss_cons (ps_for PassesOwn.never rfl (pi_range1 (by rfl) T.n_range (pa_cons (pe_callB call_len_seq (by rfl) T.n_len PySem.boot_len (pa_cons (pv 1) pa_nil)) pa_nil)) (pg_name (i := 3) sc_law_parts.nd rfl (.inl rfl)) (pss_cons (ps_set (i := 4) sc_law_parts.nd rfl (.inl rfl) (pe_and (pe_cmpR op_lt (pe_op op_add (pv 3) pe_int) (pe_callB call_len_seq (by rfl) T.n_len PySem.boot_len (pa_cons (pv 1) pa_nil)) (nomark _)) (pe_one (pe_call G_law_runs_on (hr.mono (by decide)) (by rfl) T.D_law_runs_on.G T.D_law_runs_on.F.kp T.D_law_runs_on.B .nil pass0 (pa_cons (pe_ix ix_list (pv 1) (pv 3) (fun _ _ => rfl)) (pa_cons (pe_ix ix_list (pv 1) (pe_op op_add (pv 3) pe_int) (fun _ _ => rfl)) pa_nil))))))
      (pss_cons (ps_expr (pe_bm PySem.F.plainAttrs_list PySem.F.slot_list_append PySem.F.type_list_append mt_append (pv 2) (pa_cons (pe_ix ix_list (pv 1) (pv 3) (fun _ _ => rfl)) pa_nil)))
      (pss_one (ps_expr (pe_bm PySem.F.plainAttrs_list PySem.F.slot_list_append PySem.F.type_list_append mt_append (pv 2) (pa_cons (pe_call G_law_gap (hr.mono (by decide)) (by rfl) T.D_law_gap.G T.D_law_gap.F.kp T.D_law_gap.B .nil pass0 (pa_cons (pv 0) (pa_cons (pv 4) pa_nil))) pa_nil)))))))
      (pss_one (ps_ret (pv 2))))), ?_⟩
    refine ⟨_, rfl, d, l, _, rfl, hD, fun H1 g0 K1 D1 b0 l0 _ => ⟨by show 1 ≤ sizeLine; decide, fun p np => ?_⟩⟩
    have hn := D1.nd np
    have npH : H p = none := by
      cases e : H p with
      | none => rfl
      | some o => rw [K1 p o hn.1 e] at np; cases np
    have S1 : SqL K (upd H1 p (.lst [sV g0])) t (ts.map sV) := (K1.new np).sq htd hS
    refine ⟨_, rfl, t, _, rfl, .inl S1, _, rfl, by rw [List.length_map]; omega, by rw [List.length_map]; omega, ?_⟩
    refine for_range (lo := 0) (n := ((ts.map sV).length : Int).toNat) (fun i σ' H' => ∃ (gs : List (List Nat)) (x3 x4 : Option V), σ' = [some (.ref d), some (.ref t), some (.ref p), x3, x4] ∧ Kp d H H' ∧ DI d l H' ∧ H' p = some (.lst ((g0 :: inter (ts.take i) gs).map sV)) ∧ gs.length = i ∧
      (∀ k g, gs[k]? = some g → (Bl g ∧ (need ts k = true → g ≠ [])) ∧ g.length ≤ 3))
      ⟨[], none, none, rfl, K1.new np, D1.new np, upd_same, rfl, fun k g e => by simp at e⟩ ?_ ?_
    · rintro i σ' H2 hi ⟨gs, x3, x4, rfl, K2, D2, e2, el, hg⟩
      have hi2 : i < ts.length := by rw [List.length_map] at hi; omega
      have hS2 : SqL K H2 t (ts.map sV) := K2.sq htd hS
      have gi : ts[i]? = some ts[i] := List.getElem?_eq_getElem hi2
      have ev0 : ((0 : Int) + (i : Int)) = (i : Int) := Int.zero_add _
      -- needed
      refine ⟨_, rfl, _, _, rfl, rfl, _, rfl, t, _, rfl, .inl hS2, _, _, rfl, rfl, _, rfl, ?_⟩
      have hne : ∀ b : Bool, b = need ts i → (b = true → need ts i = true) := fun b e z => by rw [← e]; exact z
      -- what follows, for the right answer
      have goon : ∀ (b : Bool), b = need ts i → ∀ (Nx : L2.St → Hp → Prop), (∀ (g : List Nat) (H3 : Hp), Kp d H H3 → DI d l H3 → H3 p = some (.lst ((g0 :: inter (ts.take (i + 1)) (gs ++ [g])).map sV)) → Bl g → (need ts i = true → g ≠ []) → g.length ≤ 3 → Nx [some (.ref d), some (.ref t), some (.ref p), some (.int (0 + (i : Int))), some (.bl b)] H3) →
          ∀ (H2' : Hp), H2' p = some (.lst ((g0 :: inter (ts.take i) gs).map sV ++ [sV ts[i]])) → Kp d H H2' → DI d l H2' →
          spGap [.ref d, .bl b] H2' (fun y H3 => ∃ (l : Addr) (xs : List V) (y' : V), V.ref p = .ref l ∧ [y] = [y'] ∧ H3 l = some (.lst xs) ∧ xs.length < sizeLine ∧ Nx [some (.ref d), some (.ref t), some (.ref p), some (.int (0 + (i : Int))), some (.bl b)] (upd H3 l (.lst (xs ++ [y'])))) E0 := by
        intro b hb Nx hN H2' e3 K3 D3
        refine ⟨d, l, b, rfl, D3, fun H4 g K4 D4 bg lg ng => ?_⟩
        have e4 : H4 p = some (.lst ((g0 :: inter (ts.take i) gs).map sV ++ [sV ts[i]])) := K4 _ _ hn.1 e3
        refine ⟨p, _, _, rfl, rfl, e4, ?_, ?_⟩
        · have := inter_len (ts.take i) gs
          rw [List.length_append, List.length_map, List.length_cons]
          rw [List.length_take] at this
          refine Nat.lt_of_lt_of_le (show _ < 100000 from ?_) (by decide)
          show (inter (ts.take i) gs).length + 1 + 1 < 100000
          omega
        · refine hN g _ ((K3.trans K4).mut npH) (D4.at hn.1 hn.2) ?_ bg (fun z => ng (by rw [hb]; exact z)) lg
          rw [upd_same, take_succ' gi, inter_snoc _ _ _ _ (by rw [List.length_take]; omega), ← List.cons_append, List.map_append, List.append_assoc]
          rfl
      have fin : ∀ (b : Bool), b = need ts i → ∀ (σ4 : L2.St) (g : List Nat) (H3 : Hp), σ4 = [some (.ref d), some (.ref t), some (.ref p), some (.int (0 + (i : Int))), some (.bl b)] → Kp d H H3 → DI d l H3 → H3 p = some (.lst ((g0 :: inter (ts.take (i + 1)) (gs ++ [g])).map sV)) → Bl g → (need ts i = true → g ≠ []) → g.length ≤ 3 →
          ∃ (gs : List (List Nat)) (x3 x4 : Option V), σ4 = [some (.ref d), some (.ref t), some (.ref p), x3, x4] ∧ Kp d H H3 ∧ DI d l H3 ∧ H3 p = some (.lst ((g0 :: inter (ts.take (i + 1)) gs).map sV)) ∧ gs.length = i + 1 ∧ (∀ k g, gs[k]? = some g → (Bl g ∧ (need ts k = true → g ≠ [])) ∧ g.length ≤ 3) := by
        intro b hb σ4 g H3 e4 K3 D3 e3 bg ng lg
        refine ⟨gs ++ [g], _, _, e4, K3, D3, e3, by rw [List.length_append, el]; rfl, fun k g' e => ?_⟩
        by_cases hk : k < gs.length
        · rw [List.getElem?_append_left hk] at e
          exact hg k g' e
        · rw [List.getElem?_append_right (by omega)] at e
          have hk2 : k - gs.length = 0 := by
            have := (List.getElem?_eq_some_iff.mp e).1
            simp at this
            omega
          rw [hk2] at e
          have eg : g = g' := Option.some.inj e
          have ek : k = i := by omega
          subst eg ek
          exact ⟨⟨bg, ng⟩, lg⟩
      have app : ∀ (b : Bool), b = need ts i → ∀ (Nx : L2.St → Hp → Prop), (∀ σ4 H3, (∃ (gs : List (List Nat)) (x3 x4 : Option V), σ4 = [some (.ref d), some (.ref t), some (.ref p), x3, x4] ∧ Kp d H H3 ∧ DI d l H3 ∧ H3 p = some (.lst ((g0 :: inter (ts.take (i + 1)) gs).map sV)) ∧ gs.length = i + 1 ∧ (∀ k g, gs[k]? = some g → (Bl g ∧ (need ts k = true → g ≠ [])) ∧ g.length ≤ 3)) → Nx σ4 H3) →
          ∀ (H2' : Hp), H2' p = some (.lst ((g0 :: inter (ts.take i) gs).map sV ++ [sV ts[i]])) → Kp d H H2' → DI d l H2' →
          spGap [.ref d, .bl b] H2' (fun y H3 => ∃ (l : Addr) (xs : List V) (y' : V), V.ref p = .ref l ∧ [y] = [y'] ∧ H3 l = some (.lst xs) ∧ xs.length < sizeLine ∧ Nx [some (.ref d), some (.ref t), some (.ref p), some (.int (0 + (i : Int))), some (.bl b)] (upd H3 l (.lst (xs ++ [y'])))) E0 :=
        fun b hb Nx hN => goon b hb Nx fun g H3 K3 D3 e3 bg ng lg => hN _ H3 (fin b hb _ g H3 rfl K3 D3 e3 bg ng lg)
      have Dp2 : ∀ o, DI d l (upd H2 p o) := fun o => D2.at hn.1 hn.2
      have Kp2 : ∀ o, Kp d H (upd H2 p o) := fun o => K2.mut npH
      have sz1 : ((g0 :: inter (ts.take i) gs).map sV).length < sizeLine := by
        have := inter_len (ts.take i) gs
        rw [List.length_map, List.length_cons]
        rw [List.length_take] at this
        refine Nat.lt_of_lt_of_le (show _ < 100000 from ?_) (by decide)
        omega
      by_cases hi3 : i + 1 < ts.length
      · have e1 : decide ((0 : Int) + (i : Int) + 1 < (((ts.map sV).length : Nat) : Int)) = true := decide_eq_true (by rw [List.length_map]; omega)
        rw [e1]
        have gi2 : ts[i + 1]? = some ts[i + 1] := List.getElem?_eq_getElem hi3
        have hb : runs ts[i] ts[i + 1] = need ts i := by unfold need; rw [gi, gi2]
        have t1 := hts _ (List.getElem_mem hi2)
        have t2 := hts _ (List.getElem_mem hi3)
        refine ⟨_, rfl, _, rfl, t, _, _, _, rfl, rfl, hS2, at_of ev0 (get_sV gi), _, rfl, _, rfl, _, _, rfl, rfl, t, _, _, _, rfl, rfl, hS2, at_of (j := i + 1) (by omega) (get_sV gi2), ts[i], ts[i + 1], rfl, t1.1, t2.1, by omega, by omega, ?_⟩
        refine ⟨.ref p, rfl, .inl ⟨rfl, _, .inl (.inl e2)⟩, _, rfl, _, rfl, t, _, _, _, rfl, rfl, hS2, at_of ev0 (get_sV gi), p, _, _, rfl, rfl, e2, sz1, ?_⟩
        refine ⟨.ref p, rfl, .inl ⟨rfl, _, .inl (.inl upd_same)⟩, _, rfl, _, rfl, ?_⟩
        exact app _ hb _ (fun σ4 H3 h => h) _ upd_same (Kp2 _) (Dp2 _)
      · have e1 : decide ((0 : Int) + (i : Int) + 1 < (((ts.map sV).length : Nat) : Int)) = false := decide_eq_false (by rw [List.length_map]; omega)
        rw [e1]
        have hb : false = need ts i := by
          unfold need
          rw [List.getElem?_eq_none (l := ts) (i := i + 1) (by omega), gi]
        refine ⟨.ref p, rfl, .inl ⟨rfl, _, .inl (.inl e2)⟩, _, rfl, _, rfl, t, _, _, _, rfl, rfl, hS2, at_of ev0 (get_sV gi), p, _, _, rfl, rfl, e2, sz1, ?_⟩
        refine ⟨.ref p, rfl, .inl ⟨rfl, _, .inl (.inl upd_same)⟩, _, rfl, _, rfl, ?_⟩
        exact app _ hb _ (fun σ4 H3 h => h) _ upd_same (Kp2 _) (Dp2 _)
    · rintro σ' H2 ⟨gs, x3, x4, rfl, K2, D2, e2, el, hg⟩
      have el2 : gs.length = ts.length := by rw [List.length_map] at el; omega
      have et : ts.take ((ts.map sV).length : Int).toNat = ts := List.take_of_length_le (by rw [List.length_map]; omega)
      rw [et] at e2
      exact ⟨_, rfl, q H2 p g0 gs K2 D2 npH e2 b0 l0 el2 hg⟩
def spWalked : Sp := fun vs H Q _ => ∃ z : Str, vs = [.str z] ∧ z.length ≤ 100000 ∧ ∀ H' p, Same H H' → H p = none → H' p = some (.tup ((tok z.cps.toList).map sV)) → Q (.ref p) H'
end
end Vf

set_option Elab.async false
set_option linter.all false
set_option maxRecDepth 100000
set_option maxHeartbeats 4000000
namespace Vf
open PySem PySem.Spec PyProof.Rows L2 TL
theorem take_tw (p : Nat → Bool) : ∀ r : List Nat, r.take (r.takeWhile p).length = r.takeWhile p ∧ r.drop (r.takeWhile p).length = r.dropWhile p
  | [] => ⟨rfl, rfl⟩
  | c :: r => by
    have ⟨a, b⟩ := take_tw p r
    cases h : p c with
    | true =>
      rw [List.takeWhile_cons_of_pos h, List.dropWhile_cons_of_pos h]
      exact ⟨congrArg (List.cons c) a, b⟩
    | false =>
      rw [List.takeWhile_cons_of_neg (by rw [h]; decide), List.dropWhile_cons_of_neg (by rw [h]; decide)]
      exact ⟨rfl, rfl⟩
theorem tw_le (p : Nat → Bool) : ∀ r : List Nat, (r.takeWhile p).length ≤ r.length
  | [] => Nat.le_refl _
  | c :: r => by
    cases h : p c with
    | true => rw [List.takeWhile_cons_of_pos h]; exact Nat.succ_le_succ (tw_le p r)
    | false => rw [List.takeWhile_cons_of_neg (by rw [h]; decide)]; exact Nat.zero_le _
/-- where the token that begins at place i ends -/
def tend (zs : List Nat) (i : Nat) : Nat := match zs.drop i with
  | [] => i
  | c :: r => if c = 64 then i + 1 + (r.takeWhile cL).length else if cW c then i + 1 + (r.takeWhile cW).length else i + 1
theorem tend_le {zs : List Nat} {i : Nat} (h : i < zs.length) : i < tend zs i ∧ tend zs i ≤ zs.length := by
  have hd := drop_at (List.getElem?_eq_getElem h)
  have hl : (zs.drop (i + 1)).length = zs.length - (i + 1) := List.length_drop
  have h1 := tw_le cL (zs.drop (i + 1))
  have h2 := tw_le cW (zs.drop (i + 1))
  have et : tend zs i = if zs[i] = 64 then i + 1 + ((zs.drop (i + 1)).takeWhile cL).length else if cW zs[i] then i + 1 + ((zs.drop (i + 1)).takeWhile cW).length else i + 1 := by
    unfold tend
    rw [hd]
  by_cases c1 : zs[i] = 64
  · rw [if_pos c1] at et; omega
  · rw [if_neg c1] at et
    by_cases c2 : cW zs[i] = true
    · rw [if_pos c2] at et; omega
    · rw [if_neg c2] at et; omega
theorem tok_step {zs : List Nat} {i c : Nat} (h : zs[i]? = some c) (hb : cB c = false) : tok (zs.drop i) = (zs.drop i).take (tend zs i - i) :: tok (zs.drop (tend zs i)) := by
  have hd := drop_at h
  unfold tend
  rw [hd]
  show tok (c :: _) = (c :: _).take ((if _ then _ else _) - i) :: tok (zs.drop (if _ then _ else _))
  rw [tok_cons, if_neg (by rw [hb]; decide)]
  have e0 : ∀ n, (i + 1 + n) - i = n + 1 := fun n => by omega
  have e1 : ∀ n, zs.drop (i + 1 + n) = (zs.drop (i + 1)).drop n := fun n => by rw [List.drop_drop]
  have ⟨a1, b1⟩ := take_tw cL (zs.drop (i + 1))
  have ⟨a2, b2⟩ := take_tw cW (zs.drop (i + 1))
  by_cases h1 : c = 64
  · rw [if_pos h1, if_pos h1, e0, e1, List.take_succ_cons, a1, b1]
  · rw [if_neg h1, if_neg h1]
    by_cases h2 : cW c = true
    · rw [if_pos h2, if_pos h2, e0, e1, List.take_succ_cons, a2, b2]
    · rw [if_neg h2, if_neg h2, show i + 1 - i = 0 + 1 from by omega, List.take_succ_cons, List.take_zero]
theorem cut_mk {z : Str} {i e : Nat} (h1 : i ≤ z.cps.toList.length) (h2 : e ≤ z.cps.toList.length) : cutS z (some (i : Int)) (some (e : Int)) = mkS ((z.cps.toList.drop i).take (e - i)) := by
  unfold cutS
  rw [HT.sIx_nat, HT.sIx_nat, len_cps, Nat.min_eq_left h1, Nat.min_eq_left h2]
  rfl
section
variable {P : Program} {w : World} {K : PySem.W.Frag} {mg : Str → Option Value} {base : Heap}
/-! ### the program -/
def spRunEnd : Sp := fun vs H Q _ => ∃ (z a : Str) (i : Nat), vs = [.str z, .int (i : Int), .str a] ∧ i ≤ z.cps.toList.length ∧ z.length ≤ 100000 ∧
  Q (.int ((i + ((z.cps.toList.drop i).takeWhile fun c => decide (c ∈ a.cps.toList)).length : Nat) : Int)) H
theorem ok_run_end (T : Txt K mg) : FnOk P w K mg base CX0 1 T.a_run_end T.d_run_end ["text", "at", "allowed"] spRunEnd := by
  refine T.D_run_end.F.ok sc_run_end (fun vs H Q E h => ?_) (fun cdv A outer s H vs Q E hr h => ?_)
  · obtain ⟨z, a, i, rfl, _⟩ := h
    rfl
  · obtain ⟨z, a, i, rfl, hi, hz, q⟩ := h
    refine ⟨_, (pss_cons (ps_while PassesOwn.never (PW.pt (pw_and (pt_cmpR op_lt (pv 1) (pe_callB call_len_str (by rfl) T.n_len PySem.boot_len (pa_cons (pv 0) pa_nil)) (nomark _)) (pw_and1 (pt_cmpR op_in_sign (pe_ix ix_str (pv 0) (pv 1) (fun _ _ => rfl)) (pv 2) (by rfl))))) (pss_one (ps_aug (i := 1) sc_run_end.nd rfl (.inl rfl) pe_int ip_add)))
      (pss_one (ps_ret (pv 1)))), ?_⟩
    have hsz : z.cps.toList.length ≤ 100000 := by rw [← len_cps]; exact hz
    have hzl : z.length ≤ sizeLine := big_ok hz
    refine ⟨fun m σ H' => H' = H ∧ ∃ j : Nat, m = z.cps.toList.length - j ∧ j ≤ z.cps.toList.length ∧ σ = [some (.str z), some (.int (j : Int)), some (.str a)] ∧
      j + ((z.cps.toList.drop j).takeWhile fun c => decide (c ∈ a.cps.toList)).length = i + ((z.cps.toList.drop i).takeWhile fun c => decide (c ∈ a.cps.toList)).length,
      ⟨_, rfl, i, rfl, hi, rfl, rfl⟩, fun m σ H' hW => ?_⟩
    obtain ⟨rfl, j, rfl, hj, rfl, e⟩ := hW
    by_cases h1 : j < z.cps.toList.length
    · have gc : z.cps.toList[j]? = some z.cps.toList[j] := List.getElem?_eq_getElem h1
      rw [drop_at gc] at e
      refine ⟨_, rfl, _, rfl, z, rfl, hzl, _, _, rfl, rfl, true, bl_of (decide_eq_true (by rw [len_cps]; omega)), _, rfl, _, rfl, z, _, _, rfl, rfl, hzl, atI_nat gc, _, rfl, _, _, rfl, rfl, ?_⟩
      rcases tf (decide (z.cps.toList[j] ∈ a.cps.toList)) with h2 | h2
      · rw [List.takeWhile_cons_of_pos (p := fun c => decide (c ∈ a.cps.toList)) h2] at e
        refine ⟨true, bl_of h2, fun σ' H1 => H1 = H' ∧ ∃ j' : Nat, j' = j + 1 ∧ σ' = [some (.str z), some (.int (j' : Int)), some (.str a)], fun σ' H1 hN => ?_, ?_⟩
        · obtain ⟨rfl, j', rfl, rfl⟩ := hN
          exact ⟨_, by omega, rfl, j + 1, rfl, h1, rfl, by rw [← e]; show _ = j + (_ + 1); omega⟩
        · exact ⟨_, rfl, _, _, rfl, rfl, rfl, j + 1, rfl, rfl⟩
      · rw [List.takeWhile_cons_of_neg (p := fun c => decide (c ∈ a.cps.toList)) (by rw [h2]; decide)] at e
        refine ⟨false, bl_of h2, _, rfl, ?_⟩
        rw [← e] at q
        exact q
    · have ej : j = z.cps.toList.length := by omega
      refine ⟨_, rfl, _, rfl, z, rfl, hzl, _, _, rfl, rfl, false, bl_of (decide_eq_false (by rw [len_cps]; omega)), _, rfl, ?_⟩
      rw [List.drop_of_length_le (by omega)] at e
      rw [← e] at q
      exact q
def spTokenEnd : Sp := fun vs H Q _ => ∃ (z : Str) (i : Nat), vs = [.str z, .int (i : Int)] ∧ i < z.cps.toList.length ∧ z.length ≤ 100000 ∧ Q (.int (tend z.cps.toList i : Int)) H
theorem ok_token_end (T : Txt K mg) : FnOk P w K mg base CX0 2 T.a_token_end T.d_token_end ["text", "at"] spTokenEnd := by
  have G_run_end : FnOk P w K mg base CX0 1 T.a_run_end T.d_run_end ["text", "at", "allowed"] spRunEnd := ok_run_end T
  refine T.D_token_end.F.ok sc_token_end (fun vs H Q E h => ?_) (fun cdv A outer s H vs Q E hr h => ?_)
  · obtain ⟨z, i, rfl, _⟩ := h
    rfl
  · obtain ⟨z, i, rfl, hi, hz, q⟩ := h
    refine ⟨_, (pss_cons (ps_if (pt_cmpR op_eq (pe_ix ix_str (pv 0) (pv 1) (fun _ _ => rfl)) pe_str (nomark _)) (pss_one (ps_ret (pe_call G_run_end (hr.mono (by decide)) (by rfl) T.D_run_end.G T.D_run_end.F.kp T.D_run_end.B .nil pass0 (pa_cons (pv 0) (pa_cons (pe_op op_add (pv 1) pe_int) (pa_cons (pe_glob (v := .str "abcdefghijklmnopqrstuvwxyz") (by rfl) T.m_LETTERS ⟨_, rfl⟩) pa_nil)))))) pss_nil)
      (pss_cons (ps_if (pt_cmpR op_in_sign (pe_ix ix_str (pv 0) (pv 1) (fun _ _ => rfl)) (pe_glob (v := .str "abcdefghijklmnopqrstuvwxyz0123456789.,:;!?'()+=<>*/") (by rfl) T.m_WORD_CHARACTERS ⟨_, rfl⟩) (by rfl)) (pss_one (ps_ret (pe_call G_run_end (hr.mono (by decide)) (by rfl) T.D_run_end.G T.D_run_end.F.kp T.D_run_end.B .nil pass0 (pa_cons (pv 0) (pa_cons (pv 1) (pa_cons (pe_glob (v := .str "abcdefghijklmnopqrstuvwxyz0123456789.,:;!?'()+=<>*/") (by rfl) T.m_WORD_CHARACTERS ⟨_, rfl⟩) pa_nil)))))) pss_nil)
      (pss_one (ps_ret (pe_op op_add (pv 1) pe_int))))), ?_⟩
    have hzl : z.length ≤ sizeLine := big_ok hz
    have gc : z.cps.toList[i]? = some z.cps.toList[i] := List.getElem?_eq_getElem hi
    have hd := drop_at gc
    have et : tend z.cps.toList i = if z.cps.toList[i] = 64 then i + 1 + ((z.cps.toList.drop (i + 1)).takeWhile cL).length else if cW z.cps.toList[i] then i + 1 + ((z.cps.toList.drop (i + 1)).takeWhile cW).length else i + 1 := by
      unfold tend
      rw [hd]
    refine ⟨_, rfl, _, rfl, z, _, _, rfl, rfl, hzl, atI_nat gc, rfl, ?_⟩
    by_cases h1 : z.cps.toList[i] = 64
    · rw [if_pos h1] at et
      refine ⟨true, bl_of ((dec_sign _ _ 64 at_mk).trans (decide_eq_true h1)), _, rfl, _, rfl, _, _, rfl, rfl, z, _, i + 1, rfl, hi, hz, ?_⟩
      rw [et] at q
      exact q
    · rw [if_neg h1] at et
      refine ⟨false, bl_of ((dec_sign _ _ 64 at_mk).trans (decide_eq_false h1)), _, rfl, _, rfl, z, _, _, rfl, rfl, hzl, atI_nat gc, _, _, rfl, rfl, ?_⟩
      rcases tf (cW z.cps.toList[i]) with h2 | h2
      · rw [if_pos h2] at et
        refine ⟨true, congrArg V.bl h2, _, rfl, _, rfl, z, _, i, rfl, by omega, hz, ?_⟩
        rw [et] at q
        have e3 : i + ((z.cps.toList.drop i).takeWhile cW).length = i + 1 + ((z.cps.toList.drop (i + 1)).takeWhile cW).length := by
          rw [hd, List.takeWhile_cons_of_pos h2]
          show i + (_ + 1) = _
          omega
        rw [← e3] at q
        exact q
      · rw [if_neg (by rw [h2]; decide)] at et
        refine ⟨false, congrArg V.bl h2, _, rfl, _, _, rfl, rfl, ?_⟩
        rw [et] at q
        exact q
theorem ok_tokens_of (T : Txt K mg) : FnOk P w K mg base CX0 3 T.a_tokens_of T.d_tokens_of ["text"] spWalked := by
  have G_token_end : FnOk P w K mg base CX0 2 T.a_token_end T.d_token_end ["text", "at"] spTokenEnd := ok_token_end T
  refine T.D_tokens_of.F.ok sc_tokens_of (fun vs H Q E h => ?_) (fun cdv A outer s H vs Q E hr h => ?_)
  · obtain ⟨z, rfl, _⟩ := h
    rfl
  · obtain ⟨z, rfl, hz, q⟩ := h
    refine ⟨_, (pss_cons (ps_set (i := 1) sc_tokens_of.nd rfl (.inl rfl) (pe_lst pa_nil))
      (pss_cons (ps_set (i := 2) sc_tokens_of.nd rfl (.inl rfl) pe_int)
      (pss_cons (ps_while PassesOwn.never (pt_cmpR op_lt (pv 2) (pe_callB call_len_str (by rfl) T.n_len PySem.boot_len (pa_cons (pv 0) pa_nil)) (nomark _)) (pss_one (ps_if (pt_cmpR op_in_sign (pe_ix ix_str (pv 0) (pv 2) (fun _ _ => rfl)) (pe_glob (v := .str " \n") (by rfl) T.m_BLANKS ⟨_, rfl⟩) (by rfl)) (pss_one (ps_aug (i := 2) sc_tokens_of.nd rfl (.inl rfl) pe_int ip_add)) (pss_cons (ps_set (i := 3) sc_tokens_of.nd rfl (.inl rfl) (pe_call G_token_end (hr.mono (by decide)) (by rfl) T.D_token_end.G T.D_token_end.F.kp T.D_token_end.B .nil pass0 (pa_cons (pv 0) (pa_cons (pv 2) pa_nil))))
      (pss_cons (ps_expr (pe_bm PySem.F.plainAttrs_list PySem.F.slot_list_append PySem.F.type_list_append mt_append (pv 1) (pa_cons (pe_slice sl_str (pv 0) (po_some (pv 2)) (po_some (pv 3))) pa_nil)))
      (pss_one (ps_set (i := 2) sc_tokens_of.nd rfl (.inl rfl) (pv 3))))))))
      (pss_one (ps_ret (pe_callTy call_tuple_of (by rfl) T.n_tuple (by decide +kernel) (pa_cons (pv 1) pa_nil))))))), ?_⟩
    have hzl : z.length ≤ sizeLine := big_ok hz
    have hsz : z.cps.toList.length ≤ 100000 := by rw [← len_cps]; exact hz
    refine ⟨by show 0 ≤ sizeLine; decide, fun p np => ?_⟩
    refine ⟨fun m σ H' => ∃ (j : Nat) (f : List (List Nat)) (x3 : Option V), m = z.cps.toList.length - j ∧ j ≤ z.cps.toList.length ∧ σ = [some (.str z), some (.ref p), some (.int (j : Int)), x3] ∧ H' p = some (.lst (f.map sV)) ∧ Same H H' ∧ f.length ≤ j ∧
      f ++ tok (z.cps.toList.drop j) = tok z.cps.toList,
      ⟨_, 0, [], none, rfl, Nat.zero_le _, rfl, upd_same, same_upd (Same.refl H) np, Nat.le_refl _, rfl⟩, fun m σ H' hW => ?_⟩
    obtain ⟨j, f, x3, rfl, hj, rfl, e1, s1, fl, hf⟩ := hW
    by_cases h1 : j < z.cps.toList.length
    · have gc : z.cps.toList[j]? = some z.cps.toList[j] := List.getElem?_eq_getElem h1
      refine ⟨_, rfl, _, rfl, z, rfl, hzl, _, _, rfl, rfl, true, bl_of (decide_eq_true (by rw [len_cps]; omega)), ?_⟩
      refine ⟨fun σ' H1 => ∃ (j' : Nat) (f : List (List Nat)) (x3 : Option V), j < j' ∧ j' ≤ z.cps.toList.length ∧ σ' = [some (.str z), some (.ref p), some (.int (j' : Int)), x3] ∧ H1 p = some (.lst (f.map sV)) ∧ Same H H1 ∧ f.length ≤ j' ∧ f ++ tok (z.cps.toList.drop j') = tok z.cps.toList, fun σ' H1 hN => ?_, ?_⟩
      · obtain ⟨j', f', x3', l1, l2, rfl, r⟩ := hN
        exact ⟨_, by omega, j', f', x3', rfl, l2, rfl, r⟩
      · refine ⟨_, rfl, _, rfl, z, _, _, rfl, rfl, hzl, atI_nat gc, _, _, rfl, rfl, ?_⟩
        rcases tf (cB z.cps.toList[j]) with h2 | h2
        · refine ⟨true, congrArg V.bl h2, _, rfl, _, _, rfl, rfl, j + 1, f, x3, Nat.lt_succ_self _, h1, rfl, e1, s1, by omega, ?_⟩
          rw [drop_at gc, tok_cons, if_pos h2] at hf
          exact hf
        · have ⟨t1, t2⟩ := tend_le h1
          refine ⟨false, congrArg V.bl h2, _, rfl, _, rfl, z, j, rfl, h1, hz, ?_⟩
          refine ⟨.ref p, rfl, .inl ⟨rfl, _, .inl (.inl e1)⟩, _, rfl, ⟨_, rfl, _, rfl, _, rfl, _, rfl, z, rfl, hzl, ?_⟩⟩
          refine ⟨p, _, _, rfl, rfl, e1, ?_, ?_⟩
          · rw [List.length_map]
            exact Nat.lt_of_le_of_lt fl (Nat.lt_of_lt_of_le h1 (Nat.le_trans hsz (by decide)))
          · refine ⟨_, rfl, tend z.cps.toList j, f ++ [(z.cps.toList.drop j).take (tend z.cps.toList j - j)], _, t1, t2, rfl, ?_, same_mut s1 np, ?_, ?_⟩
            · rw [upd_same, List.map_append, cut_mk hj t2]; rfl
            · rw [List.length_append]; show f.length + 1 ≤ _; omega
            · rw [tok_step gc h2] at hf
              rw [List.append_assoc]
              exact hf
    · refine ⟨_, rfl, _, rfl, z, rfl, hzl, _, _, rfl, rfl, false, bl_of (decide_eq_false (by rw [len_cps]; omega)), ?_⟩
      rw [List.drop_of_length_le (by omega), tok_nil, List.append_nil] at hf
      refine ⟨_, rfl, p, _, rfl, .inl ⟨SqL.of e1, fun u nu => ?_⟩⟩
      refine q _ u (same_upd s1 nu) (s1.free nu) ?_
      rw [upd_same, hf]
end
end Vf

set_option Elab.async false
set_option linter.all false
set_option maxRecDepth 100000
set_option maxHeartbeats 4000000
namespace Vf
open PySem PySem.Spec PyProof.Rows L2 TL
/-! ### tokens that a tree has, from left to right -/
/-- a brace can follow -/
def free (ts : List (List Nat)) : Bool := match ts.getLast? with
  | none => false
  | some t => decide (t = [125]) || decide (t.head? = some 64)
theorem free_snoc (ts : List (List Nat)) (t : List Nat) : free (ts ++ [t]) = (decide (t = [125]) || decide (t.head? = some 64)) := by
  unfold free
  rw [List.getLast?_concat]
inductive Wk (most : Nat) : List (List Nat) → Nat → Prop
  | nil : Wk most [] 0
  | opn {ts dp} : Wk most ts dp → free ts = true → dp < most → Wk most (ts ++ [[123]]) (dp + 1)
  | cls {ts dp} : Wk most ts (dp + 1) → Wk most (ts ++ [[125]]) dp
  | call {ts dp n} : Wk most ts dp → RName n → Wk most (ts ++ [64 :: n]) dp
  | word {ts dp z} : Wk most ts dp → RWord z → Wk most (ts ++ [z]) dp
theorem snoc_inj {a b : List (List Nat)} {x y : List Nat} (h : a ++ [x] = b ++ [y]) : a = b ∧ x = y := by
  have ⟨h1, h2⟩ := List.append_inj' h rfl
  exact ⟨h1, by injection h2⟩
theorem Wk.inv {most : Nat} {us : List (List Nat)} {dp : Nat} (h : Wk most us dp) : ∀ {ts : List (List Nat)} {x : List Nat}, us = ts ++ [x] →
    (x = [123] ∧ free ts = true ∧ ∃ d, dp = d + 1 ∧ d < most ∧ Wk most ts d) ∨ (x = [125] ∧ Wk most ts (dp + 1)) ∨ (∃ n, x = 64 :: n ∧ RName n ∧ Wk most ts dp) ∨ (RWord x ∧ Wk most ts dp) := by
  intro ts x e
  cases h with
  | nil => exact absurd e (by intro z; exact absurd (congrArg List.length z) (by simp))
  | opn a b c =>
    obtain ⟨rfl, rfl⟩ := snoc_inj e
    exact .inl ⟨rfl, b, _, rfl, c, a⟩
  | cls a =>
    obtain ⟨rfl, rfl⟩ := snoc_inj e
    exact .inr (.inl ⟨rfl, a⟩)
  | call a b =>
    obtain ⟨rfl, rfl⟩ := snoc_inj e
    exact .inr (.inr (.inl ⟨_, rfl, b, a⟩))
  | word a b =>
    obtain ⟨rfl, rfl⟩ := snoc_inj e
    exact .inr (.inr (.inr ⟨b, a⟩))
theorem Wk.pre {most : Nat} : ∀ (us ts : List (List Nat)) (dp : Nat), Wk most (ts ++ us) dp → ∃ d, Wk most ts d
  | [], ts, dp, h => by rw [List.append_nil] at h; exact ⟨dp, h⟩
  | u :: us, ts, dp, h => by
    have h2 : Wk most ((ts ++ [u]) ++ us) dp := by rw [List.append_assoc]; exact h
    obtain ⟨d, h3⟩ := Wk.pre us (ts ++ [u]) dp h2
    rcases h3.inv rfl with ⟨_, _, d2, _, _, h4⟩ | ⟨_, h4⟩ | ⟨_, _, _, h4⟩ | ⟨_, h4⟩ <;> exact ⟨_, h4⟩
theorem Wk.closed {most : Nat} : ∀ (dp : Nat) (ts : List (List Nat)), Wk most ts dp → Wk most (ts ++ List.replicate dp [125]) 0
  | 0, ts, h => by rw [List.replicate_zero, List.append_nil]; exact h
  | d + 1, ts, h => by
    have h2 := Wk.closed d (ts ++ [[125]]) (.cls h)
    rw [List.append_assoc] at h2
    exact h2
theorem Wk.dep_le {most : Nat} {ts : List (List Nat)} {dp : Nat} (h : Wk most ts dp) : dp ≤ most := by
  induction h with
  | nil => exact Nat.zero_le _
  | opn _ _ c _ => exact c
  | cls _ ih => omega
  | call _ _ ih => exact ih
  | word _ _ ih => exact ih
theorem Wk.tok_len {most : Nat} {ts : List (List Nat)} {dp : Nat} (h : Wk most ts dp) : ∀ z ∈ ts, z.length ≤ 17 ∧ z ≠ [] := by
  induction h with
  | nil => exact fun _ h => nomatch h
  | opn _ _ _ ih =>
    intro z hz
    rcases List.mem_append.mp hz with h | h
    · exact ih z h
    · rw [List.mem_singleton.mp h]; exact ⟨by show 1 ≤ 17; decide, by simp⟩
  | cls _ ih =>
    intro z hz
    rcases List.mem_append.mp hz with h | h
    · exact ih z h
    · rw [List.mem_singleton.mp h]; exact ⟨by show 1 ≤ 17; decide, by simp⟩
  | call _ b ih =>
    intro z hz
    rcases List.mem_append.mp hz with h | h
    · exact ih z h
    · rw [List.mem_singleton.mp h]
      have := b.len
      exact ⟨by rw [List.length_cons]; omega, by simp⟩
  | word _ b ih =>
    intro z hz
    rcases List.mem_append.mp hz with h | h
    · exact ih z h
    · rw [List.mem_singleton.mp h]
      have := b.len
      exact ⟨by omega, b.1⟩
/-- a word begins with no sign of its own kind -/
theorem RWord.head {z : List Nat} (h : RWord z) : z.head? ≠ some 64 ∧ z ≠ [123] ∧ z ≠ [125] := by
  refine ⟨fun e => ?_, fun e => ?_, fun e => ?_⟩
  · cases z with
    | nil => cases e
    | cons c r =>
      have e2 : c = 64 := Option.some.inj e
      exact cW_ne (h.2.2 c List.mem_cons_self) e2
  · have h1 := h.2.2 123 (by rw [e]; exact List.mem_cons_self)
    unfold cW at h1
    rw [sW_list] at h1
    exact absurd h1 (by decide)
  · have h1 := h.2.2 125 (by rw [e]; exact List.mem_cons_self)
    unfold cW at h1
    rw [sW_list] at h1
    exact absurd h1 (by decide)
/-- a value of a text compared with a written one -/
theorem dec_txt {z : List Nat} {y : Str} {e : List Nat} (hy : y = mkS e) : decide (sV z = V.str y) = decide (z = e) := by
  rw [hy]
  by_cases h : z = e
  · subst h; rw [decide_eq_true rfl]; exact decide_eq_true rfl
  · rw [decide_eq_false h]
    exact decide_eq_false fun q => h (mkS_inj (V.str.inj q))
theorem dec_head {z : List Nat} (hz : z ≠ []) : decide (V.str ⟨#[z.headD 0]⟩ = V.str ("@" : Str)) = decide (z.head? = some 64) := by
  cases z with
  | nil => exact absurd rfl hz
  | cons c r =>
    show decide (V.str ⟨#[c]⟩ = V.str ("@" : Str)) = decide (some c = some 64)
    rw [dec_sign c _ 64 at_mk]
    by_cases h : c = 64
    · subst h; rfl
    · rw [decide_eq_false h]
      exact (decide_eq_false fun e => h (Option.some.inj e)).symm
theorem head0_at {t : List Nat} (h : t ≠ []) : atI t 0 = some (t.headD 0) := by
  cases t with
  | nil => exact absurd rfl h
  | cons c r => exact atI_nat (j := 0) rfl
theorem at_end {α : Type} {ts : List α} {t : α} (h : ts.getLast? = some t) : atI ts (-1) = some t := by
  have ⟨h1, h2⟩ := List.getLast?_eq_some_iff.mp h
  rw [h2]
  exact atI_last _ _
section
variable {P : Program} {w : World} {K : PySem.W.Frag} {mg : Str → Option Value} {base : Heap}
def spWalkT : Sp := fun vs H Q _ => ∃ (d l : Addr) (many : Int) (most : Nat), vs = [.ref d, .int many, .int (most : Int)] ∧ DI d l H ∧ 0 ≤ many ∧ many ≤ 200 ∧ 3 ≤ most ∧ most ≤ 30 ∧
  ∀ H' p ts, Kp d H H' → DI d l H' → H p = none → H' p = some (.lst (ts.map sV)) → Wk most ts 0 → ts.length ≤ 1000 → Q (.ref p) H'
theorem flat_rep (n : Nat) : (List.replicate n [V.str ("}" : Str)]).flatten = (List.replicate n [125]).map sV := by
  induction n with
  | zero => rfl
  | succ n ih =>
    rw [List.replicate_succ, List.replicate_succ, List.flatten_cons, ih, List.map_cons, ← brC_sV]
    rfl
theorem ok_token_walk (T : Txt K mg) : FnOk P w K mg base CX0 5 T.a_law_token_walk T.d_law_token_walk ["_law_d", "_law_many", "_law_most"] spWalkT := by
  have G_law_draw : FnOk P w K mg base CX0 1 T.a_law_draw T.d_law_draw ["_law_d", "_law_many"] spDraw := ok_draw T
  have G_law_pick : FnOk P w K mg base CX0 2 T.a_law_pick T.d_law_pick ["_law_d", "_law_row"] (spPick K) := ok_pick T
  have G_law_some_word : FnOk P w K mg base CX0 4 T.a_law_some_word T.d_law_some_word ["_law_d"] (spStr RWord) := ok_some_word T
  have G_law_some_name : FnOk P w K mg base CX0 4 T.a_law_some_name T.d_law_some_name ["_law_d"] (spStr RName) := ok_some_name T
  refine T.D_law_token_walk.F.ok sc_law_token_walk (fun vs H Q E h => ?_) (fun cdv A outer s H vs Q E hr h => ?_)
  · obtain ⟨d, l, many, most, rfl, _⟩ := h
    rfl
  · obtain ⟨d, l, many, most, rfl, hD, m0, m1, h3, h30, q⟩ := h
    refine ⟨_, (pss_cons (ps_set (i := 3) sc_law_token_walk.nd rfl (.inl rfl) (pe_lst pa_nil))
      (Evl.pss_cut (ps_if (pt_cmpR op_eq (pe_call G_law_draw (hr.mono (by decide)) (by rfl) T.D_law_draw.G T.D_law_draw.F.kp T.D_law_draw.B .nil pass0 (pa_cons (pv 0) (pa_cons pe_int pa_nil))) pe_int (nomark _)) (pss_one (ps_for PassesOwn.never rfl (pi_range1 (by rfl) T.n_range (pa_cons (pe_op op_sub (pv 2) (pe_call G_law_draw (hr.mono (by decide)) (by rfl) T.D_law_draw.G T.D_law_draw.F.kp T.D_law_draw.B .nil pass0 (pa_cons (pv 0) (pa_cons pe_int pa_nil)))) pa_nil)) (pg_name (i := 4) sc_law_token_walk.nd rfl (.inl rfl)) (pss_cons (ps_expr (pe_bm PySem.F.plainAttrs_list PySem.F.slot_list_append PySem.F.type_list_append mt_append (pv 3) (pa_cons (pe_op op_add_str pe_str (pe_call G_law_some_name (hr.mono (by decide)) (by rfl) T.D_law_some_name.G T.D_law_some_name.F.kp T.D_law_some_name.B .nil pass0 (pa_cons (pv 0) pa_nil))) pa_nil)))
      (pss_one (ps_expr (pe_bm PySem.F.plainAttrs_list PySem.F.slot_list_append PySem.F.type_list_append mt_append (pv 3) (pa_cons pe_str pa_nil))))))) pss_nil)
      (Evl.pss_cut (ps_set (i := 5) sc_law_token_walk.nd rfl (.inl rfl) (pe_op op_fdivN (pe_callB call_len_seq (by rfl) T.n_len PySem.boot_len (pa_cons (pv 3) pa_nil)) pe_int))
      (pss_cons (ps_set (i := 6) sc_law_token_walk.nd rfl (.inl rfl) (pe_call G_law_pick (hr.mono (by decide)) (by rfl) T.D_law_pick.G T.D_law_pick.F.kp T.D_law_pick.B .nil pass0 (pa_cons (pv 0) (pa_cons (pe_lst (pa_cons pe_str (pa_cons pe_str (pa_cons pe_str (pa_cons pe_str pa_nil))))) pa_nil))))
      (pss_cons (ps_for PassesOwn.never rfl (pi_range1 (by rfl) T.n_range (pa_cons (pv 1) pa_nil)) (pg_name (i := 4) sc_law_token_walk.nd rfl (.inl rfl)) (pss_cons (ps_set (i := 7) sc_law_token_walk.nd rfl (.inl rfl) (pe_call G_law_pick (hr.mono (by decide)) (by rfl) T.D_law_pick.G T.D_law_pick.F.kp T.D_law_pick.B .nil pass0 (pa_cons (pv 0) (pa_cons (pv 6) pa_nil))))
      (Evl.pss_cut (ps_set (i := 8) sc_law_token_walk.nd rfl (.inl rfl) (pe_and (pe_cmpR op_gt (pe_callB call_len_seq (by rfl) T.n_len PySem.boot_len (pa_cons (pv 3) pa_nil)) pe_int (nomark _)) (pe_one (pe_or (pe_cmpR op_eq (pe_ix ix_list (pv 3) (pe_un un_neg pe_int) (fun _ _ => rfl)) pe_str (nomark _)) (pe_one (pe_cmpR op_eq (pe_ix ix_str (pe_ix ix_list (pv 3) (pe_un un_neg pe_int) (fun _ _ => rfl)) pe_int (fun _ _ => rfl)) pe_str (nomark _)))))))
      (pss_one (ps_if (PW.pt (pw_and (pt_cmpR op_eq (pv 7) pe_str (nomark _)) (pw_and (pt_val (pv 8)) (pw_and1 (pt_cmpR op_lt (pv 5) (pv 2) (nomark _)))))) (pss_cons (ps_expr (pe_bm PySem.F.plainAttrs_list PySem.F.slot_list_append PySem.F.type_list_append mt_append (pv 3) (pa_cons pe_str pa_nil)))
      (pss_one (ps_set (i := 5) sc_law_token_walk.nd rfl (.inl rfl) (pe_op op_add (pv 5) pe_int)))) (pss_one (ps_if (PW.pt (pw_and (pt_cmpR op_eq (pv 7) pe_str (nomark _)) (pw_and (pt_val (pv 8)) (pw_and1 (pt_cmpR op_lt (pv 5) (pv 2) (nomark _)))))) (pss_cons (ps_expr (pe_bm PySem.F.plainAttrs_list PySem.F.slot_list_append PySem.F.type_list_append mt_append (pv 3) (pa_cons pe_str pa_nil)))
      (pss_one (ps_expr (pe_bm PySem.F.plainAttrs_list PySem.F.slot_list_append PySem.F.type_list_append mt_append (pv 3) (pa_cons pe_str pa_nil))))) (pss_one (ps_if (PW.pt (pw_and (pt_cmpR op_eq (pv 7) pe_str (nomark _)) (pw_and1 (pt_cmpR op_gt (pv 5) pe_int (nomark _))))) (pss_cons (ps_expr (pe_bm PySem.F.plainAttrs_list PySem.F.slot_list_append PySem.F.type_list_append mt_append (pv 3) (pa_cons pe_str pa_nil)))
      (pss_one (ps_set (i := 5) sc_law_token_walk.nd rfl (.inl rfl) (pe_op op_sub (pv 5) pe_int)))) (pss_one (ps_if (PW.pt (pw_or (pt_cmpR op_eq (pv 7) pe_str (nomark _)) (pw_or1 (pt_cmpR op_eq (pv 7) pe_str (nomark _))))) (pss_one (ps_expr (pe_bm PySem.F.plainAttrs_list PySem.F.slot_list_append PySem.F.type_list_append mt_append (pv 3) (pa_cons (pe_call G_law_some_word (hr.mono (by decide)) (by rfl) T.D_law_some_word.G T.D_law_some_word.F.kp T.D_law_some_word.B .nil pass0 (pa_cons (pv 0) pa_nil)) pa_nil)))) (pss_one (ps_expr (pe_bm PySem.F.plainAttrs_list PySem.F.slot_list_append PySem.F.type_list_append mt_append (pv 3) (pa_cons (pe_op op_add_str pe_str (pe_call G_law_some_name (hr.mono (by decide)) (by rfl) T.D_law_some_name.G T.D_law_some_name.F.kp T.D_law_some_name.B .nil pass0 (pa_cons (pv 0) pa_nil))) pa_nil)))))))))))))))
      (pss_one (ps_ret (pe_op op_cat (pv 3) (pe_op op_rep (pe_lst (pa_cons pe_str pa_nil)) (pv 5)))))))))), ?_⟩
    refine ⟨by show 0 ≤ sizeLine; decide, fun N nN => ?_⟩
    have nd := hD.nd nN
    -- one more token
    have put : ∀ (H1 : Hp) (ts : List (List Nat)) (z : List Nat), Kp d H H1 → DI d l H1 → H1 N = some (.lst (ts.map sV)) → Kp d H (upd H1 N (.lst (ts.map sV ++ [sV z]))) ∧ DI d l (upd H1 N (.lst (ts.map sV ++ [sV z]))) ∧ upd H1 N (.lst (ts.map sV ++ [sV z])) N = some (.lst ((ts ++ [z]).map sV)) :=
      fun H1 ts z k D e => ⟨k.mut nN, D.at nd.1 nd.2, by rw [upd_same, List.map_append]; rfl⟩
    have K0 : Kp d H (upd H N (.lst [])) := (Kp.refl d H).new nN
    have sz : ∀ (ts : List (List Nat)), ts.length ≤ 900 → (ts.map sV).length < sizeLine := fun ts h => by
      rw [List.length_map]; exact Nat.lt_of_le_of_lt h (by decide)
    refine ⟨fun σ' H' => ∃ (j : Nat) (ts : List (List Nat)) (x4 : Option V), σ' = [some (.ref d), some (.int many), some (.int (most : Int)), some (.ref N), x4, none, none, none, none] ∧ Kp d H H' ∧ DI d l H' ∧ H' N = some (.lst (ts.map sV)) ∧ ts.length = 2 * j ∧ Wk most ts j, ?_, ?_⟩
    · refine ⟨_, rfl, d, l, _, rfl, hD.new nN, by decide, fun H1 r K1 D1 _ _ => ?_⟩
      have N1 : H1 N = some (.lst []) := K1 _ _ nd.1 upd_same
      refine ⟨rfl, _, rfl, ite2 (fun _ => ?_) (fun _ => ?_)⟩
      · refine ⟨_, rfl, _, rfl, d, l, _, rfl, D1, by decide, fun H2 r' K2 D2 _ e2 => ?_⟩
        have e3 := e2 (by decide)
        refine ⟨_, _, rfl, rfl, _, rfl, by omega, by omega, ?_⟩
        refine for_range (lo := 0) (n := ((most : Int) - r').toNat) (fun i σ' H' => ∃ (ts : List (List Nat)) (x4 : Option V), σ' = [some (.ref d), some (.int many), some (.int (most : Int)), some (.ref N), x4, none, none, none, none] ∧ Kp d H H' ∧ DI d l H' ∧ H' N = some (.lst (ts.map sV)) ∧ ts.length = 2 * i ∧ Wk most ts i)
          ⟨[], none, rfl, (K0.trans K1).trans K2, D2, K2 _ _ nd.1 N1, rfl, .nil⟩ ?_ ?_
        · rintro i σ' H3 hi ⟨ts, x4, rfl, K3, D3, e4, tl, hw⟩
          refine ⟨.ref N, rfl, .inl ⟨rfl, _, .inl (.inl e4)⟩, _, rfl, d, l, rfl, D3, fun H4 nm K4 D4 hn => ?_⟩
          have nl := hn.len
          have e5 := K4 _ _ nd.1 e4
          refine ⟨_, _, rfl, rfl, ?_, ?_⟩
          · rw [at_len, mkS_len]; exact Nat.le_trans (show 1 + nm.length ≤ 100 by omega) (by decide)
          rw [at_app]
          refine ⟨N, _, _, rfl, rfl, e5, sz ts (by omega), ?_⟩
          obtain ⟨k6, D6, e6⟩ := put H4 ts (64 :: nm) (K3.trans K4) D4 e5
          refine ⟨.ref N, rfl, .inl ⟨rfl, _, .inl (.inl e6)⟩, N, _, _, rfl, rfl, e6, sz _ (by simp only [List.length_append, List.length_cons, List.length_nil]; omega), ?_⟩
          obtain ⟨k7, D7, e7⟩ := put _ _ [123] k6 D6 e6
          rw [brO_sV]
          refine ⟨_, _, rfl, k7, D7, e7, ?_, .opn (.call hw hn) ?_ (by omega)⟩
          · simp only [List.length_append, List.length_cons, List.length_nil]; omega
          · rw [free_snoc]; exact Bool.or_eq_true_iff.mpr (.inr (decide_eq_true rfl))
        · rintro σ' H3 ⟨ts, x4, rfl, K3, D3, e4, tl, hw⟩
          exact ⟨_, ts, x4, rfl, K3, D3, e4, tl, hw⟩
      · exact ⟨0, [], none, rfl, K0.trans K1, D1, N1, rfl, .nil⟩
    · rintro σ' H1 ⟨j, ts, x4, rfl, K1, D1, e1, tl, hw⟩
      have jm := hw.dep_le
      have ed : (((ts.map sV).length : Nat) : Int).fdiv 2 = (j : Int) := by
        rw [List.length_map, tl, Int.fdiv_eq_ediv_of_nonneg _ (by decide)]
        omega
      refine ⟨fun σ' H' => σ' = [some (.ref d), some (.int many), some (.int (most : Int)), some (.ref N), x4, some (.int (j : Int)), none, none, none] ∧ H' = H1, ⟨_, rfl, N, _, rfl, .inl (SqL.of e1), _, _, rfl, rfl, ⟨by decide, by decide⟩, ?_, rfl⟩, ?_⟩
      · show [some (V.ref d), some (.int many), some (.int (most : Int)), some (.ref N), x4, some (V.int ((((ts.map sV).length : Nat) : Int).fdiv 2)), none, none, none] = _
        rw [ed]
      rintro σ' H1' ⟨rfl, rfl⟩
      refine ⟨_, rfl, by show 4 ≤ sizeLine; decide, fun p np => ?_⟩
      refine ⟨d, l, _, _, rfl, D1.new np, .inl ⟨p, rfl, (D1.nd np).1, SqL.of upd_same⟩, by show 0 < 4; decide, by show 4 ≤ 1000; decide, fun H2 v K2 D2 hv => ?_⟩
      have hz : ∃ z : Str, v = .str z ∧ (0 < z.cps.toList.length ∧ z.cps.toList.length ≤ 1000) := by
        simp only [List.mem_cons, List.not_mem_nil, or_false] at hv
        rcases hv with rfl | rfl | rfl | rfl <;> exact ⟨_, rfl, by decide +kernel⟩
      obtain ⟨menu, rfl, hz0, hz1⟩ := hz
      have e2 : H2 N = some (.lst (ts.map sV)) := K2 _ _ nd.1 (by rw [upd_ne (ne_of_none e1 np)]; exact e1)
      refine ⟨_, rfl, many, rfl, by omega, by omega, ?_⟩
      refine for_range (lo := 0) (n := many.toNat) (fun i σ' H' => ∃ (us : List (List Nat)) (dp : Nat) (x4 x7 x8 : Option V), σ' = [some (.ref d), some (.int many), some (.int (most : Int)), some (.ref N), x4, some (.int (dp : Int)), some (.str menu), x7, x8] ∧ Kp d H H' ∧ DI d l H' ∧ H' N = some (.lst (us.map sV)) ∧ us.length ≤ 60 + 2 * i ∧ Wk most us dp)
        ⟨ts, j, x4, none, none, rfl, (K1.new np).trans K2, D2, e2, by omega, hw⟩ ?_ ?_
      · rintro i σ' H3 hi ⟨us, dp, y4, y7, y8, rfl, K3, D3, e3, ul, hu⟩
        refine ⟨_, rfl, _, rfl, pick_one (cs := menu.cps.toList) D3 hz0 hz1 fun H4 zs K4 D4 ho => ?_⟩
        obtain ⟨c, rfl, _⟩ := ho
        have e4 := K4 _ _ nd.1 e3
        have K5 := K3.trans K4
        have len2 : us.length ≤ 800 := by omega
        have sV1 : ∀ z : List Nat, V.str (mkS z) = sV z := fun _ => rfl
        -- a word, a call
        have wordQ : ∀ (H5 : Hp) (zs : List Nat) (b : Bool), Kp d H4 H5 → DI d l H5 → RWord zs → ∃ (l_1 : Addr) (xs : List V) (y : V), V.ref N = .ref l_1 ∧ [sV zs] = [y] ∧ H5 l_1 = some (.lst xs) ∧ xs.length < sizeLine ∧
            ∃ (us' : List (List Nat)) (dp' : Nat) (x4 x7 x8 : Option V), [some (V.ref d), some (.int many), some (.int (most : Int)), some (.ref N), some (.int (0 + (i : Int))), some (.int (dp : Int)), some (.str menu), some (sV [c]), some (.bl b)] = [some (.ref d), some (.int many), some (.int (most : Int)), some (.ref N), x4, some (.int (dp' : Int)), some (.str menu), x7, x8] ∧ Kp d H (upd H5 l_1 (.lst (xs ++ [y]))) ∧ DI d l (upd H5 l_1 (.lst (xs ++ [y]))) ∧ upd H5 l_1 (.lst (xs ++ [y])) N = some (.lst (us'.map sV)) ∧ us'.length ≤ 60 + 2 * (i + 1) ∧ Wk most us' dp' := by
          intro H5 zs b k D hz
          have e5 := k _ _ nd.1 e4
          obtain ⟨k6, D6, e6⟩ := put H5 us zs (K5.trans k) D e5
          exact ⟨N, _, _, rfl, rfl, e5, sz us (by omega), us ++ [zs], dp, _, _, _, rfl, k6, D6, e6, by rw [List.length_append]; show us.length + 1 ≤ _; omega, .word hu hz⟩
        have callQ : ∀ (H5 : Hp) (zs : List Nat) (b : Bool), Kp d H4 H5 → DI d l H5 → RName zs → ∃ (l_1 : Addr) (xs : List V) (y : V), V.ref N = .ref l_1 ∧ [V.str (mkS (64 :: zs))] = [y] ∧ H5 l_1 = some (.lst xs) ∧ xs.length < sizeLine ∧
            ∃ (us' : List (List Nat)) (dp' : Nat) (x4 x7 x8 : Option V), [some (V.ref d), some (.int many), some (.int (most : Int)), some (.ref N), some (.int (0 + (i : Int))), some (.int (dp : Int)), some (.str menu), some (sV [c]), some (.bl b)] = [some (.ref d), some (.int many), some (.int (most : Int)), some (.ref N), x4, some (.int (dp' : Int)), some (.str menu), x7, x8] ∧ Kp d H (upd H5 l_1 (.lst (xs ++ [y]))) ∧ DI d l (upd H5 l_1 (.lst (xs ++ [y]))) ∧ upd H5 l_1 (.lst (xs ++ [y])) N = some (.lst (us'.map sV)) ∧ us'.length ≤ 60 + 2 * (i + 1) ∧ Wk most us' dp' := by
          intro H5 zs b k D hz
          have e5 := k _ _ nd.1 e4
          obtain ⟨k6, D6, e6⟩ := put H5 us (64 :: zs) (K5.trans k) D e5
          exact ⟨N, _, _, rfl, rfl, e5, sz us (by omega), us ++ [64 :: zs], dp, _, _, _, rfl, k6, D6, e6, by rw [List.length_append]; show us.length + 1 ≤ _; omega, .call hu hz⟩
        have atl : ∀ zs : List Nat, RName zs → ("@" : Str).length + (mkS zs).length ≤ sizeLine := fun zs hz => by
          have := hz.len
          rw [at_len, mkS_len]; exact Nat.le_trans (show 1 + zs.length ≤ 100 by omega) (by decide)
        have o_mk : (("o" : Str)) = mkS [111] := by decide +kernel
        have e_mk : (("e" : Str)) = mkS [101] := by decide +kernel
        have x_mk : (("x" : Str)) = mkS [120] := by decide +kernel
        have w_mk : (("w" : Str)) = mkS [119] := by decide +kernel
        -- len(tokens) > 0 and (..)
        refine ⟨fun σ' H' => ∃ b : Bool, b = free us ∧ σ' = [some (.ref d), some (.int many), some (.int (most : Int)), some (.ref N), some (.int (0 + (i : Int))), some (.int (dp : Int)), some (.str menu), some (sV [c]), some (.bl b)] ∧ H' = H4, ?_, ?_⟩
        · refine ⟨_, rfl, N, _, rfl, .inl (SqL.of e4), _, _, rfl, rfl, decide (0 < us.length), bl_of ?_, ?_⟩
          · rw [List.length_map]
            by_cases h : 0 < us.length
            · rw [decide_eq_true h]; exact decide_eq_true (by omega)
            · rw [decide_eq_false h]; exact decide_eq_false (by omega)
          by_cases h : 0 < us.length
          · rw [decide_eq_true h]
            obtain ⟨us0, z, rfl⟩ : ∃ us0 z, us = us0 ++ [z] := ⟨us.dropLast, us.getLast (by intro e; rw [e] at h; exact absurd h (by decide)), (List.dropLast_concat_getLast _).symm⟩
            have zl := hu.tok_len z (by simp)
            have ea : atI ((us0 ++ [z]).map sV) (-1) = some (sV z) := by rw [List.map_append]; exact atI_last _ _
            refine ⟨_, rfl, 1, rfl, N, _, -1, _, rfl, rfl, SqL.of e4, ea, rfl, decide (z = [125]), bl_of (dec_txt brC_mk), ?_⟩
            by_cases h2 : z = [125]
            · rw [decide_eq_true h2]
              exact ⟨true, by rw [free_snoc, decide_eq_true h2]; rfl, rfl, rfl⟩
            · rw [decide_eq_false h2]
              refine ⟨_, rfl, 1, rfl, N, _, -1, _, rfl, rfl, SqL.of e4, ea, mkS z, 0, _, rfl, rfl, ?_, head0_at zl.2, rfl, decide (z.head? = some 64), ?_, ?_⟩
              · rw [mkS_len]; exact Nat.le_trans zl.1 (by decide)
              · rw [free_snoc, decide_eq_false h2]; rfl
              · refine ⟨?_, rfl⟩
                have e9 : decide (V.str ⟨#[z.headD 0]⟩ = V.str ("@" : Str)) = decide (z.head? = some 64) := dec_head zl.2
                show [some (V.ref d), some (.int many), some (.int (most : Int)), some (.ref N), some (.int (0 + (i : Int))), some (.int (dp : Int)), some (.str menu), some (sV [c]), some (V.bl (decide (V.str ⟨#[z.headD 0]⟩ = V.str ("@" : Str))))] = _
                rw [e9]
          · rw [decide_eq_false h]
            have e9 : us = [] := List.length_eq_zero_iff.mp (by omega)
            subst e9
            exact ⟨false, rfl, rfl, rfl⟩
        rintro σ' H4' ⟨b, hb, rfl, rfl⟩
        rcases tf (decide (sV [c] = V.str ("o" : Str)) && (b && decide ((dp : Int) < (most : Int)))) with hA | hA
        · refine st_yes (Ans.to (ans_and2 (ans_eq (val_var rfl) val_c rfl rfl) (ans_and2 (ans_val (val_var rfl)) (ans_cmp (val_var rfl) (val_var rfl) fun Q q => ⟨_, _, rfl, rfl, q⟩))) hA) ?_
          have ⟨_, h2⟩ := Bool.and_eq_true_iff.mp hA
          have ⟨h3', h4'⟩ := Bool.and_eq_true_iff.mp h2
          have h5 := of_decide_eq_true h4'
          refine ⟨.ref N, rfl, .inl ⟨rfl, _, .inl (.inl e4)⟩, N, _, _, rfl, rfl, e4, sz us (by omega), ?_⟩
          rw [brO_sV]
          obtain ⟨k6, D6, e6⟩ := put H4' us [123] K5 D4 e4
          refine ⟨_, rfl, _, _, rfl, rfl, us ++ [[123]], dp + 1, _, _, _, rfl, k6, D6, e6, by rw [List.length_append]; show us.length + 1 ≤ _; omega, .opn hu (hb ▸ h3') (by omega)⟩
        refine st_no (Ans.to (ans_and2 (ans_eq (val_var rfl) val_c rfl rfl) (ans_and2 (ans_val (val_var rfl)) (ans_cmp (val_var rfl) (val_var rfl) fun Q q => ⟨_, _, rfl, rfl, q⟩))) hA) ?_
        rcases tf (decide (sV [c] = V.str ("e" : Str)) && (b && decide ((dp : Int) < (most : Int)))) with hB | hB
        · refine st_yes (Ans.to (ans_and2 (ans_eq (val_var rfl) val_c rfl rfl) (ans_and2 (ans_val (val_var rfl)) (ans_cmp (val_var rfl) (val_var rfl) fun Q q => ⟨_, _, rfl, rfl, q⟩))) hB) ?_
          have ⟨_, h2⟩ := Bool.and_eq_true_iff.mp hB
          have ⟨h3', h4'⟩ := Bool.and_eq_true_iff.mp h2
          have h5 := of_decide_eq_true h4'
          refine ⟨.ref N, rfl, .inl ⟨rfl, _, .inl (.inl e4)⟩, N, _, _, rfl, rfl, e4, sz us (by omega), ?_⟩
          rw [brO_sV]
          obtain ⟨k6, D6, e6⟩ := put H4' us [123] K5 D4 e4
          refine ⟨.ref N, rfl, .inl ⟨rfl, _, .inl (.inl e6)⟩, N, _, _, rfl, rfl, e6, sz _ (by rw [List.length_append]; show us.length + 1 ≤ _; omega), ?_⟩
          rw [brC_sV]
          obtain ⟨k7, D7, e7⟩ := put _ _ [125] k6 D6 e6
          exact ⟨us ++ [[123]] ++ [[125]], dp, _, _, _, rfl, k7, D7, e7, by rw [List.length_append, List.length_append]; show us.length + 1 + 1 ≤ _; omega, .cls (.opn hu (hb ▸ h3') (by omega))⟩
        refine st_no (Ans.to (ans_and2 (ans_eq (val_var rfl) val_c rfl rfl) (ans_and2 (ans_val (val_var rfl)) (ans_cmp (val_var rfl) (val_var rfl) fun Q q => ⟨_, _, rfl, rfl, q⟩))) hB) ?_
        rcases tf (decide (sV [c] = V.str ("x" : Str)) && decide ((0 : Int) < (dp : Int))) with hC | hC
        · refine st_yes (Ans.to (ans_and2 (ans_eq (val_var rfl) val_c rfl rfl) (ans_cmp (val_var rfl) val_c fun Q q => ⟨_, _, rfl, rfl, q⟩)) hC) ?_
          have ⟨_, h2⟩ := Bool.and_eq_true_iff.mp hC
          have h5 := of_decide_eq_true h2
          obtain ⟨d', rfl⟩ : ∃ d', dp = d' + 1 := ⟨dp - 1, by omega⟩
          refine ⟨.ref N, rfl, .inl ⟨rfl, _, .inl (.inl e4)⟩, N, _, _, rfl, rfl, e4, sz us (by omega), ?_⟩
          rw [brC_sV]
          obtain ⟨k6, D6, e6⟩ := put H4' us [125] K5 D4 e4
          refine ⟨_, rfl, _, _, rfl, rfl, us ++ [[125]], d', some (.int (0 + (i : Int))), some (sV [c]), some (.bl b), ?_, k6, D6, e6, by rw [List.length_append]; show us.length + 1 ≤ _; omega, .cls hu⟩
          show [some (V.ref d), some (.int many), some (.int (most : Int)), some (.ref N), some (.int (0 + (i : Int))), some (V.int (((d' + 1 : Nat) : Int) - 1)), some (.str menu), some (sV [c]), some (.bl b)] = _
          rw [show (((d' + 1 : Nat) : Int) - 1) = (d' : Int) from by omega]
        refine st_no (Ans.to (ans_and2 (ans_eq (val_var rfl) val_c rfl rfl) (ans_cmp (val_var rfl) val_c fun Q q => ⟨_, _, rfl, rfl, q⟩)) hC) ?_
        have wordG : ∀ (R : Prop), R → R := fun _ r => r
        refine ⟨_, rfl, rfl, _, rfl, ite2 (fun _ => ?_) (fun _ => ?_)⟩
        · exact ⟨.ref N, rfl, .inl ⟨rfl, _, .inl (.inl e4)⟩, _, rfl, d, l, rfl, D4, fun H5 zs k D hz => wordQ H5 zs b k D hz⟩
        refine ⟨_, rfl, rfl, _, rfl, ite2 (fun _ => ?_) (fun _ => ?_)⟩
        · exact ⟨.ref N, rfl, .inl ⟨rfl, _, .inl (.inl e4)⟩, _, rfl, d, l, rfl, D4, fun H5 zs k D hz => wordQ H5 zs b k D hz⟩
        · refine ⟨.ref N, rfl, .inl ⟨rfl, _, .inl (.inl e4)⟩, _, rfl, d, l, rfl, D4, fun H5 zs k D hz => ⟨_, _, rfl, rfl, atl zs hz, ?_⟩⟩
          rw [at_app]
          exact callQ H5 zs b k D hz
      · rintro σ' H3 ⟨us, dp, y4, y7, y8, rfl, K3, D3, e3, ul, hu⟩
        have dm := hu.dep_le
        refine ⟨_, rfl, by show 1 ≤ sizeLine; decide, fun p1 np1 => ?_⟩
        refine ⟨_, rfl, p1, (dp : Int), _, rfl, rfl, upd_same, by omega, by omega, ?_, fun p2 np2 => ?_⟩
        · show 1 * _ ≤ sizeLine
          exact Nat.le_trans (show 1 * ((dp : Int)).toNat ≤ 100 by omega) (by decide)
        have e4 : upd (upd H3 p1 (.lst [V.str ("}" : Str)])) p2 (.lst (List.replicate ((dp : Int)).toNat [V.str ("}" : Str)]).flatten) N = some (.lst (us.map sV)) := by
          have e5 : upd H3 p1 (.lst [V.str ("}" : Str)]) N = some (.lst (us.map sV)) := by rw [upd_ne (ne_of_none e3 np1)]; exact e3
          rw [upd_ne (ne_of_none e5 np2)]; exact e5
        refine ⟨N, p2, _, _, rfl, rfl, e4, upd_same, ?_, fun p3 np3 => ?_⟩
        · rw [flat_rep, List.length_map, List.length_map, List.length_replicate]
          exact Nat.le_trans (show us.length + ((dp : Int)).toNat ≤ 2000 by omega) (by decide)
        have K6 : Kp d H _ := (K3.new (o := .lst [V.str ("}" : Str)]) np1).new (o := .lst (List.replicate ((dp : Int)).toNat [V.str ("}" : Str)]).flatten) np2
        have free3 : H p3 = none := by
          cases e : H p3 with
          | none => rfl
          | some o => rw [K6 p3 o (((D3.new np1).new np2).nd np3).1 e] at np3; cases np3
        refine q _ p3 (us ++ List.replicate dp [125]) (K6.new np3) (((D3.new np1).new np2).new np3) free3 ?_ (hu.closed dp us) ?_
        · rw [upd_same, flat_rep, ← List.map_append]
          rfl
        · rw [List.length_append, List.length_replicate]; omega
end
end Vf

set_option Elab.async false
set_option linter.all false
set_option maxRecDepth 100000
set_option maxHeartbeats 4000000
namespace Vf
open PySem PySem.Spec PyProof.Rows L2 TL
/-! ### a tree of tokens -/
/-- the tokens of open levels, the innermost one first -/
def flatR : List Tr → List (List Nat)
  | [] => []
  | [t] => toksT t
  | t :: u :: s => flatR (u :: s) ++ [123] :: toksT t
theorem flatR_head (t t' : Tr) (s : List Tr) (ws : List (List Nat)) (h : toksT t' = toksT t ++ ws) : flatR (t' :: s) = flatR (t :: s) ++ ws := by
  cases s with
  | nil => exact h
  | cons u s =>
    show flatR (u :: s) ++ [123] :: toksT t' = (flatR (u :: s) ++ [123] :: toksT t) ++ ws
    rw [h, List.append_assoc]; rfl
def endsC (t : Tr) : Prop := ∃ u n a, t = appT u (.call n a .nil)
theorem RepT.split {H : Hp} : ∀ {t u : Tr} {vs : List V}, RepT H (appT t u) vs → ∃ v1 v2, vs = v1 ++ v2 ∧ RepT H t v1 ∧ RepT H u v2
  | .nil, u, vs, h => ⟨[], vs, rfl, by simp only [RepT], h⟩
  | .word w r, u, vs, h => by
    simp only [RepT, appT] at h
    obtain ⟨p, vs', rfl, a, b⟩ := h
    obtain ⟨v1, v2, rfl, h1, h2⟩ := RepT.split b
    exact ⟨.ref p :: v1, v2, rfl, by simp only [RepT]; exact ⟨p, v1, rfl, a, h1⟩, h2⟩
  | .call n a r, u, vs, h => by
    simp only [RepT, appT] at h
    obtain ⟨p, q, us, vs', rfl, x, b, c, d⟩ := h
    obtain ⟨v1, v2, rfl, h1, h2⟩ := RepT.split d
    exact ⟨.ref p :: v1, v2, rfl, by simp only [RepT]; exact ⟨p, q, us, v1, rfl, x, b, c, h1⟩, h2⟩
theorem GoodT_split : ∀ {t u : Tr}, GoodT (appT t u) → GoodT t ∧ GoodT u
  | .nil, u, h => by simp only [appT] at h; exact ⟨by simp only [GoodT], h⟩
  | .word w r, u, h => by
    simp only [appT, GoodT] at h ⊢
    have ⟨a, b⟩ := GoodT_split h.2
    exact ⟨⟨h.1, a⟩, b⟩
  | .call n a r, u, h => by
    simp only [appT, GoodT] at h ⊢
    have ⟨c, b⟩ := GoodT_split h.2.2
    exact ⟨⟨h.1, h.2.1, c⟩, b⟩
abbrev Stk := List (Addr × Tr)
def lvs (st : Stk) : List V := (st.map fun e => V.ref e.1).reverse
theorem lvs_cons (e : Addr × Tr) (s : Stk) : lvs (e :: s) = lvs s ++ [.ref e.1] := by
  unfold lvs; rw [List.map_cons, List.reverse_cons]
structure Lv (H H' : Hp) (zV : Addr) (st : Stk) : Prop where
  hV : H' zV = some (.lst (lvs st))
  ea : ∀ e ∈ st, H e.1 = none ∧ e.1 ≠ zV ∧ ∃ vs, H' e.1 = some (.lst vs) ∧ RepT H' e.2 vs
  nd : (st.map (·.1)).Nodup
  S : Same H H'
  nV : H zV = none
section
variable {H H' : Hp} {zV : Addr} {st s : Stk}
theorem Lv.new {q : Addr} {o : HO} (h : Lv H H' zV st) (hq : H' q = none) : Lv H (upd H' q o) zV st := by
  refine ⟨by rw [upd_ne (ne_of_none h.hV hq)]; exact h.hV, fun e he => ?_, h.nd, same_upd h.S hq, h.nV⟩
  obtain ⟨a, b, vs, c, d⟩ := h.ea e he
  exact ⟨a, b, vs, by rw [upd_ne (ne_of_none c hq)]; exact c, d.keep (TKeep.new hq)⟩
theorem Lv.set {p : Addr} {t u : Tr} {vs : List V} (h : Lv H H' zV ((p, t) :: s)) (hu : RepT H' u vs) : Lv H (upd H' p (.lst vs)) zV ((p, u) :: s) := by
  obtain ⟨a, b, ws, c, d⟩ := h.ea (p, t) List.mem_cons_self
  have tk : TKeep H' (upd H' p (.lst vs)) := TKeep.mut c
  have nd := h.nd
  rw [List.map_cons, List.nodup_cons] at nd
  refine ⟨by rw [upd_ne b.symm]; exact h.hV, fun e he => ?_, h.nd, same_mut h.S a, h.nV⟩
  rcases List.mem_cons.mp he with rfl | he
  · exact ⟨a, b, vs, upd_same, hu.keep tk⟩
  · obtain ⟨a2, b2, ws2, c2, d2⟩ := h.ea e (List.mem_cons_of_mem _ he)
    have ne : e.1 ≠ p := fun z => nd.1 (List.mem_map.mpr ⟨e, he, z⟩)
    exact ⟨a2, b2, ws2, by rw [upd_ne ne]; exact c2, d2.keep tk⟩
theorem Lv.push {q : Addr} (h : Lv H H' zV st) (hq : H' q = none) : Lv H (upd (upd H' q (.lst [])) zV (.lst (lvs st ++ [.ref q]))) zV ((q, .nil) :: st) := by
  have h1 := h.new (o := .lst []) hq
  have nqV : q ≠ zV := fun z => by rw [z, h.hV] at hq; cases hq
  have nqH : H q = none := h.S.free hq
  have tk : TKeep (upd H' q (.lst [])) (upd (upd H' q (.lst [])) zV (.lst (lvs st ++ [.ref q]))) := TKeep.mut h1.hV
  refine ⟨by rw [upd_same, lvs_cons], fun e he => ?_, ?_, same_mut h1.S h.nV, h.nV⟩
  · rcases List.mem_cons.mp he with rfl | he
    · exact ⟨nqH, nqV, [], by rw [upd_ne nqV]; exact upd_same, by simp only [RepT]⟩
    · obtain ⟨a2, b2, ws2, c2, d2⟩ := h1.ea e he
      exact ⟨a2, b2, ws2, by rw [upd_ne b2]; exact c2, d2.keep tk⟩
  · rw [List.map_cons, List.nodup_cons]
    refine ⟨fun hm => ?_, h.nd⟩
    obtain ⟨e, he, ee⟩ := List.mem_map.mp hm
    obtain ⟨_, _, vs, c, _⟩ := h.ea e he
    have ee2 : e.1 = q := ee
    rw [ee2, hq] at c
    cases c
theorem Lv.pop {e : Addr × Tr} (h : Lv H H' zV (e :: s)) : Lv H (upd H' zV (.lst (lvs s))) zV s ∧ ∃ vs, upd H' zV (.lst (lvs s)) e.1 = some (.lst vs) ∧ RepT (upd H' zV (.lst (lvs s))) e.2 vs := by
  have tk : TKeep H' (upd H' zV (.lst (lvs s))) := TKeep.mut h.hV
  have nd := h.nd
  rw [List.map_cons, List.nodup_cons] at nd
  refine ⟨⟨upd_same, fun x hx => ?_, nd.2, same_mut h.S h.nV, h.nV⟩, ?_⟩
  · obtain ⟨a2, b2, ws2, c2, d2⟩ := h.ea x (List.mem_cons_of_mem _ hx)
    exact ⟨a2, b2, ws2, by rw [upd_ne b2]; exact c2, d2.keep tk⟩
  · obtain ⟨a2, b2, ws2, c2, d2⟩ := h.ea e List.mem_cons_self
    exact ⟨ws2, by rw [upd_ne b2]; exact c2, d2.keep tk⟩
end
def dCount : List (List Nat) → Int
  | [] => 0
  | t :: r => (if t = [123] then 1 else if t = [125] then -1 else 0) + dCount r
theorem dCount_snoc : ∀ (ts : List (List Nat)) (t : List Nat), dCount (ts ++ [t]) = dCount ts + (if t = [123] then 1 else if t = [125] then -1 else 0)
  | [], t => by simp only [dCount, List.nil_append]; omega
  | u :: r, t => by
    have := dCount_snoc r t
    simp only [dCount, List.cons_append]
    omega
theorem Wk.count {most : Nat} {ts : List (List Nat)} {dp : Nat} (h : Wk most ts dp) : dCount ts = (dp : Int) := by
  induction h with
  | nil => rfl
  | opn _ _ _ ih => rw [dCount_snoc, if_pos rfl, ih]; omega
  | cls _ ih => rw [dCount_snoc, if_neg (by decide), if_pos rfl, ih]; omega
  | call _ _ ih =>
    rw [dCount_snoc, if_neg (by intro e; injection e with e1 _; exact absurd e1 (by decide)), if_neg (by intro e; injection e with e1 _; exact absurd e1 (by decide)), ih]; omega
  | word _ b ih => rw [dCount_snoc, if_neg b.head.2.1, if_neg b.head.2.2, ih]; omega
theorem Wk.det {m1 m2 : Nat} {ts : List (List Nat)} {a b : Nat} (h : Wk m1 ts a) (k : Wk m2 ts b) : a = b := by
  have h1 := h.count
  have h2 := k.count
  omega
def depOK (most : Nat) : Stk → Prop
  | [] => True
  | e :: s => depT e.2 + s.length ≤ most ∧ depOK most s
/-- how the levels stand behind the tokens ts -/
structure LvT (most : Nat) (st : Stk) (ts : List (List Nat)) : Prop where
  fl : flatR (st.map (·.2)) = ts
  w : ∃ dp, st.length = dp + 1 ∧ Wk most ts dp
  ec : ∀ e ∈ st.tail, endsC e.2
  fr : free ts = true → ∀ e, st.head? = some e → endsC e.2
  dp : depOK most st
  g : ∀ e ∈ st, GoodT e.2
theorem cut_tail {n : List Nat} (hl : n.length ≤ 1000) : cutS (mkS (64 :: n)) (some 1) none = mkS n := by
  unfold cutS
  have h1 : HT.sIx (mkS (64 :: n)).length 0 (some 1) = 1 := by
    rw [show (1 : Int) = ((1 : Nat) : Int) from rfl, HT.sIx_nat, mkS_len]
    show min 1 (n.length + 1) = 1
    omega
  rw [h1, HT.sIx_none, mkS_len]
  show mkS ((n).take (n.length + 1 - 1)) = mkS n
  rw [List.take_of_length_le (by omega)]
theorem last_map {xs : List V} {x : V} : (xs ++ [x])[(xs ++ [x]).length - 1]? = some x := by
  rw [List.length_append, List.length_singleton, Nat.add_sub_cancel, List.getElem?_append_right (Nat.le_refl _), Nat.sub_self]
  rfl
theorem appT_nil : ∀ t : Tr, appT t .nil = t
  | .nil => rfl
  | .word w r => by simp only [appT, appT_nil r]
  | .call n a r => by simp only [appT, appT_nil r]
theorem appT_assoc : ∀ t u v : Tr, appT (appT t u) v = appT t (appT u v)
  | .nil, u, v => rfl
  | .word w r, u, v => by simp only [appT, appT_assoc r u v]
  | .call n a r, u, v => by simp only [appT, appT_assoc r u v]
theorem stk_len {most : Nat} {st : Stk} {ts : List (List Nat)} (h : LvT most st ts) : st.length ≤ most + 1 := by
  obtain ⟨dp, e, w⟩ := h.w
  have := w.dep_le
  omega
section
variable {P : Program} {w : World} {K : PySem.W.Frag} {mg : Str → Option Value} {base : Heap}
def spTreeOf (K : PySem.W.Frag) : Sp := fun vs H Q _ => ∃ (p : Addr) (ts : List (List Nat)) (most : Nat), vs = [.ref p] ∧ SqL K H p (ts.map sV) ∧ Wk most ts 0 ∧ ts.length ≤ 5000 ∧ most ≤ 100 ∧
  ∀ H' v t, Same H H' → TV H' v t → toksT t = ts → depT t ≤ most → GoodT t → Q v H'
theorem ok_tree_of (T : Txt K mg) : FnOk P w K mg base CX0 1 T.a_law_tree_of T.d_law_tree_of ["_law_tokens"] (spTreeOf K) := by
  refine T.D_law_tree_of.F.ok sc_law_tree_of (fun vs H Q E h => ?_) (fun cdv A outer s H vs Q E hr h => ?_)
  · obtain ⟨p, ts, most, rfl, _⟩ := h
    rfl
  · obtain ⟨p, ts, most, rfl, hS, hw, hl, hm, q⟩ := h
    refine ⟨_, (pss_cons (ps_set (i := 1) sc_law_tree_of.nd rfl (.inl rfl) (pe_lst (pa_cons (pe_lst pa_nil) pa_nil)))
      (pss_cons (ps_for PassesOwn.never rfl (pi_list (pv 0)) (pg_name (i := 2) sc_law_tree_of.nd rfl (.inl rfl)) (pss_one (ps_if (pt_cmpR op_eq (pv 2) pe_str (nomark _)) (pss_one (ps_expr (pe_bm PySem.F.plainAttrs_list PySem.F.slot_list_append PySem.F.type_list_append mt_append (pv 1) (pa_cons (pe_lst pa_nil) pa_nil)))) (pss_one (ps_if (pt_cmpR op_eq (pv 2) pe_str (nomark _)) (pss_cons (ps_set (i := 3) sc_law_tree_of.nd rfl (.inl rfl) (pe_callTy call_tuple_of (by rfl) T.n_tuple (by decide +kernel) (pa_cons (pe_bm0 PySem.F.plainAttrs_list PySem.F.slot_list_pop PySem.F.type_list_pop mt_pop (pv 1)) pa_nil)))
      (pss_cons (ps_set (i := 4) sc_law_tree_of.nd rfl (.inl rfl) (pe_bm0 PySem.F.plainAttrs_list PySem.F.slot_list_pop PySem.F.type_list_pop mt_pop (pe_ix ix_list (pv 1) (pe_un un_neg pe_int) (fun _ _ => rfl))))
      (pss_one (ps_expr (pe_bm PySem.F.plainAttrs_list PySem.F.slot_list_append PySem.F.type_list_append mt_append (pe_ix ix_list (pv 1) (pe_un un_neg pe_int) (fun _ _ => rfl)) (pa_cons (pe_tup (pa_cons pe_str (pa_cons (pe_ix ix_tup (pv 4) pe_int (fun _ _ => rfl)) (pa_cons (pe_op op_catA (pe_ix ix_tup (pv 4) pe_int (fun _ _ => rfl)) (pe_tup (pa_cons (pv 3) pa_nil))) pa_nil)))) pa_nil)))))) (pss_one (ps_if (pt_cmpR op_eq (pe_ix ix_str (pv 2) pe_int (fun _ _ => rfl)) pe_str (nomark _)) (pss_one (ps_expr (pe_bm PySem.F.plainAttrs_list PySem.F.slot_list_append PySem.F.type_list_append mt_append (pe_ix ix_list (pv 1) (pe_un un_neg pe_int) (fun _ _ => rfl)) (pa_cons (pe_tup (pa_cons pe_str (pa_cons (pe_slice sl_str (pv 2) (po_some pe_int) po_none) (pa_cons (pe_tup pa_nil) pa_nil)))) pa_nil)))) (pss_one (ps_expr (pe_bm PySem.F.plainAttrs_list PySem.F.slot_list_append PySem.F.type_list_append mt_append (pe_ix ix_list (pv 1) (pe_un un_neg pe_int) (fun _ _ => rfl)) (pa_cons (pe_tup (pa_cons pe_str (pa_cons (pv 2) pa_nil))) pa_nil)))))))))))
      (pss_one (ps_ret (pe_callTy call_tuple_of (by rfl) T.n_tuple (by decide +kernel) (pa_cons (pe_ix ix_list (pv 1) pe_int (fun _ _ => rfl)) pa_nil)))))), ?_⟩
    refine ⟨by show 0 ≤ sizeLine; decide, fun l0 n0 => ⟨by show 1 ≤ sizeLine; decide, fun zV nV => ?_⟩⟩
    have nVl : l0 ≠ zV := ne_of_none upd_same nV
    have nVH : H zV = none := by rw [upd_ne nVl.symm] at nV; exact nV
    have L0 : Lv H (upd (upd H l0 (.lst [])) zV (.lst [.ref l0])) zV [(l0, .nil)] := by
      refine ⟨upd_same, fun e he => ?_, by simp, same_upd (same_upd (Same.refl H) n0) nV, nVH⟩
      rw [List.mem_singleton.mp he]
      exact ⟨n0, nVl, [], by rw [upd_ne nVl]; exact upd_same, by simp only [RepT]⟩
    refine ⟨_, rfl, p, rfl, ⟨_, L0.S.seq hS⟩, ?_⟩
    refine for_list (K := K) (a := p) (xs := ts.map sV) (fun i σ' H' => ∃ (st : Stk) (x2 x3 x4 : Option L2.V), σ' = [some (.ref p), some (.ref zV), x2, x3, x4] ∧ Lv H H' zV st ∧ LvT most st (ts.take i))
      ⟨_, none, none, none, rfl, L0, ⟨rfl, ⟨0, rfl, .nil⟩, (fun e he => nomatch he), (fun h => by cases h), ⟨by show depT .nil + 0 ≤ most; simp only [depT]; omega, trivial⟩, fun e he => by rw [List.mem_singleton.mp he]; simp only [GoodT]⟩⟩ ?_ ?_ ?_
    · rintro i σ' H' _ ⟨_, _, _, _, _, L, _⟩
      exact L.S.seq hS
    · rintro i x σ' H' hx ⟨st, x2, x3, x4, rfl, L, LT⟩
      rw [List.getElem?_map] at hx
      obtain ⟨z, hz, rfl⟩ : ∃ z, ts[i]? = some z ∧ sV z = x := by
        cases h : ts[i]? with
        | none => rw [h] at hx; cases hx
        | some z => rw [h] at hx; exact ⟨z, rfl, Option.some.inj hx⟩
      have et : ts.take (i + 1) = ts.take i ++ [z] := take_succ' hz
      obtain ⟨dq, hwq⟩ : ∃ d, Wk most (ts.take (i + 1)) d := Wk.pre (ts.drop (i + 1)) (ts.take (i + 1)) 0 (by rw [List.take_append_drop]; exact hw)
      rw [et] at hwq
      obtain ⟨dp, el, hdp⟩ := LT.w
      have zl := hwq.tok_len z (by simp)
      have sl := stk_len LT
      have fl0 := LT.fl
      cases st with
      | nil => cases el
      | cons e0 s =>
        obtain ⟨p0, t0⟩ := e0
        have el2 : s.length = dp := Nat.succ.inj el
        -- levels[-1]
        have at0 : atI (lvs ((p0, t0) :: s)) (-1) = some (.ref p0) := by rw [lvs_cons]; exact atI_last _ _
        obtain ⟨a0, b0, vs0, c0, r0⟩ := L.ea (p0, t0) List.mem_cons_self
        have g0 := LT.g (p0, t0) List.mem_cons_self
        have d0 := LT.dp.1
        -- a node more at the innermost level
        have addN : ∀ (H2 : Hp) (v : L2.V) (n : Tr), Lv H H2 zV ((p0, t0) :: s) → RepT H2 n [v] → depT n = 0 → GoodT n → toksT n = [z] → Wk most (ts.take i ++ [z]) dp → (free (ts.take i ++ [z]) = true → ∃ nm a, n = .call nm a .nil) →
            ∃ vs, H2 p0 = some (.lst vs) ∧ vs.length < sizeLine ∧ Lv H (upd H2 p0 (.lst (vs ++ [v]))) zV ((p0, appT t0 n) :: s) ∧ LvT most ((p0, appT t0 n) :: s) (ts.take (i + 1)) := by
          intro H2 v n L2' hn dn gn tn hw2 hf
          obtain ⟨_, _, vs, c, r⟩ := L2'.ea (p0, t0) List.mem_cons_self
          refine ⟨vs, c, ?_, L2'.set (r.app hn), ?_⟩
          · have h1 : vs.length ≤ (toksT t0).length := r.len
            have h2 : (toksT t0).length ≤ (ts.take i).length := by
              rw [← fl0]
              cases s with
              | nil => exact Nat.le_refl _
              | cons u s2 =>
                show (toksT t0).length ≤ (flatR (u.2 :: s2.map (·.2)) ++ [123] :: toksT t0).length
                rw [List.length_append, List.length_cons]
                omega
            rw [List.length_take] at h2
            exact lt_size (by omega)
          · rw [et]
            refine ⟨?_, ⟨dp, el, hw2⟩, LT.ec, fun hfr e he => ?_, ⟨?_, LT.dp.2⟩, fun e he => ?_⟩
            · rw [← fl0]
              exact flatR_head t0 _ _ [z] (by rw [toksT_app, tn])
            · obtain ⟨nm, a, rfl⟩ := hf hfr
              cases he
              exact ⟨t0, nm, a, rfl⟩
            · show depT (appT t0 n) + s.length ≤ most
              rw [depT_app, dn]
              have : depT t0 + s.length ≤ most := d0
              omega
            · rcases List.mem_cons.mp he with rfl | he
              · exact GoodT_app g0 gn
              · exact LT.g e (List.mem_cons_of_mem _ he)
        have lt_size' : ∀ {n : Nat}, n < 100000 → n < sizeLine := fun h => lt_size h
        rcases hwq.inv rfl with ⟨rfl, hfr, d2, rfl, hd2, hw3⟩ | ⟨rfl, hw3⟩ | ⟨nm, rfl, hnm, hw3⟩ | ⟨hzw, hw3⟩
        · -- an open brace
          have ed : d2 = dp := Wk.det hw3 hdp
          subst ed
          refine ⟨_, rfl, rfl, true, bl_of ((dec_txt brO_mk).trans (decide_eq_true rfl)), ?_⟩
          refine ⟨.ref zV, rfl, .inl ⟨rfl, _, SqL.of L.hV⟩, by show 0 ≤ sizeLine; decide, fun q nq => ?_⟩
          have hV2 : upd H' q (.lst []) zV = some (.lst (lvs ((p0, t0) :: s))) := by rw [upd_ne (ne_of_none L.hV nq)]; exact L.hV
          refine ⟨zV, _, _, rfl, rfl, hV2, ?_, ?_⟩
          · unfold lvs
            rw [List.length_reverse, List.length_map]
            exact lt_size (by omega)
          · refine ⟨_, _, _, _, rfl, L.push nq, ?_⟩
            rw [et]
            refine ⟨?_, ⟨d2 + 1, by rw [List.length_cons, el], hwq⟩, ?_, fun h => ?_, ⟨?_, LT.dp⟩, fun e he => ?_⟩
            · rw [← fl0]
              show flatR (.nil :: t0 :: s.map (·.2)) = flatR (t0 :: s.map (·.2)) ++ [[123]]
              simp only [flatR, toksT]
            · intro e he
              rcases List.mem_cons.mp he with rfl | he
              · exact LT.fr hfr _ rfl
              · exact LT.ec e he
            · rw [free_snoc] at h
              exact absurd h (by decide)
            · show depT .nil + ((p0, t0) :: s).length ≤ most
              simp only [depT]
              rw [el]; omega
            · rcases List.mem_cons.mp he with rfl | he
              · simp only [GoodT]
              · exact LT.g e he
        · -- a closing brace
          have ed : dq + 1 = dp := Wk.det hw3 hdp
          cases s with
          | nil =>
            have : 0 = dp := el2
            omega
          | cons e1 s =>
            obtain ⟨p1, t1⟩ := e1
            refine ⟨_, rfl, rfl, false, bl_of ((dec_txt brO_mk).trans (decide_eq_false (by decide))), ?_⟩
            refine ⟨_, rfl, rfl, true, bl_of ((dec_txt brC_mk).trans (decide_eq_true rfl)), ?_⟩
            -- inner = tuple(levels.pop())
            have hV0 := L.hV
            rw [lvs_cons] at hV0
            refine ⟨.ref zV, rfl, .inl ⟨rfl, _, SqL.of hV0⟩, zV, _, _, rfl, rfl, hV0, last_map, ?_⟩
            rw [List.dropLast_concat]
            obtain ⟨L1, vsI, cI, rI⟩ := L.pop
            refine ⟨p0, vsI, rfl, .inl ⟨SqL.of cI, fun x nx => ?_⟩⟩
            have L2' := L1.new (o := .tup vsI) nx
            have tkx : TKeep (upd H' zV (.lst (lvs ((p1, t1) :: s)))) _ := TKeep.new (o := .tup vsI) nx
            -- call = levels[-1].pop()
            have at1 : atI (lvs ((p1, t1) :: s)) (-1) = some (.ref p1) := by rw [lvs_cons]; exact atI_last _ _
            obtain ⟨u, nm, a, et1⟩ := LT.ec (p1, t1) List.mem_cons_self
            obtain ⟨a1, b1, vs1, c1, r1⟩ := L2'.ea (p1, t1) List.mem_cons_self
            have et1' : t1 = appT u (.call nm a .nil) := et1
            subst et1'
            obtain ⟨vu, vc, rfl, ru, rc⟩ := r1.split
            simp only [RepT] at rc
            obtain ⟨cp, cq, us, vs', rfl, hcp, hcq, hA, rfl⟩ := rc
            refine ⟨_, rfl, 1, rfl, zV, _, -1, _, rfl, rfl, SqL.of L2'.hV, at1, .inl ⟨rfl, _, SqL.of c1⟩, p1, _, _, rfl, rfl, c1, last_map, ?_⟩
            rw [List.dropLast_concat]
            have L3 := L2'.set (u := u) (vs := vu) ru
            have tk3 := TKeep.mut (o := .lst vu) c1
            have g1 := LT.g (p1, appT u (.call nm a .nil)) (List.mem_cons_of_mem _ List.mem_cons_self)
            have ⟨gu, gc⟩ := GoodT_split g1
            simp only [GoodT] at gc
            have d1 := LT.dp.2.1
            -- levels[-1].append(..)
            refine ⟨_, rfl, 1, rfl, zV, _, -1, _, rfl, rfl, SqL.of L3.hV, at1, .inl ⟨rfl, _, SqL.of upd_same⟩, ?_⟩
            refine ⟨_, rfl, _, _, _, _, rfl, rfl, SqT.of (tk3 _ _ hcp), rfl, _, rfl, _, _, _, _, rfl, rfl, SqT.of (tk3 _ _ hcp), rfl, _, rfl, by show 1 ≤ sizeLine; decide, fun y ny => ?_⟩
            have L4 := L3.new (o := .tup [.ref x]) ny
            have tk4 := TKeep.new (o := .tup [.ref x]) ny
            have hx3 : TKeep _ _ := tk3
            -- what follows with the tuple of arguments at zz
            have fin : ∀ (H9 : Hp) (zz : Addr) (R : L2.St → Hp → Prop), Lv H H9 zV ((p1, u) :: s) → H9 zz = some (.tup (us ++ [.ref x])) → RepA H9 (appA a (.cons t0 .nil)) (us ++ [.ref x]) →
                (∀ H2 st2, Lv H H2 zV st2 → LvT most st2 (ts.take (i + 1)) → R [some (.ref p), some (.ref zV), some (sV [125]), some (.ref x), some (.ref cp)] H2) →
                [kCall, sV nm, .ref zz].length ≤ sizeLine ∧ ∀ r, H9 r = none → ∃ (l : Addr) (xs : List L2.V) (y : L2.V), V.ref p1 = .ref l ∧ [V.ref r] = [y] ∧ upd H9 r (.tup [kCall, sV nm, .ref zz]) l = some (.lst xs) ∧ xs.length < sizeLine ∧ R [some (.ref p), some (.ref zV), some (sV [125]), some (.ref x), some (.ref cp)] (upd (upd H9 r (.tup [kCall, sV nm, .ref zz])) l (.lst (xs ++ [y]))) := by
              intro H9 zz R L9 hzz hAz hR
              refine ⟨by show 3 ≤ sizeLine; decide, fun r nr => ?_⟩
              have L10 := L9.new (o := .tup [kCall, sV nm, .ref zz]) nr
              have tk := TKeep.new (o := .tup [kCall, sV nm, .ref zz]) nr
              obtain ⟨_, _, vsu, cu, ru2⟩ := L10.ea (p1, u) List.mem_cons_self
              have vl : vsu.length < sizeLine := by
                have h1 : vsu.length ≤ (toksT u).length := ru2.len
                have h2 : (toksT u).length ≤ (ts.take i).length := by
                  rw [← fl0]
                  show _ ≤ (flatR (appT u (.call nm a .nil) :: s.map (·.2)) ++ [123] :: toksT t0).length
                  have h3 : (toksT (appT u (.call nm a .nil))).length ≤ (flatR (appT u (.call nm a .nil) :: s.map (·.2))).length := by
                    cases s with
                    | nil => exact Nat.le_refl _
                    | cons e s2 =>
                      show _ ≤ (flatR (e.2 :: s2.map (·.2)) ++ [123] :: toksT (appT u (.call nm a .nil))).length
                      rw [List.length_append, List.length_cons]; omega
                  rw [toksT_app, List.length_append] at h3
                  rw [List.length_append]; omega
                rw [List.length_take] at h2
                exact lt_size (by omega)
              refine ⟨p1, vsu, _, rfl, rfl, cu, vl, ?_⟩
              refine hR _ ((p1, appT u (.call nm (appA a (.cons t0 .nil)) .nil)) :: s) (L10.set (ru2.app ?_)) ?_
              · simp only [RepT]
                exact ⟨r, zz, _, [], rfl, upd_same, tk _ _ hzz, hAz.keep tk, rfl⟩
              · rw [et]
                refine ⟨?_, ⟨dq, ?_, hwq⟩, (fun e he => LT.ec e (List.mem_cons_of_mem _ he)), fun _ e he => ?_, ⟨?_, LT.dp.2.2⟩, fun e he => ?_⟩
                · rw [← fl0]
                  show flatR (appT u (.call nm (appA a (.cons t0 .nil)) .nil) :: s.map (·.2)) = (flatR (appT u (.call nm a .nil) :: s.map (·.2)) ++ [123] :: toksT t0) ++ [[125]]
                  rw [flatR_head (appT u (.call nm a .nil)) (appT u (.call nm (appA a (.cons t0 .nil)) .nil)) (s.map (·.2)) ([123] :: (toksT t0 ++ [[125]]))]
                  · simp only [List.append_assoc, List.cons_append]
                  · rw [toksT_app, toksT_app]
                    simp only [toksT, toksA_app, toksA, List.append_nil, List.append_assoc, List.cons_append, List.nil_append]
                · have e8 : ((p1, appT u (.call nm a .nil)) :: s).length = dp := el2
                  rw [List.length_cons] at e8 ⊢
                  omega
                · cases he
                  exact ⟨u, nm, _, rfl⟩
                · show depT (appT u (.call nm (appA a (.cons t0 .nil)) .nil)) + s.length ≤ most
                  have h1 : depT (appT u (.call nm a .nil)) + s.length ≤ most := d1
                  have h2 : depT t0 + ((p1, appT u (.call nm a .nil)) :: s).length ≤ most := d0
                  rw [depT_app] at h1 ⊢
                  simp only [depT, depA_app, depA] at h1 ⊢
                  rw [List.length_cons] at h2
                  omega
                · rcases List.mem_cons.mp he with rfl | he
                  · refine GoodT_app gu ?_
                    simp only [GoodT]
                    refine ⟨gc.1, GoodA_app gc.2.1 ?_, trivial⟩
                    simp only [GoodA]
                    exact ⟨g0, trivial⟩
                  · exact LT.g e (List.mem_cons_of_mem _ (List.mem_cons_of_mem _ he))
            have hx1 : upd (upd H' zV (.lst (lvs ((p1, appT u (.call nm a .nil)) :: s)))) x (.tup vsI) x = some (.tup vsI) := upd_same
            have hAe : ∀ H9 : Hp, TKeep _ H9 → RepA H9 (appA a (.cons t0 .nil)) (us ++ [.ref x]) := fun H9 tk9 => by
              refine RepA.app (hA.keep tk9) ?_
              simp only [RepA]
              exact ⟨x, vsI, [], rfl, tk9 _ _ hx1, (rI.keep tkx).keep tk9, rfl⟩
            have hA4 := hA.keep (tk3.trans tk4)
            have ul : us.length ≤ 20000 := by
              have h1 := hA.len
              have h2 : (toksA a).length ≤ (ts.take i).length := by
                rw [← fl0]
                show _ ≤ (flatR (appT u (.call nm a .nil) :: s.map (·.2)) ++ [123] :: toksT t0).length
                have h3 : (toksT (appT u (.call nm a .nil))).length ≤ (flatR (appT u (.call nm a .nil) :: s.map (·.2))).length := by
                  cases s with
                  | nil => exact Nat.le_refl _
                  | cons e s2 =>
                    show _ ≤ (flatR (e.2 :: s2.map (·.2)) ++ [123] :: toksT (appT u (.call nm a .nil))).length
                    rw [List.length_append, List.length_cons]; omega
                rw [toksT_app, List.length_append] at h3
                simp only [toksT, List.length_append, List.length_cons] at h3
                rw [List.length_append]; omega
              rw [List.length_take] at h2
              omega
            refine ⟨cq, y, us, [.ref x], rfl, rfl, SqT.of ((tk3.trans tk4) _ _ hcq), SqT.of upd_same, Nat.le_trans (show us.length + 1 ≤ 30000 by omega) (by decide), fun eu => ?_, (fun _ e => by cases e), fun _ _ zz nzz => ?_⟩
            · subst eu
              exact fin _ y _ L4 upd_same (hAe _ (tk3.trans tk4)) fun H2 st2 l2 lt2 => ⟨st2, _, _, _, rfl, l2, lt2⟩
            · have tk5 := TKeep.new (o := .tup (us ++ [.ref x])) nzz
              exact fin _ zz _ (L4.new nzz) upd_same (hAe _ ((tk3.trans tk4).trans tk5)) fun H2 st2 l2 lt2 => ⟨st2, _, _, _, rfl, l2, lt2⟩
        · -- a call
          have ed : dq = dp := Wk.det hw3 hdp
          subst ed
          have nl := hnm.len
          refine ⟨_, rfl, rfl, false, bl_of ((dec_txt brO_mk).trans (decide_eq_false (by intro e; injection e with e1 _; exact absurd e1 (by decide)))), ?_⟩
          refine ⟨_, rfl, rfl, false, bl_of ((dec_txt brC_mk).trans (decide_eq_false (by intro e; injection e with e1 _; exact absurd e1 (by decide)))), ?_⟩
          have zs : (mkS (64 :: nm)).length ≤ sizeLine := by rw [mkS_len]; exact Nat.le_trans zl.1 (by decide)
          refine ⟨_, rfl, mkS (64 :: nm), 0, _, rfl, rfl, zs, head0_at zl.2, rfl, true, bl_of ((dec_head zl.2).trans (decide_eq_true rfl)), ?_⟩
          refine ⟨_, rfl, 1, rfl, zV, _, -1, _, rfl, rfl, SqL.of L.hV, at0, .inl ⟨rfl, _, SqL.of c0⟩, ?_⟩
          refine ⟨_, rfl, 1, rfl, mkS (64 :: nm), rfl, zs, ?_⟩
          rw [cut_tail (by omega)]
          refine ⟨Nat.zero_le _, fun e ne => ⟨by show 3 ≤ sizeLine; decide, fun r nr => ?_⟩⟩
          have L5 := (L.new (o := .tup []) ne).new (o := .tup [kCall, sV nm, .ref e]) nr
          obtain ⟨vs, c5, vl, L6, LT6⟩ := addN _ (.ref r) (.call nm .nil .nil) L5 (by
            simp only [RepT, RepA]
            exact ⟨r, e, [], [], rfl, upd_same, by rw [upd_ne (ne_of_none upd_same nr)]; exact upd_same, rfl, rfl⟩) (by simp only [depT, depA]; rfl) (by simp only [GoodT, GoodA]; exact ⟨hnm, trivial, trivial⟩) (by simp only [toksT, toksA, List.append_nil]) hwq (fun _ => ⟨nm, .nil, rfl⟩)
          exact ⟨p0, vs, _, rfl, rfl, c5, vl, _, _, _, _, rfl, L6, LT6⟩
        · -- a word
          have ed : dq = dp := Wk.det hw3 hdp
          subst ed
          have ⟨h64, h123, h125⟩ := hzw.head
          refine ⟨_, rfl, rfl, false, bl_of ((dec_txt brO_mk).trans (decide_eq_false h123)), ?_⟩
          refine ⟨_, rfl, rfl, false, bl_of ((dec_txt brC_mk).trans (decide_eq_false h125)), ?_⟩
          have zs : (mkS z).length ≤ sizeLine := by rw [mkS_len]; exact Nat.le_trans zl.1 (by decide)
          refine ⟨_, rfl, mkS z, 0, _, rfl, rfl, zs, head0_at zl.2, rfl, false, bl_of ((dec_head zl.2).trans (decide_eq_false h64)), ?_⟩
          refine ⟨_, rfl, 1, rfl, zV, _, -1, _, rfl, rfl, SqL.of L.hV, at0, .inl ⟨rfl, _, SqL.of c0⟩, ?_⟩
          refine ⟨_, rfl, by show 2 ≤ sizeLine; decide, fun r nr => ?_⟩
          have L5 := L.new (o := .tup [kWord, sV z]) nr
          obtain ⟨vs, c5, vl, L6, LT6⟩ := addN _ (.ref r) (.word z .nil) L5 (by
            simp only [RepT]
            exact ⟨r, [], rfl, upd_same, rfl⟩) (by simp only [depT]) (by simp only [GoodT]; exact ⟨hzw, trivial⟩) (by simp only [toksT]) hwq (fun hf => by
              rw [free_snoc, decide_eq_false h125, decide_eq_false h64] at hf
              exact absurd hf (by decide))
          exact ⟨p0, vs, _, rfl, rfl, c5, vl, _, _, _, _, rfl, L6, LT6⟩
    · rintro σ' H' ⟨st, x2, x3, x4, rfl, L, LT⟩
      have et : ts.take (ts.map sV).length = ts := List.take_of_length_le (by rw [List.length_map]; exact Nat.le_refl _)
      rw [et] at LT
      obtain ⟨dp, el, hdp⟩ := LT.w
      have ed : dp = 0 := Wk.det hdp hw
      subst ed
      cases st with
      | nil => cases el
      | cons e0 s =>
        cases s with
        | cons _ _ => cases el
        | nil =>
          obtain ⟨p0, t0⟩ := e0
          obtain ⟨_, _, vs, c, r⟩ := L.ea (p0, t0) List.mem_cons_self
          refine ⟨_, rfl, zV, _, 0, .ref p0, rfl, rfl, SqL.of L.hV, rfl, p0, vs, rfl, .inl ⟨SqL.of c, fun x nx => ?_⟩⟩
          have h1 : depT t0 + 0 ≤ most := LT.dp.1
          exact q _ (.ref x) t0 (same_upd L.S nx) ⟨x, vs, rfl, upd_same, r.keep (TKeep.new nx)⟩ LT.fl (by omega) (LT.g _ List.mem_cons_self)
end
end Vf

set_option Elab.async false
set_option linter.all false
set_option maxRecDepth 100000
set_option maxHeartbeats 4000000
/-! ### enumerate over a tuple -/
namespace PySem
set_option maxHeartbeats 2000000 in
theorem vf_meets {v : Value} {o : Obj} {G : Heap → Prop} (B : Begins v o G) :
    Meets (Builtin.«enumerate.__new__» ⟨[.type "enumerate", v], []⟩)
      (fun _ R s => G s.heap ∧ R (.ok (.ret (.ref (s.heap.push o).objs.size)))
        { s with heap := (s.heap.push o).push { cls := .type "enumerate", data := .fields #[.none, .bool false, .ref s.heap.objs.size, rawInt 0, .none, .none] } }) := by
  refine .of_wp fun prog w A R s h => ?_
  rcases s with ⟨hp, g, d, tk, os⟩
  rcases h with ⟨g1, r1⟩
  have sb := sub_enumerate
  have begins : ∀ {A' : Around} {E : Value → Shared → Prop} {Q : Value → Shared → Prop}, Q (.ref hp.objs.size) ⟨hp.push o, g, d, tk, os⟩ →
      wpAny (model prog w) A' (pyIter v) Q E ⟨hp, g, d, tk, os⟩ := fun q => B.iter prog w _ _ ⟨hp, g, d, tk, os⟩ _ g1 q
  wp_walk using begins
  refine wpAny_stack_any fun st => (wpAny_pure ?_)
  split
  next c _ _ _ _ _ =>
    cases (c == Value.type "enumerate") <;> (wp_walk using begins; exact Exists.intro _ (And.intro rfl r1))
  next => wp_walk using begins; exact Exists.intro _ (And.intro rfl r1)
section
variable {prog : Program} {w : World} {A : Around} {E : Value → Shared → Prop} {s : Shared}
theorem vf_enum {v : Value} {o : Obj} {G : Heap → Prop} {Q : Value → Shared → Prop} (B : Begins v o G) (g1 : G s.heap)
    (h : ∀ h' : Heap, IsEnum h' (s.heap.objs.size + 1) s.heap.objs.size 0 .none → h'.get? s.heap.objs.size = some o →
      (∀ b u, s.heap.get? b = some u → h'.get? b = some u) → Q (.ref (s.heap.objs.size + 1)) { s with heap := h' }) :
    wpAny (model prog w) A (call (.type "enumerate") [v]) Q E s := by
  have zz : (s.heap.push o).objs.size = s.heap.objs.size + 1 := Heap.size_push ..
  have ie : IsEnum ((s.heap.push o).push { cls := .type "enumerate", data := .fields #[.none, .bool false, .ref s.heap.objs.size, rawInt 0, .none, .none] }) (s.heap.objs.size + 1) s.heap.objs.size 0 .none := by
    have q := Heap.get?_push_size (s.heap.push o) (o := { cls := .type "enumerate", data := .fields #[.none, .bool false, .ref s.heap.objs.size, rawInt 0, .none, .none] }) rfl
    rw [zz] at q
    exact q
  refine callType_new F.called_enumerate (by decide) (F.typeCall_enumerate_1 _) (F.newCall_enumerate_1 _)
    (fun obj => F.args_object_init_2 obj _) F.entry_enumerate_new (vf_meets B) (And.intro g1 ?_)
  show _ ∧ _
  rw [zz]
  exact ⟨⟨_, ie, rfl⟩, h _ ie (Heap.get?_push_of_some _ (Heap.get?_push_size _ B.free))
    fun b u x => Heap.get?_push_of_some _ (Heap.get?_push_of_some _ x)⟩
end
end PySem
namespace Vf
open PySem PySem.Spec PyProof.Rows L2 TL
/-- the tuple at a, each item in a new pair with its number -/
def IteT (K : PySem.W.Frag) (a : Addr) : It where
  go := fun i H => ∃ (xs : List V) (x : V), SqT K H a xs ∧ xs[i]? = some x
  yld := fun i H v H' => ∃ (T : Addr) (x : V), v = .ref T ∧ H T = none ∧ H' = upd H T (.tup [.int (i : Nat), x]) ∧ ∀ xs, SqT K H a xs → xs[i]? = some x
  stop := fun i H => ∃ xs : List V, SqT K H a xs ∧ xs.length = i
theorem apart_of {h : Heap} {a b : Addr} {o u : Obj} {m n : String} (ha : h.get? a = some o) (hb : h.get? b = some u) (ca : o.cls = .type m) (cb : u.cls = .type n) (ne : m ≠ n) : a ≠ b := fun e => by
  rw [e, hb] at ha
  have e2 : u = o := Option.some.inj ha
  rw [e2, ca] at cb
  exact ne (by injection cb)
theorem turn_enumT {P : Program} {w : World} {K : PySem.W.Frag} {elts : List Expr} {kk : Nat} {tpos : Pos} (a e it : Addr) :
    Turn P w K (.Tuple elts kk tpos) (IteT K a) [e, it] e (fun i h => (∃ old, IsEnum h e it ((i : Nat) : Int) old) ∧ h.IsTupleIter it a i ∧ e ≠ it) where
  mem := List.mem_cons_self
  obj := fun i h st b hb => by
    obtain ⟨⟨old, ie⟩, ⟨u, hu, _, du⟩, _⟩ := st
    rcases List.mem_cons.mp hb with z | z
    · rw [z]; exact ⟨_, ie, fun v q => nomatch q⟩
    · rw [List.mem_singleton.mp z]; exact ⟨u, hu, fun v q => by rw [du] at q; cases q⟩
  keep := fun i h h' st k => by
    obtain ⟨⟨old, ie⟩, it1, ne⟩ := st
    exact ⟨⟨old, k e List.mem_cons_self _ ie⟩, it1.at fun u q => k it (List.mem_cons_of_mem _ List.mem_cons_self) u q, ne⟩
  item := by
    intro X hP hw hK hc i pins s σ H E I hf st hg
    subst hP hw hK
    obtain ⟨⟨old, ie⟩, it1, ne⟩ := st
    obtain ⟨xs, x, hq, hx⟩ := hg
    obtain ⟨its, rv, p, hz⟩ := I.tuple hq
    obtain ⟨u, hu, ru⟩ := rv.get hx
    have p2 : s.heap.IsTuple a its.toArray := p
    obtain ⟨oa, ga, ca, _⟩ := id p2
    obtain ⟨oi, gi, ci, _⟩ := id it1
    have nai : a ≠ it := apart_of ga gi ca ci (by decide)
    have nea : e ≠ a := apart_of (m := "enumerate") ie ga rfl ca (by decide)
    have hel : e < s.heap.objs.size := Heap.lt_size ie
    have hil : it < s.heap.objs.size := Heap.lt_size gi
    have hil2 : i < its.toArray.size := by
      have := (List.getElem?_eq_some_iff.mp hu).1
      simpa using this
    refine wpAny_pyNext_enum_itemD (Draws.tuple (prog := X.prog) (w := X.w) (A := X.A.in1) (I.ok.hd hc) it a nai its.toArray) ie ⟨it1, p2⟩ hil2 ne ?_ fun y h' tk hy ho hst hT hsz hk => ?_
    · intro hm
      rcases List.mem_cons.mp hm with z | z
      · exact ne z
      · exact nea (List.mem_singleton.mp z)
    have eu : y = u := by
      have h1 : its[i]? = some y := by simpa using hy
      exact Option.some.inj (h1.symm.trans hu)
    subst eu
    refine ⟨_, rfl, wpAny_letOwnedTupleGo_enum (s := { s with heap := h', toks := tk + 1 }) ho fun h2 he2 sb => ?_⟩
    have hT2 : h2.get? s.heap.objs.size = some { cls := .type "tuple", data := .seq #[.int i tk, y] } := (sb.2 _ (Nat.ne_of_gt hel)).trans hT
    have made : ObjOk X.prog X.w (upd H s.heap.objs.size (.tup [.int (i : Nat), x])) h2 s.heap.objs.size (.tup [.int (i : Nat), x]) :=
      ⟨(by show 2 ≤ sizeLine; decide), [.int i tk, y], .cons ⟨_, rfl⟩ (.cons ru .nil), ⟨_, hT2, rfl, _, rfl⟩⟩
    have J : Inv X pins σ (upd H s.heap.objs.size (.tup [.int (i : Nat), x])) { s with heap := h2, toks := tk + 1 } :=
      I.turnedNew (ch := [e, it]) (fun b ob hb q => (sb.2 b (fun z => hb (by rw [z]; exact List.mem_cons_self))).trans
        (hk b ob (fun z => hb (by rw [z]; exact List.mem_cons_self)) (fun z => hb (by rw [z]; exact List.mem_cons_of_mem _ List.mem_cons_self)) q)) hf (Nat.le_refl _) made
    have e1 : ((i + 1 : Nat) : Int) = (i : Int) + 1 := by omega
    refine ⟨.ref s.heap.objs.size, _, J, rfl, ⟨_, x, rfl, I.hok.fresh (Nat.le_refl _), rfl, fun ys hy2 => by rw [I.tuple_inj hy2 hq]; exact hx⟩,
      ⟨⟨y, by rw [e1]; exact he2⟩, hst.1.at fun u2 q => (sb.2 it (Ne.symm ne)).trans q, ne⟩, fun b hb => ?_⟩
    have hlt : b < s.heap.objs.size := by
      rcases List.mem_cons.mp hb with z | z
      · rw [z]; exact hel
      · rw [List.mem_singleton.mp z]; exact hil
    rw [upd_ne (Nat.ne_of_lt hlt)]
    exact (hf b hb).1
  done := by
    intro X hP hw hK hc i pins s σ H E I hf st hg
    subst hP hw hK
    obtain ⟨⟨old, ie⟩, it1, ne⟩ := st
    obtain ⟨xs, hq, hx⟩ := hg
    obtain ⟨its, rv, p, hz⟩ := I.tuple hq
    have p2 : s.heap.IsTuple a its.toArray := p
    obtain ⟨oa, ga, ca, _⟩ := id p2
    obtain ⟨oi, gi, ci, di⟩ := id it1
    have nai : a ≠ it := apart_of ga gi ca ci (by decide)
    obtain ⟨f0, f1, f2, f3, f4, f5⟩ := hf it (List.mem_cons_of_mem _ List.mem_cons_self)
    have hl := rv.length
    refine wpAny_pyNext_enum_endD (Draws.tuple (prog := X.prog) (w := X.w) (A := X.A.in1) (I.ok.hd hc) it a nai its.toArray) ie ⟨?_, p2⟩ fun h' eb => ⟨rfl, I.turned (t' := s.toks) (fun b o hb q => eb b o hb q) f0 f1 f3 f4 f5⟩
    have ei : its.toArray.size = i := by simp; omega
    rw [ei]
    exact it1
  self := fun A i s Q E st h => by
    obtain ⟨⟨_, ie⟩, _⟩ := st
    exact wpAny_pyIter_enum ie h
def iEnumT (K : PySem.W.Frag) (ta : TA) : TI := fun σ H R => ta σ H fun vs H1 => ∃ (a : Addr) (xs : List V), vs = [.ref a] ∧ SqT K H1 a xs ∧ R (IteT K a) H1
theorem pi_enumT {X : Cx} {e : Expr} {ta : TA} {p pos tpos : Pos} {elts : List Expr} {kk : Nat} (hg : Gl X "enumerate") (hm : X.mg "enumerate" = none) (ha : PA X [e] ta)
    (hs : starEach [e] X.env = [(false, eval e X.env)] := by rfl) : PI X (.Tuple elts kk tpos) (.Call (.Name "enumerate" p) [e] [] pos) (iEnumT X.K ta) := by
  constructor
  intro pins s σ H R I h
  refine Call_ (ld_blt I hg hm boot_enumerate (PyProof.Rows.callWith_type1 (thn (ha.run pos pins s σ H _ I h) fun us s1 res => ?_) hs rfl))
  obtain ⟨vs, H1, I1, r1, a, xs, ex, hq, q⟩ := res
  subst ex
  cases r1 with
  | cons r rr =>
    cases rr
    cases r
    obtain ⟨its, rv, p', hz⟩ := I1.tuple hq
    refine vf_enum (begins_tuple a its.toArray) (show s1.heap.IsTuple a its.toArray from p') fun h' ie gi hk => wpAny_pyIter_enum ie ?_
    have J : Inv X pins σ H1 { s1 with heap := h' } := I1.kept (t' := s1.toks) hk
    refine ⟨s1.heap.objs.size + 1, [s1.heap.objs.size + 1, s1.heap.objs.size], _, _, H1, rfl, J, turn_enumT a (s1.heap.objs.size + 1) s1.heap.objs.size, ⟨⟨.none, ie⟩, ⟨_, gi, rfl, rfl⟩, Nat.succ_ne_self _⟩, fun b hb => ?_, q⟩
    have le : s1.heap.objs.size ≤ b := by
      rcases List.mem_cons.mp hb with z | z
      · rw [z]; exact Nat.le_succ _
      · rw [List.mem_singleton.mp z]; exact Nat.le_refl _
    exact I1.fpOk le (I1.hok.fresh le)
/-- for i, x in enumerate(t): a word for each turn -/
theorem for_enumT {K : PySem.W.Frag} {a : Addr} {xs : List V} {g : TG} {tb : TS} {D : Ends} {σ : L2.St} {H : Hp} (Pv : Nat → L2.St → Hp → Prop) (h0 : Pv 0 σ H) (hl : ∀ i σ H, i ≤ xs.length → Pv i σ H → SqT K H a xs)
    (hs : ∀ i x T σ H, xs[i]? = some x → Pv i σ H → H T = none → g (.ref T) σ (upd H T (.tup [.int (i : Nat), x])) fun σ2 H2 => tb { D with nx := Pv (i + 1), ct := Pv (i + 1), bk := D.nx } σ2 H2) (hd : ∀ σ H, Pv xs.length σ H → D.nx σ H) :
    tFor (fun _ H R => R (IteT K a) H) g tb D σ H := by
  refine ⟨fun i m σ H => m = xs.length - i ∧ i ≤ xs.length ∧ Pv i σ H, ⟨xs.length, rfl, Nat.zero_le _, h0⟩, ?_⟩
  rintro i m σ H ⟨rfl, hi, p⟩
  have q := hl i σ H hi p
  by_cases hlt : i < xs.length
  · refine .inr ⟨⟨xs, xs[i], q, List.getElem?_eq_getElem hlt⟩, Pv (i + 1), fun σ' H' p' => ⟨xs.length - (i + 1), by omega, rfl, hlt, p'⟩, fun v H' y => ?_⟩
    obtain ⟨T, x, rfl, hT, rfl, hx⟩ := y
    exact hs i x T σ H (hx _ q) p hT
  · have e : i = xs.length := by omega
    subst e
    exact .inl ⟨⟨xs, q, rfl⟩, hd σ H p⟩
end Vf

set_option Elab.async false
set_option linter.all false
set_option maxRecDepth 100000
set_option maxHeartbeats 4000000
namespace Vf
open PySem PySem.Spec PyProof.Rows L2 TL
/-! ### what fits -/
def isWordB (z : List Nat) : Bool := if 1 ≤ z.length ∧ z.length ≤ 16 then decide ((z.takeWhile cW).length = z.length) else false
def isNameB (z : List Nat) : Bool := if 1 ≤ z.length ∧ z.length ≤ 8 then decide ((z.takeWhile cL).length = z.length) else false
def fitsB (z : List Nat) (many : Nat) (b : Bool) : Bool :=
  if z = [123] then b && decide (many < 12) else if z = [125] then decide (0 < many) else if z.head? = some 64 then isNameB z.tail else isWordB z
theorem tw_all {p : Nat → Bool} : ∀ {z : List Nat}, (∀ c ∈ z, p c = true) → z.takeWhile p = z
  | [], _ => rfl
  | c :: r, h => by rw [List.takeWhile_cons_of_pos (h c List.mem_cons_self), tw_all fun x hx => h x (List.mem_cons_of_mem _ hx)]
theorem isWord_of {z : List Nat} (h : RWord z) : isWordB z = true := by
  obtain ⟨h1, h2, h3⟩ := h
  have h4 : 1 ≤ z.length := by
    cases z with
    | nil => exact absurd rfl h1
    | cons c r => exact Nat.succ_le_succ (Nat.zero_le _)
  unfold isWordB
  rw [if_pos ⟨h4, h2⟩, tw_all h3]
  exact decide_eq_true rfl
theorem isName_of {z : List Nat} (h : RName z) : isNameB z = true := by
  obtain ⟨h1, h2, h3⟩ := h
  have h4 : 1 ≤ z.length := by
    cases z with
    | nil => exact absurd rfl h1
    | cons c r => exact Nat.succ_le_succ (Nat.zero_le _)
  unfold isNameB
  rw [if_pos ⟨h4, h2⟩, tw_all h3]
  exact decide_eq_true rfl
/-! ### levels whose calls hold their arguments in lists -/
/-- nodes, the argument lists of the calls at ls -/
def RepM (H : Hp) : Tr → List V → List Addr → Prop
  | .nil, vs, ls => vs = [] ∧ ls = []
  | .word w r, vs, ls => ∃ p vs', vs = .ref p :: vs' ∧ H p = some (.tup [kWord, sV w]) ∧ RepM H r vs' ls
  | .call n a r, vs, ls => ∃ p q us vs' ls', vs = .ref p :: vs' ∧ ls = q :: ls' ∧ H p = some (.tup [kCall, sV n, .ref q]) ∧ H q = some (.lst us) ∧ RepA H a us ∧ RepM H r vs' ls'
theorem RepM.keep {H H' : Hp} (k : TKeep H H') : ∀ {t : Tr} {vs : List V} {ls : List Addr}, (∀ q ∈ ls, ∀ us, H q = some (.lst us) → H' q = some (.lst us)) → RepM H t vs ls → RepM H' t vs ls
  | .nil, vs, ls, _, h => h
  | .word w r, vs, ls, kl, h => by
    simp only [RepM] at h ⊢
    obtain ⟨p, vs', e, a, b⟩ := h
    exact ⟨p, vs', e, k _ _ a, RepM.keep k kl b⟩
  | .call n a r, vs, ls, kl, h => by
    simp only [RepM] at h ⊢
    obtain ⟨p, q, us, vs', ls', e, e2, x, b, c, d⟩ := h
    subst e2
    exact ⟨p, q, us, vs', ls', e, rfl, k _ _ x, kl q List.mem_cons_self _ b, c.keep k, RepM.keep k (fun q hq => kl q (List.mem_cons_of_mem _ hq)) d⟩
theorem RepM.app {H : Hp} : ∀ {t u : Tr} {vs us : List V} {ls ms : List Addr}, RepM H t vs ls → RepM H u us ms → RepM H (appT t u) (vs ++ us) (ls ++ ms)
  | .nil, u, vs, us, ls, ms, h, k => by
    obtain ⟨rfl, rfl⟩ := h
    exact k
  | .word w r, u, vs, us, ls, ms, h, k => by
    simp only [RepM, appT] at h ⊢
    obtain ⟨p, vs', rfl, a, b⟩ := h
    exact ⟨p, vs' ++ us, rfl, a, RepM.app b k⟩
  | .call n a r, u, vs, us, ls, ms, h, k => by
    simp only [RepM, appT] at h ⊢
    obtain ⟨p, q, ws, vs', ls', rfl, rfl, x, b, c, d⟩ := h
    exact ⟨p, q, ws, vs' ++ us, ls' ++ ms, rfl, rfl, x, b, c, RepM.app d k⟩
theorem RepM.split {H : Hp} : ∀ {t u : Tr} {vs : List V} {ls : List Addr}, RepM H (appT t u) vs ls → ∃ v1 v2 l1 l2, vs = v1 ++ v2 ∧ ls = l1 ++ l2 ∧ RepM H t v1 l1 ∧ RepM H u v2 l2
  | .nil, u, vs, ls, h => ⟨[], vs, [], ls, rfl, rfl, ⟨rfl, rfl⟩, h⟩
  | .word w r, u, vs, ls, h => by
    simp only [RepM, appT] at h
    obtain ⟨p, vs', rfl, a, b⟩ := h
    obtain ⟨v1, v2, l1, l2, rfl, rfl, h1, h2⟩ := RepM.split b
    exact ⟨.ref p :: v1, v2, l1, l2, rfl, rfl, ⟨p, v1, rfl, a, h1⟩, h2⟩
  | .call n a r, u, vs, ls, h => by
    simp only [RepM, appT] at h
    obtain ⟨p, q, us, vs', ls', rfl, rfl, x, b, c, d⟩ := h
    obtain ⟨v1, v2, l1, l2, rfl, rfl, h1, h2⟩ := RepM.split d
    exact ⟨.ref p :: v1, v2, q :: l1, l2, rfl, rfl, ⟨p, q, us, v1, l1, rfl, rfl, x, b, c, h1⟩, h2⟩
theorem RepM.len {H : Hp} : ∀ {t : Tr} {vs : List V} {ls : List Addr}, RepM H t vs ls → vs.length ≤ (toksT t).length
  | .nil, vs, ls, h => by
    obtain ⟨rfl, rfl⟩ := h
    exact Nat.zero_le _
  | .word w r, vs, ls, h => by
    simp only [RepM, toksT] at h ⊢
    obtain ⟨p, vs', rfl, a, b⟩ := h
    have := RepM.len b
    rw [List.length_cons, List.length_cons]
    omega
  | .call n a r, vs, ls, h => by
    simp only [RepM, toksT] at h ⊢
    obtain ⟨p, q, ws, vs', ls', rfl, rfl, x, b, c, d⟩ := h
    have := RepM.len d
    rw [List.length_cons, List.length_cons, List.length_append]
    omega
theorem RepM.own {H : Hp} : ∀ {t : Tr} {vs : List V} {ls : List Addr}, RepM H t vs ls → ∀ q ∈ ls, ∃ us, H q = some (.lst us)
  | .nil, vs, ls, h, q, hq => by
    obtain ⟨rfl, rfl⟩ := h
    cases hq
  | .word w r, vs, ls, h, q, hq => by
    simp only [RepM] at h
    obtain ⟨p, vs', rfl, a, b⟩ := h
    exact RepM.own b q hq
  | .call n a r, vs, ls, h, q, hq => by
    simp only [RepM] at h
    obtain ⟨p, q2, ws, vs', ls', rfl, rfl, x, b, c, d⟩ := h
    rcases List.mem_cons.mp hq with rfl | hq
    · exact ⟨_, b⟩
    · exact RepM.own d q hq
abbrev SM := List (Addr × Tr × List Addr)
def stk (st : SM) : Stk := st.map fun e => (e.1, e.2.1)
def own (st : SM) : List Addr := st.flatMap fun e => e.1 :: e.2.2
theorem own_cons (e : Addr × Tr × List Addr) (s : SM) : own (e :: s) = e.1 :: (e.2.2 ++ own s) := by
  unfold own; rw [List.flatMap_cons]; rfl
/-- the levels in the heap -/
structure LM (H : Hp) (zV : Addr) (st : SM) : Prop where
  hV : H zV = some (.lst (lvs (stk st)))
  ea : ∀ e ∈ st, ∃ vs, H e.1 = some (.lst vs) ∧ RepM H e.2.1 vs e.2.2
  nd : (zV :: own st).Nodup
theorem LM.trk {H : Hp} {zV : Addr} {st : SM} (h : LM H zV st) : ∀ a ∈ zV :: own st, ∃ vs, H a = some (.lst vs) := by
  intro a ha
  rcases List.mem_cons.mp ha with rfl | ha
  · exact ⟨_, h.hV⟩
  · obtain ⟨e, he, hm⟩ := List.mem_flatMap.mp ha
    obtain ⟨vs, h1, h2⟩ := h.ea e he
    rcases List.mem_cons.mp hm with rfl | hm
    · exact ⟨vs, h1⟩
    · exact h2.own a hm
/-- lists that stand and tuples that stand keep the levels -/
theorem LM.keep {H H' : Hp} {zV : Addr} {st : SM} (h : LM H zV st) (k : TKeep H H') (kl : ∀ a ∈ zV :: own st, ∀ vs, H a = some (.lst vs) → H' a = some (.lst vs)) : LM H' zV st := by
  refine ⟨kl _ List.mem_cons_self _ h.hV, fun e he => ?_, h.nd⟩
  obtain ⟨vs, h1, h2⟩ := h.ea e he
  refine ⟨vs, kl _ (List.mem_cons_of_mem _ (List.mem_flatMap.mpr ⟨e, he, List.mem_cons_self⟩)) _ h1, h2.keep k fun q hq us hu => ?_⟩
  exact kl _ (List.mem_cons_of_mem _ (List.mem_flatMap.mpr ⟨e, he, List.mem_cons_of_mem _ hq⟩)) _ hu
theorem LM.same {H H' : Hp} {zV : Addr} {st : SM} (h : LM H zV st) (s : Same H H') : LM H' zV st :=
  h.keep (TKeep.same s) fun _ _ _ e => s _ _ e
/-- all but the levels stands -/
def Off (S : List Addr) (H H' : Hp) : Prop := ∀ b o, b ∉ S → H b = some o → H' b = some o
theorem Off.same {S : List Addr} {H H' : Hp} (s : Same H H') : Off S H H' := fun b o _ e => s b o e
theorem Off.trans {S : List Addr} {H H1 H2 : Hp} (a : Off S H H1) (b : Off S H1 H2) : Off S H H2 := fun x o n h => b x o n (a x o n h)
theorem Off.mut {S : List Addr} {H H1 : Hp} {p : Addr} {o : HO} (a : Off S H H1) (hp : p ∈ S) : Off S H (upd H1 p o) := fun x u n h => by
  rw [upd_ne (fun e => n (by rw [e]; exact hp))]; exact a x u n h
section
variable {H : Hp} {zV : Addr} {s : SM} {p : Addr} {t u : Tr} {ls ms : List Addr} {vs us : List V}
/-- one list of the levels changes, the other ones stand -/
theorem upd_off {H : Hp} {p : Addr} {o : HO} {S : List Addr} (hn : p ∉ S) : ∀ a ∈ S, ∀ vs, H a = some (.lst vs) → (upd H p o) a = some (.lst vs) := fun a ha vs e => by
  rw [upd_ne (fun z => hn (by rw [← z]; exact ha))]; exact e
/-- more nodes at the innermost level: their argument lists are new -/
theorem LM.add {v : V} (h : LM H zV ((p, t, ls) :: s)) (hp : H p = some (.lst vs)) (hu : RepM H u [v] ms) (fr : ms.Nodup) (fr2 : ∀ q ∈ ms, q ∉ zV :: own ((p, t, ls) :: s)) :
    LM (upd H p (.lst (vs ++ [v]))) zV ((p, appT t u, ls ++ ms) :: s) := by
  have tk : TKeep H (upd H p (.lst (vs ++ [v]))) := TKeep.mut hp
  have nd := h.nd
  rw [own_cons, List.nodup_cons] at nd
  have nd2 := (List.nodup_cons.mp nd.2)
  have ndl := List.nodup_append.mp nd2.2
  obtain ⟨vs0, h1, h2⟩ := h.ea _ List.mem_cons_self
  have ev : vs0 = vs := by
    have e : (HO.lst vs0) = .lst vs := Option.some.inj (h1.symm.trans hp)
    injection e
  subst ev
  have nzp : zV ≠ p := fun e => nd.1 (by rw [e]; exact List.mem_cons_self)
  have npl : p ∉ ls ++ ms := fun hm => by
    rcases List.mem_append.mp hm with hm | hm
    · exact nd2.1 (List.mem_append_left _ hm)
    · exact fr2 p hm (by rw [own_cons]; exact List.mem_cons_of_mem _ List.mem_cons_self)
  refine ⟨by rw [upd_ne nzp]; exact h.hV, fun e he => ?_, ?_⟩
  · rcases List.mem_cons.mp he with rfl | he
    · exact ⟨_, upd_same, (h2.app hu).keep tk (upd_off npl)⟩
    · obtain ⟨ws, h3, h4⟩ := h.ea e (List.mem_cons_of_mem _ he)
      have hin : ∀ x ∈ e.1 :: e.2.2, x ∈ own s := fun x hx => List.mem_flatMap.mpr ⟨e, he, hx⟩
      have npe : p ∉ e.1 :: e.2.2 := fun hm => nd2.1 (List.mem_append_right _ (hin p hm))
      refine ⟨ws, by rw [upd_ne (fun z => npe (by rw [← z]; exact List.mem_cons_self))]; exact h3, h4.keep tk (upd_off fun hm => npe (List.mem_cons_of_mem _ hm))⟩
  · rw [own_cons, List.nodup_cons]
    have nz : zV ∉ ms := fun hm => fr2 zV hm List.mem_cons_self
    have nos : ∀ q ∈ ms, q ∉ own s := fun q hq hm => fr2 q hq (by rw [own_cons]; exact List.mem_cons_of_mem _ (List.mem_cons_of_mem _ (List.mem_append_right _ hm)))
    have nls : ∀ q ∈ ms, q ∉ ls := fun q hq hm => fr2 q hq (by rw [own_cons]; exact List.mem_cons_of_mem _ (List.mem_cons_of_mem _ (List.mem_append_left _ hm)))
    refine ⟨fun hm => ?_, List.nodup_cons.mpr ⟨fun hm => ?_, ?_⟩⟩
    · rcases List.mem_cons.mp hm with e | hm
      · exact nzp e
      · rcases List.mem_append.mp hm with hm | hm
        · rcases List.mem_append.mp hm with hm | hm
          · exact nd.1 (List.mem_cons_of_mem _ (List.mem_append_left _ hm))
          · exact nz hm
        · exact nd.1 (List.mem_cons_of_mem _ (List.mem_append_right _ hm))
    · rcases List.mem_append.mp hm with hm | hm
      · exact npl hm
      · exact nd2.1 (List.mem_append_right _ hm)
    · refine List.nodup_append.mpr ⟨List.nodup_append.mpr ⟨ndl.1, fr, fun x hx y hy e => nls y hy (by rw [← e]; exact hx)⟩, ndl.2.1, fun x hx y hy e => ?_⟩
      rcases List.mem_append.mp hx with hx | hx
      · exact ndl.2.2 x hx y hy e
      · exact nos x hx (by rw [e]; exact hy)
theorem LM.push {q : Addr} {st : SM} (h : LM H zV st) (hq : H q = none) : LM (upd (upd H q (.lst [])) zV (.lst (lvs (stk st) ++ [.ref q]))) zV ((q, .nil, []) :: st) := by
  have hs : Same H (upd H q (.lst [])) := same_upd (Same.refl H) hq
  have h1 := h.same hs
  have tk : TKeep (upd H q (.lst [])) (upd (upd H q (.lst [])) zV (.lst (lvs (stk st) ++ [.ref q]))) := TKeep.mut h1.hV
  have nq : q ∉ zV :: own st := fun hm => by
    obtain ⟨vs, e⟩ := h.trk q hm
    rw [hq] at e; cases e
  have nd := List.nodup_cons.mp h.nd
  have nqz : q ≠ zV := fun e => nq (by rw [e]; exact List.mem_cons_self)
  refine ⟨by rw [upd_same]; show (some (HO.lst (lvs (stk st) ++ [V.ref q])) : Option HO) = some (HO.lst (lvs ((q, Tr.nil) :: stk st))); rw [lvs_cons], fun e he => ?_, ?_⟩
  · rcases List.mem_cons.mp he with rfl | he
    · exact ⟨[], by rw [upd_ne nqz]; exact upd_same, rfl, rfl⟩
    · obtain ⟨ws, h3, h4⟩ := h1.ea e he
      have hin : ∀ x ∈ e.1 :: e.2.2, x ∈ own st := fun x hx => List.mem_flatMap.mpr ⟨e, he, hx⟩
      have nz : zV ∉ e.1 :: e.2.2 := fun hm => nd.1 (hin _ hm)
      exact ⟨ws, by rw [upd_ne (fun z => nz (by rw [← z]; exact List.mem_cons_self))]; exact h3, h4.keep tk (upd_off fun hm => nz (List.mem_cons_of_mem _ hm))⟩
  · rw [own_cons]
    refine List.nodup_cons.mpr ⟨fun hm => ?_, List.nodup_cons.mpr ⟨fun hm => nq (List.mem_cons_of_mem _ hm), nd.2⟩⟩
    rcases List.mem_cons.mp hm with e | hm
    · exact nqz e.symm
    · exact nd.1 hm
theorem LM.pop {e : Addr × Tr × List Addr} (h : LM H zV (e :: s)) : LM (upd H zV (.lst (lvs (stk s)))) zV s ∧ ∃ vs, upd H zV (.lst (lvs (stk s))) e.1 = some (.lst vs) ∧ RepM (upd H zV (.lst (lvs (stk s)))) e.2.1 vs e.2.2 := by
  have tk : TKeep H (upd H zV (.lst (lvs (stk s)))) := TKeep.mut h.hV
  have nd := List.nodup_cons.mp h.nd
  rw [own_cons] at nd
  have nd2 := List.nodup_cons.mp nd.2
  have ndl := List.nodup_append.mp nd2.2
  have keepE : ∀ x ∈ e :: s, ∃ vs, upd H zV (.lst (lvs (stk s))) x.1 = some (.lst vs) ∧ RepM (upd H zV (.lst (lvs (stk s)))) x.2.1 vs x.2.2 := fun x hx => by
    obtain ⟨ws, h3, h4⟩ := h.ea x hx
    have nz : zV ∉ x.1 :: x.2.2 := fun hm => nd.1 (by rw [← own_cons]; exact List.mem_flatMap.mpr ⟨x, hx, hm⟩)
    exact ⟨ws, by rw [upd_ne (fun z => nz (by rw [← z]; exact List.mem_cons_self))]; exact h3, h4.keep tk (upd_off fun hm => nz (List.mem_cons_of_mem _ hm))⟩
  refine ⟨⟨upd_same, fun x hx => keepE x (List.mem_cons_of_mem _ hx), List.nodup_cons.mpr ⟨fun hm => nd.1 (List.mem_cons_of_mem _ (List.mem_append_right _ hm)), ndl.2.1⟩⟩, keepE e List.mem_cons_self⟩
/-- one more argument of the last call of the innermost level -/
theorem LM.arg {n : List Nat} {a : Ar} {x : Addr} {w : Tr} {xs : List V} (h : LM H zV ((p, appT u (.call n a .nil), ls) :: s)) (hx : H x = some (.tup xs)) (hw : RepT H w xs) :
    ∃ (q : Addr) (cp : Addr) (vu : List V) (us : List V), H p = some (.lst (vu ++ [.ref cp])) ∧ H cp = some (.tup [kCall, sV n, .ref q]) ∧ H q = some (.lst us) ∧ q ∈ ls ∧ us.length ≤ (toksA a).length ∧
      LM (upd H q (.lst (us ++ [.ref x]))) zV ((p, appT u (.call n (appA a (.cons w .nil)) .nil), ls) :: s) := by
  obtain ⟨vs, hp, hr⟩ := h.ea _ List.mem_cons_self
  obtain ⟨vu, vc, l1, l2, rfl, el, ru, rc⟩ := hr.split
  obtain ⟨cp, q, us, vs', ls', rfl, rfl, hcp, hq, hA, rfl, rfl⟩ := rc
  have el2 : ls = l1 ++ [q] := el
  subst el2
  refine ⟨q, cp, vu, us, hp, hcp, hq, by simp, hA.len, ?_⟩
  have tk : TKeep H (upd H q (.lst (us ++ [.ref x]))) := TKeep.mut hq
  have nd := h.nd
  rw [own_cons] at nd
  have nd1 := List.nodup_cons.mp nd
  have nd2 := List.nodup_cons.mp nd1.2
  have ndl := List.nodup_append.mp nd2.2
  have ndq := List.nodup_append.mp ndl.1
  have nqz : zV ≠ q := fun e => nd1.1 (by rw [e]; exact List.mem_cons_of_mem _ (List.mem_append_left _ (by simp)))
  have nqp : p ≠ q := fun e => nd2.1 (by rw [e]; exact List.mem_append_left _ (by simp))
  have nql : q ∉ l1 := fun hm => ndq.2.2 q hm q List.mem_cons_self rfl
  have nqs : q ∉ own s := fun hm => ndl.2.2 q (by simp) q hm rfl
  refine ⟨by rw [upd_ne nqz]; exact h.hV, fun e he => ?_, h.nd⟩
  rcases List.mem_cons.mp he with rfl | he
  · refine ⟨vu ++ [.ref cp], by rw [upd_ne nqp]; exact hp, (ru.keep tk (upd_off nql)).app ?_⟩
    refine ⟨cp, q, us ++ [.ref x], [], [], rfl, rfl, tk _ _ hcp, upd_same, RepA.keep tk (hA.app ?_), rfl, rfl⟩
    simp only [RepA]
    exact ⟨x, xs, [], rfl, hx, hw, rfl⟩
  · obtain ⟨ws, h3, h4⟩ := h.ea e (List.mem_cons_of_mem _ he)
    have hin : ∀ y ∈ e.1 :: e.2.2, y ∈ own s := fun y hy => List.mem_flatMap.mpr ⟨e, he, hy⟩
    have nq : q ∉ e.1 :: e.2.2 := fun hm => nqs (hin _ hm)
    exact ⟨ws, by rw [upd_ne (fun z => nq (by rw [← z]; exact List.mem_cons_self))]; exact h3, h4.keep tk (upd_off fun hm => nq (List.mem_cons_of_mem _ hm))⟩
end
/-! ### the levels and the tokens: one token more -/
section
variable {most : Nat} {st s : Stk} {ts : List (List Nat)} {p p' : Addr} {t u : Tr}
theorem LvT.push (h : LvT most st ts) (q : Addr) (hf : free ts = true) (hl : st.length < most + 1) : LvT most ((q, .nil) :: st) (ts ++ [[123]]) := by
  obtain ⟨dp, el, hw⟩ := h.w
  refine ⟨?_, ⟨dp + 1, by rw [List.length_cons, el], .opn hw hf (by omega)⟩, ?_, fun z => ?_, ⟨?_, h.dp⟩, fun e he => ?_⟩
  · rw [← h.fl]
    cases st with
    | nil => cases el
    | cons e s =>
      show flatR (.nil :: e.2 :: s.map (·.2)) = flatR (e.2 :: s.map (·.2)) ++ [[123]]
      simp only [flatR, toksT]
  · cases st with
    | nil => exact fun e he => nomatch he
    | cons e0 s =>
      intro e he
      rcases List.mem_cons.mp he with rfl | he
      · exact h.fr hf _ rfl
      · exact h.ec e he
  · rw [free_snoc] at z
    exact absurd z (by decide)
  · show depT .nil + st.length ≤ most
    simp only [depT]
    omega
  · rcases List.mem_cons.mp he with rfl | he
    · simp only [GoodT]
    · exact h.g e he
theorem LvT.add {n : Tr} {z : List Nat} (h : LvT most ((p, t) :: s) ts) (dn : depT n = 0) (gn : GoodT n) (tn : toksT n = [z]) (hk : (∃ nm, z = 64 :: nm ∧ RName nm ∧ n = .call nm .nil .nil) ∨ RWord z) :
    LvT most ((p, appT t n) :: s) (ts ++ [z]) := by
  obtain ⟨dp, el, hw⟩ := h.w
  refine ⟨?_, ⟨dp, el, ?_⟩, h.ec, fun hfr e he => ?_, ⟨?_, h.dp.2⟩, fun e he => ?_⟩
  · rw [← h.fl]
    exact flatR_head t _ _ [z] (by rw [toksT_app, tn])
  · rcases hk with ⟨nm, rfl, hn, _⟩ | hz
    · exact .call hw hn
    · exact .word hw hz
  · rcases hk with ⟨nm, _, _, rfl⟩ | hz
    · cases he
      exact ⟨t, nm, .nil, rfl⟩
    · rw [free_snoc, decide_eq_false hz.head.2.2, decide_eq_false hz.head.1] at hfr
      exact absurd hfr (by decide)
  · have h1 : depT t + s.length ≤ most := h.dp.1
    show depT (appT t n) + s.length ≤ most
    rw [depT_app, dn]
    omega
  · rcases List.mem_cons.mp he with rfl | he
    · exact GoodT_app (h.g (p, t) List.mem_cons_self) gn
    · exact h.g e (List.mem_cons_of_mem _ he)
theorem LvT.close {nm : List Nat} {a : Ar} (h : LvT most ((p, t) :: (p', appT u (.call nm a .nil)) :: s) ts) : LvT most ((p', appT u (.call nm (appA a (.cons t .nil)) .nil)) :: s) (ts ++ [[125]]) := by
  obtain ⟨dp, el, hw⟩ := h.w
  have el2 : s.length + 1 = dp := by
    rw [List.length_cons, List.length_cons] at el
    omega
  obtain ⟨d2, rfl⟩ : ∃ d2, dp = d2 + 1 := ⟨dp - 1, by omega⟩
  have g0 := h.g _ List.mem_cons_self
  have g1 := h.g (p', appT u (.call nm a .nil)) (List.mem_cons_of_mem _ List.mem_cons_self)
  have ⟨gu, gc⟩ := GoodT_split g1
  simp only [GoodT] at gc
  refine ⟨?_, ⟨d2, by rw [List.length_cons]; omega, .cls hw⟩, fun e he => h.ec e (List.mem_cons_of_mem _ he), fun _ e he => ?_, ⟨?_, h.dp.2.2⟩, fun e he => ?_⟩
  · rw [← h.fl]
    show flatR (appT u (.call nm (appA a (.cons t .nil)) .nil) :: s.map (·.2)) = (flatR (appT u (.call nm a .nil) :: s.map (·.2)) ++ [123] :: toksT t) ++ [[125]]
    rw [flatR_head (appT u (.call nm a .nil)) (appT u (.call nm (appA a (.cons t .nil)) .nil)) (s.map (·.2)) ([123] :: (toksT t ++ [[125]]))]
    · simp only [List.append_assoc, List.cons_append]
    · rw [toksT_app, toksT_app]
      simp only [toksT, toksA_app, toksA, List.append_nil, List.append_assoc, List.cons_append, List.nil_append]
  · cases he
    exact ⟨u, nm, _, rfl⟩
  · show depT (appT u (.call nm (appA a (.cons t .nil)) .nil)) + s.length ≤ most
    have h1 : depT (appT u (.call nm a .nil)) + s.length ≤ most := h.dp.2.1
    have h2 : depT t + (s.length + 1) ≤ most := h.dp.1
    rw [depT_app] at h1 ⊢
    simp only [depT, depA_app, depA] at h1 ⊢
    omega
  · rcases List.mem_cons.mp he with rfl | he
    · refine GoodT_app gu ?_
      simp only [GoodT]
      refine ⟨gc.1, GoodA_app gc.2.1 ?_, trivial⟩
      simp only [GoodA]
      exact ⟨g0, trivial⟩
    · exact h.g e (List.mem_cons_of_mem _ (List.mem_cons_of_mem _ he))
theorem LvT.tok_le (h : LvT most ((p, t) :: s) ts) : (toksT t).length ≤ ts.length := by
  rw [← h.fl]
  cases s with
  | nil => exact Nat.le_refl _
  | cons e s =>
    show _ ≤ (flatR (e.2 :: s.map (·.2)) ++ [123] :: toksT t).length
    rw [List.length_append, List.length_cons]
    omega
end
end Vf

set_option Elab.async false
set_option linter.all false
set_option maxRecDepth 100000
set_option maxHeartbeats 4000000
namespace Vf
open PySem PySem.Spec PyProof.Rows L2 TL
section
variable {P : Program} {w : World} {K : PySem.W.Frag} {mg : Str → Option Value} {base : Heap}
def spIs (f : List Nat → Bool) : Sp := fun vs H Q _ => ∃ z : List Nat, vs = [sV z] ∧ z.length ≤ 100000 ∧ Q (.bl (f z)) H
theorem bl_eq {a b : Bool} (h : a = b) : V.bl a = V.bl b := congrArg V.bl h
theorem dec_len {a b : Nat} : decide (V.int (a : Int) = V.int (b : Int)) = decide (a = b) := by
  by_cases h : a = b
  · subst h; rw [decide_eq_true (rfl : a = a)]; exact decide_eq_true rfl
  · rw [decide_eq_false h]
    exact decide_eq_false fun e => h (by have := V.int.inj e; omega)
def spCons : Sp := fun vs H Q _ => ∃ (z : List Nat) (a : Str), vs = [sV z, .str a] ∧ z.length ≤ 100000 ∧ Q (.bl (decide ((z.takeWhile fun c => decide (c ∈ a.cps.toList)).length = z.length))) H
theorem ok_consists (T : Txt K mg) : FnOk P w K mg base CX0 2 T.a_consists_of T.d_consists_of ["run", "allowed"] spCons := by
  have G_run_end : FnOk P w K mg base CX0 1 T.a_run_end T.d_run_end ["text", "at", "allowed"] spRunEnd := ok_run_end T
  refine T.D_consists_of.F.ok sc_consists_of (fun vs H Q E h => ?_) (fun cdv A outer s H vs Q E hr h => ?_)
  · obtain ⟨z, a, rfl, _⟩ := h
    rfl
  · obtain ⟨z, a, rfl, hz, q⟩ := h
    refine ⟨_, (pss_one (ps_ret (pe_cmpR op_eq (pe_call G_run_end (hr.mono (by decide)) (by rfl) T.D_run_end.G T.D_run_end.F.kp T.D_run_end.B .nil pass0 (pa_cons (pv 0) (pa_cons pe_int (pa_cons (pv 1) pa_nil)))) (pe_callB call_len_str (by rfl) T.n_len PySem.boot_len (pa_cons (pv 0) pa_nil)) (nomark _)))), ?_⟩
    have zl : (mkS z).length ≤ sizeLine := by rw [mkS_len]; exact big_ok hz
    refine ⟨_, rfl, _, rfl, mkS z, _, 0, rfl, Nat.zero_le _, by rw [mkS_len]; exact hz, ?_⟩
    refine ⟨_, rfl, mkS z, rfl, zl, rfl, ?_⟩
    rw [mkS_len, dec_len]
    have e4 : 0 + ((((mkS z).cps.toList.drop 0).takeWhile fun c => decide (c ∈ a.cps.toList)).length) = (z.takeWhile fun c => decide (c ∈ a.cps.toList)).length := by
      rw [Nat.zero_add]; rfl
    rw [e4]
    exact q
theorem ok_is_word (T : Txt K mg) : FnOk P w K mg base CX0 3 T.a_is_word T.d_is_word ["run"] (spIs isWordB) := by
  have G_consists_of : FnOk P w K mg base CX0 2 T.a_consists_of T.d_consists_of ["run", "allowed"] spCons := ok_consists T
  refine T.D_is_word.F.ok sc_is_word (fun vs H Q E h => ?_) (fun cdv A outer s H vs Q E hr h => ?_)
  · obtain ⟨z, rfl, _⟩ := h
    rfl
  · obtain ⟨z, rfl, hz, q⟩ := h
    refine ⟨_, (pss_one (ps_ret (pe_and (pe_chain op_le op_le pe_int (pe_callB call_len_str (by rfl) T.n_len PySem.boot_len (pa_cons (pv 0) pa_nil)) (pe_glob (v := .int 16) (by rfl) T.m_LONGEST_WORD ⟨_, rfl⟩)) (pe_one (pe_call G_consists_of (hr.mono (by decide)) (by rfl) T.D_consists_of.G T.D_consists_of.F.kp T.D_consists_of.B .nil pass0 (pa_cons (pv 0) (pa_cons (pe_glob (v := .str "abcdefghijklmnopqrstuvwxyz0123456789.,:;!?'()+=<>*/") (by rfl) T.m_WORD_CHARACTERS ⟨_, rfl⟩) pa_nil))))))), ?_⟩
    have zl : (mkS z).length ≤ sizeLine := by rw [mkS_len]; exact big_ok hz
    refine ⟨_, rfl, mkS z, rfl, zl, _, _, rfl, rfl, _, rfl, ?_⟩
    rw [mkS_len]
    by_cases h1 : 1 ≤ z.length
    · have e1 : decide ((1 : Int) ≤ (z.length : Nat)) = true := decide_eq_true (by omega)
      rw [e1]
      refine ⟨_, _, rfl, rfl, decide (z.length ≤ 16), bl_of ?_, ?_⟩
      · by_cases h2 : z.length ≤ 16
        · rw [decide_eq_true h2]; exact decide_eq_true (by show (z.length : Int) ≤ 16; omega)
        · rw [decide_eq_false h2]; exact decide_eq_false (by show ¬ (z.length : Int) ≤ 16; omega)
      by_cases h2 : z.length ≤ 16
      · rw [decide_eq_true h2]
        refine ⟨_, rfl, z, _, rfl, hz, ?_⟩
        unfold isWordB at q
        rw [if_pos ⟨h1, h2⟩] at q
        have e4 : (z.takeWhile fun c => decide (c ∈ (Str.ofString "abcdefghijklmnopqrstuvwxyz0123456789.,:;!?'()+=<>*/").cps.toList)).length = (z.takeWhile cW).length := rfl
        rw [e4]
        exact q
      · rw [decide_eq_false h2]
        unfold isWordB at q
        rw [if_neg (fun h => h2 h.2)] at q
        exact q
    · have e1 : decide ((1 : Int) ≤ (z.length : Nat)) = false := decide_eq_false (by omega)
      rw [e1]
      refine ⟨false, rfl, ?_⟩
      unfold isWordB at q
      rw [if_neg (fun h => h1 h.1)] at q
      exact q
theorem ok_is_name (T : Txt K mg) : FnOk P w K mg base CX0 3 T.a_is_name T.d_is_name ["run"] (spIs isNameB) := by
  have G_consists_of : FnOk P w K mg base CX0 2 T.a_consists_of T.d_consists_of ["run", "allowed"] spCons := ok_consists T
  refine T.D_is_name.F.ok sc_is_name (fun vs H Q E h => ?_) (fun cdv A outer s H vs Q E hr h => ?_)
  · obtain ⟨z, rfl, _⟩ := h
    rfl
  · obtain ⟨z, rfl, hz, q⟩ := h
    refine ⟨_, (pss_one (ps_ret (pe_and (pe_chain op_le op_le pe_int (pe_callB call_len_str (by rfl) T.n_len PySem.boot_len (pa_cons (pv 0) pa_nil)) (pe_glob (v := .int 8) (by rfl) T.m_LONGEST_NAME ⟨_, rfl⟩)) (pe_one (pe_call G_consists_of (hr.mono (by decide)) (by rfl) T.D_consists_of.G T.D_consists_of.F.kp T.D_consists_of.B .nil pass0 (pa_cons (pv 0) (pa_cons (pe_glob (v := .str "abcdefghijklmnopqrstuvwxyz") (by rfl) T.m_LETTERS ⟨_, rfl⟩) pa_nil))))))), ?_⟩
    have zl : (mkS z).length ≤ sizeLine := by rw [mkS_len]; exact big_ok hz
    refine ⟨_, rfl, mkS z, rfl, zl, _, _, rfl, rfl, _, rfl, ?_⟩
    rw [mkS_len]
    by_cases h1 : 1 ≤ z.length
    · have e1 : decide ((1 : Int) ≤ (z.length : Nat)) = true := decide_eq_true (by omega)
      rw [e1]
      refine ⟨_, _, rfl, rfl, decide (z.length ≤ 8), bl_of ?_, ?_⟩
      · by_cases h2 : z.length ≤ 8
        · rw [decide_eq_true h2]; exact decide_eq_true (by show (z.length : Int) ≤ 8; omega)
        · rw [decide_eq_false h2]; exact decide_eq_false (by show ¬ (z.length : Int) ≤ 8; omega)
      by_cases h2 : z.length ≤ 8
      · rw [decide_eq_true h2]
        refine ⟨_, rfl, z, _, rfl, hz, ?_⟩
        unfold isNameB at q
        rw [if_pos ⟨h1, h2⟩] at q
        have e4 : (z.takeWhile fun c => decide (c ∈ (Str.ofString "abcdefghijklmnopqrstuvwxyz").cps.toList)).length = (z.takeWhile cL).length := rfl
        rw [e4]
        exact q
      · rw [decide_eq_false h2]
        unfold isNameB at q
        rw [if_neg (fun h => h2 h.2)] at q
        exact q
    · have e1 : decide ((1 : Int) ≤ (z.length : Nat)) = false := decide_eq_false (by omega)
      rw [e1]
      refine ⟨false, rfl, ?_⟩
      unfold isNameB at q
      rw [if_neg (fun h => h1 h.1)] at q
      exact q
def spFits : Sp := fun vs H Q _ => ∃ (z : List Nat) (many : Nat) (b : Bool), vs = [sV z, .int (many : Int), .bl b] ∧ z ≠ [] ∧ z.length ≤ 100000 ∧ Q (.bl (fitsB z many b)) H
theorem cut_tail' {c : Nat} {n : List Nat} (hl : n.length ≤ 100000) : cutS (mkS (c :: n)) (some 1) none = mkS n := by
  unfold cutS
  have h1 : HT.sIx (mkS (c :: n)).length 0 (some 1) = 1 := by
    rw [show (1 : Int) = ((1 : Nat) : Int) from rfl, HT.sIx_nat, mkS_len]
    show min 1 (n.length + 1) = 1
    omega
  rw [h1, HT.sIx_none, mkS_len]
  show mkS ((n).take (n.length + 1 - 1)) = mkS n
  rw [List.take_of_length_le (by omega)]
theorem ok_fits (T : Txt K mg) : FnOk P w K mg base CX0 4 T.a_fits T.d_fits ["token", "many", "behind_call"] spFits := by
  have G_is_word : FnOk P w K mg base CX0 3 T.a_is_word T.d_is_word ["run"] (spIs isWordB) := ok_is_word T
  have G_is_name : FnOk P w K mg base CX0 3 T.a_is_name T.d_is_name ["run"] (spIs isNameB) := ok_is_name T
  refine T.D_fits.F.ok sc_fits (fun vs H Q E h => ?_) (fun cdv A outer s H vs Q E hr h => ?_)
  · obtain ⟨z, many, b, rfl, _⟩ := h
    rfl
  · obtain ⟨z, many, b, rfl, hn, hz, q⟩ := h
    refine ⟨_, (pss_cons (ps_if (pt_cmpR op_eq (pv 0) pe_str (nomark _)) (pss_one (ps_ret (pe_and (pv 2) (pe_one (pe_cmpR op_lt (pv 1) (pe_glob (v := .int 12) (by rfl) T.m_MOST_OPEN ⟨_, rfl⟩) (nomark _)))))) pss_nil)
      (pss_cons (ps_if (pt_cmpR op_eq (pv 0) pe_str (nomark _)) (pss_one (ps_ret (pe_cmpR op_gt (pv 1) pe_int (nomark _)))) pss_nil)
      (pss_cons (ps_if (pt_cmpR op_eq (pe_ix ix_str (pv 0) pe_int (fun _ _ => rfl)) pe_str (nomark _)) (pss_one (ps_ret (pe_call G_is_name (hr.mono (by decide)) (by rfl) T.D_is_name.G T.D_is_name.F.kp T.D_is_name.B .nil pass0 (pa_cons (pe_slice sl_str (pv 0) (po_some pe_int) po_none) pa_nil)))) pss_nil)
      (pss_one (ps_ret (pe_call G_is_word (hr.mono (by decide)) (by rfl) T.D_is_word.G T.D_is_word.F.kp T.D_is_word.B .nil pass0 (pa_cons (pv 0) pa_nil))))))), ?_⟩
    have zl : (mkS z).length ≤ sizeLine := by rw [mkS_len]; exact big_ok hz
    unfold fitsB at q
    by_cases h1 : z = [123]
    · rw [if_pos h1] at q
      refine ⟨_, rfl, rfl, true, bl_of ((dec_txt brO_mk).trans (decide_eq_true h1)), ?_⟩
      refine ⟨_, rfl, b, rfl, ?_⟩
      cases b with
      | true =>
        refine ⟨_, rfl, _, _, rfl, rfl, ?_⟩
        have e : decide ((many : Int) < 12) = (true && decide (many < 12)) := by
          rw [Bool.true_and]
          by_cases h : many < 12
          · rw [decide_eq_true h]; exact decide_eq_true (by omega)
          · rw [decide_eq_false h]; exact decide_eq_false (by omega)
        rw [← e] at q
        exact q
      | false => exact q
    rw [if_neg h1] at q
    refine ⟨_, rfl, rfl, false, bl_of ((dec_txt brO_mk).trans (decide_eq_false h1)), ?_⟩
    by_cases h2 : z = [125]
    · rw [if_pos h2] at q
      refine ⟨_, rfl, rfl, true, bl_of ((dec_txt brC_mk).trans (decide_eq_true h2)), ?_⟩
      refine ⟨_, rfl, _, _, rfl, rfl, ?_⟩
      have e : decide ((0 : Int) < (many : Int)) = decide (0 < many) := by
        by_cases h : 0 < many
        · rw [decide_eq_true h]; exact decide_eq_true (by omega)
        · rw [decide_eq_false h]; exact decide_eq_false (by omega)
      rw [← e] at q
      exact q
    rw [if_neg h2] at q
    refine ⟨_, rfl, rfl, false, bl_of ((dec_txt brC_mk).trans (decide_eq_false h2)), ?_⟩
    by_cases h3 : z.head? = some 64
    · rw [if_pos h3] at q
      refine ⟨_, rfl, mkS z, 0, _, rfl, rfl, zl, head0_at hn, rfl, true, bl_of ((dec_head hn).trans (decide_eq_true h3)), ?_⟩
      cases z with
      | nil => exact absurd rfl hn
      | cons c n =>
        rw [List.length_cons] at hz
        refine ⟨_, rfl, 1, rfl, mkS (c :: n), rfl, zl, ?_⟩
        rw [cut_tail' (by omega)]
        exact ⟨n, rfl, by omega, q⟩
    · rw [if_neg h3] at q
      refine ⟨_, rfl, mkS z, 0, _, rfl, rfl, zl, head0_at hn, rfl, false, bl_of ((dec_head hn).trans (decide_eq_false h3)), ?_⟩
      exact ⟨_, rfl, z, rfl, hz, q⟩
/-! ### a whole level -/
def spNodeOf : Sp := fun vs H Q _ => ∃ (v : V) (n : Tr) (ls : List Addr), vs = [v] ∧ RepM H n [v] ls ∧ ∀ H' v', Same H H' → RepT H' n [v'] → Q v' H'
theorem ok_node_of (T : Txt K mg) : FnOk P w K mg base CX0 1 T.a_node_of T.d_node_of ["node"] spNodeOf := by
  refine T.D_node_of.F.ok sc_node_of (fun vs H Q E h => ?_) (fun cdv A outer s H vs Q E hr h => ?_)
  · obtain ⟨v, n, ls, rfl, _⟩ := h
    rfl
  · obtain ⟨v, n, ls, rfl, hn, q⟩ := h
    refine ⟨_, (pss_cons (ps_if (pt_cmpR op_eq (pe_ix ix_tup (pv 0) pe_int (fun _ _ => rfl)) pe_str (nomark _)) (pss_one (ps_ret (pv 0))) pss_nil)
      (pss_one (ps_ret (pe_tup (pa_cons pe_str (pa_cons (pe_ix ix_tup (pv 0) pe_int (fun _ _ => rfl)) (pa_cons (pe_callTy call_tuple_of (by rfl) T.n_tuple (by decide +kernel) (pa_cons (pe_ix ix_tup (pv 0) pe_int (fun _ _ => rfl)) pa_nil)) pa_nil))))))), ?_⟩
    cases n with
    | nil => exact absurd hn.1 (by simp)
    | word z r =>
      obtain ⟨p, vs', e, hp, hr2⟩ := hn
      injection e with e1 e2
      subst e1 e2
      refine ⟨_, rfl, _, _, _, _, rfl, rfl, SqT.of hp, rfl, rfl, true, word_eq_word, ?_⟩
      refine ⟨_, rfl, q H (.ref p) (Same.refl H) ?_⟩
      simp only [RepT]
      cases r with
      | nil => exact ⟨p, [], rfl, hp, by simp only [RepT]⟩
      | word _ _ => obtain ⟨_, _, e, _⟩ := hr2; cases e
      | call _ _ _ => obtain ⟨_, _, _, _, _, e, _⟩ := hr2; cases e
    | call nm a r =>
      obtain ⟨p, c, us, vs', ls', e, rfl, hp, hc, hA, hr2⟩ := hn
      injection e with e1 e2
      subst e1 e2
      refine ⟨_, rfl, _, _, _, _, rfl, rfl, SqT.of hp, rfl, rfl, false, call_ne_word, ?_⟩
      refine ⟨_, rfl, _, _, _, _, rfl, rfl, SqT.of hp, rfl, _, rfl, _, _, _, _, rfl, rfl, SqT.of hp, rfl, c, us, rfl, .inl ⟨SqL.of hc, fun x nx => ?_⟩⟩
      refine ⟨by show 3 ≤ sizeLine; decide, fun y ny => ?_⟩
      have s1 : Same H (upd H x (.tup us)) := same_upd (Same.refl H) nx
      have s2 : Same (upd H x (.tup us)) (upd (upd H x (.tup us)) y (.tup [kCall, sV nm, .ref x])) := same_upd (Same.refl _) ny
      have tk := TKeep.same (s1.trans s2)
      refine q _ (.ref y) (s1.trans s2) ?_
      simp only [RepT]
      refine ⟨y, x, us, [], rfl, upd_same, s2 _ _ upd_same, hA.keep tk, ?_⟩
      cases r with
      | nil => simp only [RepT]
      | word _ _ => obtain ⟨_, _, e, _⟩ := hr2; cases e
      | call _ _ _ => obtain ⟨_, _, _, _, _, e, _⟩ := hr2; cases e
def spTreeOfP (K : PySem.W.Frag) : Sp := fun vs H Q _ => ∃ (p : Addr) (t : Tr) (us : List V) (ls : List Addr), vs = [.ref p] ∧ H p = some (.lst us) ∧ RepM H t us ls ∧ (toksT t).length ≤ 50000 ∧
  ∀ H' c ws, Same H H' → H c = none → H' c = some (.tup ws) → RepT H' t ws → Q (.ref c) H'
theorem ok_tree_ofP (T : Txt K mg) : FnOk P w K mg base CX0 2 T.a_tree_of T.d_tree_of ["nodes"] (spTreeOfP K) := by
  have G_node_of : FnOk P w K mg base CX0 1 T.a_node_of T.d_node_of ["node"] spNodeOf := ok_node_of T
  refine T.D_tree_of.F.ok sc_tree_of (fun vs H Q E h => ?_) (fun cdv A outer s H vs Q E hr h => ?_)
  · obtain ⟨p, t, us, ls, rfl, _⟩ := h
    rfl
  · obtain ⟨p, t, us, ls, rfl, hp, hR, hl, q⟩ := h
    refine ⟨_, (pss_one (ps_ret (pe_callTy call_tuple_of (by rfl) T.n_tuple (by decide +kernel) (pa_cons (pe_lc (own := [("node", 1)]) (g := gName 1) (tt := tYes) rfl sc_tree_of.nd (pi_list (pv 0)) (blkOk_by (own := [("node", 1)]) (N := ["nodes", "node"]) (sc := defScope s_tree_of) (by decide +kernel)) (fun _ _ _ _ _ => (pg_name (i := 1) sc_tree_of.nd rfl (.inl rfl))) (fun _ _ _ _ _ => pts_nil) (fun _ _ _ _ _ => (pe_call G_node_of (hr.mono (by decide)) (by rfl) T.D_node_of.G T.D_node_of.F.kp T.D_node_of.B .nil pass0 (pa_cons (pv 1) pa_nil)))) pa_nil)))), ?_⟩
    refine ⟨_, rfl, p, rfl, ⟨_, SqL.of hp⟩, fun D nD => ?_⟩
    have S0 : Same H (upd H D (.lst [])) := same_upd (Same.refl H) nD
    refine lc_list (K := K) (a := p) (xs := us) (fun i H' => ∃ (u r : Tr) (vs : List V) (ms : List Addr), H' D = some (.lst vs) ∧ RepT H' u vs ∧ RepM H r (us.drop i) ms ∧ appT u r = t ∧ Same H H')
      ⟨.nil, t, [], ls, upd_same, by simp only [RepT], hR, rfl, S0⟩ ?_ ?_ ?_
    · rintro i H' _ ⟨_, _, _, _, _, _, _, _, k⟩
      exact SqL.of (k _ _ hp)
    · rintro i x H' hx ⟨u, r, vs, ms, e1, hu, hr1, er, k1⟩
      rw [drop_x hx] at hr1
      have vl := hu.len
      have ul : (toksT u).length ≤ 50000 := by
        rw [← er, toksT_app, List.length_append] at hl
        omega
      have more : ∀ (n r2 : Tr) (m1 : List Addr) (m2 : List Addr), RepM H n [x] m1 → RepM H r2 (us.drop (i + 1)) m2 → appT u (appT n r2) = t →
          spNodeOf [x] H' (fun y H4 => ∃ acc, H4 D = some (.lst acc) ∧ acc.length < sizeLine ∧ ∃ (u r : Tr) (vs : List V) (ms : List Addr), upd H4 D (.lst (acc ++ [y])) D = some (.lst vs) ∧ RepT (upd H4 D (.lst (acc ++ [y]))) u vs ∧ RepM H r (us.drop (i + 1)) ms ∧ appT u r = t ∧ Same H (upd H4 D (.lst (acc ++ [y])))) E0 := by
        intro n r2 m1 m2 hn hr2 et
        refine ⟨x, n, m1, rfl, hn.keep (TKeep.same k1) (fun _ _ _ e => k1 _ _ e), fun H4 v' s4 hv' => ?_⟩
        have e4 := s4 _ _ e1
        refine ⟨vs, e4, lt_size (by omega), appT u n, r2, _, m2, upd_same, RepT.keep (TKeep.mut e4) ((hu.keep (TKeep.same s4)).app hv'), hr2, ?_, same_mut (k1.trans s4) nD⟩
        rw [appT_assoc]; exact et
      cases r with
      | nil => exact absurd hr1.1 (by simp)
      | word z r =>
        obtain ⟨y, vs', e3, hy, hr2⟩ := hr1
        injection e3 with e4 e5
        subst e4 e5
        exact ⟨rfl, _, rfl, more (.word z .nil) r [] ms ⟨y, [], rfl, hy, rfl, rfl⟩ hr2 er⟩
      | call nm a r =>
        obtain ⟨y, c, ws, vs', ls', e3, rfl, hy, hc, hA, hr2⟩ := hr1
        injection e3 with e4 e5
        subst e4 e5
        exact ⟨rfl, _, rfl, more (.call nm a .nil) r [c] ls' ⟨y, c, ws, [], [], rfl, rfl, hy, hc, hA, rfl, rfl⟩ hr2 er⟩
    · rintro H' ⟨u, r, vs, ms, e1, hu, hr1, er, k1⟩
      rw [List.drop_length] at hr1
      refine ⟨D, vs, rfl, .inl ⟨SqL.of e1, fun c nc => ?_⟩⟩
      have eu : u = t := by
        cases r with
        | nil => rw [appT_nil] at er; exact er
        | word _ _ => obtain ⟨_, _, e, _⟩ := hr1; cases e
        | call _ _ _ => obtain ⟨_, _, _, _, _, e, _⟩ := hr1; cases e
      subst eu
      exact q _ c vs (same_upd k1 nc) (k1.free nc) upd_same (hu.keep (TKeep.new nc))
end
end Vf

set_option Elab.async false
set_option linter.all false
set_option maxRecDepth 100000
set_option maxHeartbeats 4000000
namespace Vf
open PySem PySem.Spec PyProof.Rows L2 TL
theorem all_of_tw {p : Nat → Bool} : ∀ {z : List Nat}, (z.takeWhile p).length = z.length → ∀ c ∈ z, p c = true
  | [], _ => fun _ h => nomatch h
  | c :: r, h => by
    cases e : p c with
    | true =>
      rw [List.takeWhile_cons_of_pos e] at h
      have ih := all_of_tw (p := p) (z := r) (Nat.succ.inj h)
      intro x hx
      rcases List.mem_cons.mp hx with rfl | hx
      · exact e
      · exact ih x hx
    | false =>
      rw [List.takeWhile_cons_of_neg (by rw [e]; decide)] at h
      cases h
theorem isWord_to {z : List Nat} (h : isWordB z = true) : RWord z := by
  unfold isWordB at h
  by_cases hl : 1 ≤ z.length ∧ z.length ≤ 16
  · rw [if_pos hl] at h
    exact ⟨fun e => by rw [e] at hl; exact absurd hl.1 (by decide), hl.2, all_of_tw (of_decide_eq_true h)⟩
  · rw [if_neg hl] at h; cases h
theorem isName_to {z : List Nat} (h : isNameB z = true) : RName z := by
  unfold isNameB at h
  by_cases hl : 1 ≤ z.length ∧ z.length ≤ 8
  · rw [if_pos hl] at h
    exact ⟨fun e => by rw [e] at hl; exact absurd hl.1 (by decide), hl.2, all_of_tw (of_decide_eq_true h)⟩
  · rw [if_neg hl] at h; cases h
/-- what a token that fits is -/
theorem fits_cases {z : List Nat} {many : Nat} {b : Bool} (h : fitsB z many b = true) (hn : z ≠ []) :
    (z = [123] ∧ b = true ∧ many < 12) ∨ (z = [125] ∧ 0 < many) ∨ (∃ n, z = 64 :: n ∧ RName n) ∨ (RWord z) := by
  unfold fitsB at h
  by_cases h1 : z = [123]
  · rw [if_pos h1] at h
    have ⟨a, c⟩ := Bool.and_eq_true_iff.mp h
    exact .inl ⟨h1, a, of_decide_eq_true c⟩
  rw [if_neg h1] at h
  by_cases h2 : z = [125]
  · rw [if_pos h2] at h
    exact .inr (.inl ⟨h2, of_decide_eq_true h⟩)
  rw [if_neg h2] at h
  by_cases h3 : z.head? = some 64
  · rw [if_pos h3] at h
    cases z with
    | nil => exact absurd rfl hn
    | cons c n =>
      have e : c = 64 := Option.some.inj h3
      subst e
      exact .inr (.inr (.inl ⟨n, rfl, isName_to h⟩))
  · rw [if_neg h3] at h
    exact .inr (.inr (.inr (isWord_to h)))
theorem call_not_br {nm : List Nat} : ((64 :: nm) ≠ [123]) ∧ ((64 :: nm) ≠ [125]) := by
  refine ⟨fun e => ?_, fun e => ?_⟩
  · injection e with e1 _; exact absurd e1 (by decide)
  · injection e with e1 _; exact absurd e1 (by decide)
theorem stk_length (st : SM) : (stk st).length = st.length := by unfold stk; rw [List.length_map]
theorem lvs_length (st : Stk) : (lvs st).length = st.length := by unfold lvs; rw [List.length_reverse, List.length_map]
section
variable {P : Program} {w : World} {K : PySem.W.Frag} {mg : Str → Option Value} {base : Heap}
def spTake : Sp := fun vs H Q _ => ∃ (z : List Nat) (zV : Addr) (st : SM) (ts : List (List Nat)), vs = [sV z, .ref zV] ∧ LM H zV st ∧ LvT 12 (stk st) ts ∧ fitsB z (st.length - 1) (free ts) = true ∧ z ≠ [] ∧ z.length ≤ 1000 ∧ ts.length ≤ 40000 ∧
  ∀ H' st', Off (zV :: own st) H H' → LM H' zV st' → LvT 12 (stk st') (ts ++ [z]) → (∀ a ∈ own st', a ∈ zV :: own st ∨ H a = none) → Q .non H'
theorem ok_take (T : Txt K mg) : FnOk P w K mg base CX0 3 T.a_take T.d_take ["token", "levels"] spTake := by
  have G_tree_of : FnOk P w K mg base CX0 2 T.a_tree_of T.d_tree_of ["nodes"] (spTreeOfP K) := ok_tree_ofP T
  refine T.D_take.F.ok sc_take (fun vs H Q E h => ?_) (fun cdv A outer s H vs Q E hr h => ?_)
  · obtain ⟨z, zV, st, ts, rfl, _⟩ := h
    rfl
  · obtain ⟨z, zV, st, ts, rfl, L, LT, hf, hn, hz, htl, q⟩ := h
    refine ⟨_, (pss_one (ps_if (pt_cmpR op_eq (pv 0) pe_str (nomark _)) (pss_one (ps_expr (pe_bm PySem.F.plainAttrs_list PySem.F.slot_list_append PySem.F.type_list_append mt_append (pv 1) (pa_cons (pe_lst pa_nil) pa_nil)))) (pss_one (ps_if (pt_cmpR op_eq (pv 0) pe_str (nomark _)) (pss_cons (ps_set (i := 2) sc_take.nd rfl (.inl rfl) (pe_call G_tree_of (hr.mono (by decide)) (by rfl) T.D_tree_of.G T.D_tree_of.F.kp T.D_tree_of.B .nil pass0 (pa_cons (pe_bm0 PySem.F.plainAttrs_list PySem.F.slot_list_pop PySem.F.type_list_pop mt_pop (pv 1)) pa_nil)))
      (pss_cons (ps_set (i := 3) sc_take.nd rfl (.inl rfl) (pe_ix ix_list (pe_ix ix_list (pv 1) (pe_un un_neg pe_int) (fun _ _ => rfl)) (pe_un un_neg pe_int) (fun _ _ => rfl)))
      (pss_one (ps_expr (pe_bm PySem.F.plainAttrs_list PySem.F.slot_list_append PySem.F.type_list_append mt_append (pe_ix ix_tup (pv 3) pe_int (fun _ _ => rfl)) (pa_cons (pv 2) pa_nil)))))) (pss_one (ps_if (pt_cmpR op_eq (pe_ix ix_str (pv 0) pe_int (fun _ _ => rfl)) pe_str (nomark _)) (pss_one (ps_expr (pe_bm PySem.F.plainAttrs_list PySem.F.slot_list_append PySem.F.type_list_append mt_append (pe_ix ix_list (pv 1) (pe_un un_neg pe_int) (fun _ _ => rfl)) (pa_cons (pe_tup (pa_cons pe_str (pa_cons (pe_slice sl_str (pv 0) (po_some pe_int) po_none) (pa_cons (pe_lst pa_nil) pa_nil)))) pa_nil)))) (pss_one (ps_expr (pe_bm PySem.F.plainAttrs_list PySem.F.slot_list_append PySem.F.type_list_append mt_append (pe_ix ix_list (pv 1) (pe_un un_neg pe_int) (fun _ _ => rfl)) (pa_cons (pe_tup (pa_cons pe_str (pa_cons (pv 0) pa_nil))) pa_nil)))))))))), ?_⟩
    obtain ⟨dp, el, hdp⟩ := LT.w
    rw [stk_length] at el
    cases st with
    | nil => cases el
    | cons e0 s =>
      obtain ⟨p0, t0, ls0⟩ := e0
      have zl : (mkS z).length ≤ sizeLine := by rw [mkS_len]; exact Nat.le_trans hz (by decide)
      have hV0 := L.hV
      have at0 : atI (lvs (stk ((p0, t0, ls0) :: s))) (-1) = some (.ref p0) := by
        show atI (lvs ((p0, t0) :: stk s)) (-1) = _
        rw [lvs_cons]; exact atI_last _ _
      obtain ⟨vs0, c0, r0⟩ := L.ea _ List.mem_cons_self
      have tl0 : (toksT t0).length ≤ ts.length := LvT.tok_le (p := p0) (s := stk s) LT
      have v0l : vs0.length < sizeLine := by
        have h1 : vs0.length ≤ (toksT t0).length := r0.len
        exact lt_size (by omega)
      have p0in : p0 ∈ zV :: own ((p0, t0, ls0) :: s) := by rw [own_cons]; exact List.mem_cons_of_mem _ List.mem_cons_self
      rcases fits_cases hf hn with ⟨rfl, hb, hm⟩ | ⟨rfl, hm⟩ | ⟨nm, rfl, hnm⟩ | hw
      · -- an open brace
        refine ⟨_, rfl, rfl, true, bl_of ((dec_txt brO_mk).trans (decide_eq_true rfl)), ?_⟩
        refine ⟨.ref zV, rfl, .inl ⟨rfl, _, SqL.of hV0⟩, by show 0 ≤ sizeLine; decide, fun x nx => ?_⟩
        have hV2 : upd H x (.lst []) zV = some (.lst (lvs (stk ((p0, t0, ls0) :: s)))) := by rw [upd_ne (ne_of_none hV0 nx)]; exact hV0
        refine ⟨zV, _, _, rfl, rfl, hV2, ?_, ?_⟩
        · rw [lvs_length, stk_length, List.length_cons]
          exact lt_size (by rw [List.length_cons] at hm; omega)
        · refine q _ _ ((Off.same (same_upd (Same.refl H) nx)).mut List.mem_cons_self) (L.push nx) (LT.push x hb (by rw [stk_length, List.length_cons]; rw [List.length_cons] at hm; omega)) fun a ha => ?_
          rw [own_cons] at ha
          rcases List.mem_cons.mp ha with rfl | ha
          · exact .inr nx
          · exact .inl (List.mem_cons_of_mem _ ha)
      · -- a closing brace
        cases s with
        | nil => exact absurd hm (by show ¬ 0 < 1 - 1; decide)
        | cons e1 s =>
          obtain ⟨p1, t1, ls1⟩ := e1
          refine ⟨_, rfl, rfl, false, bl_of ((dec_txt brO_mk).trans (decide_eq_false (by decide))), ?_⟩
          refine ⟨_, rfl, rfl, true, bl_of ((dec_txt brC_mk).trans (decide_eq_true rfl)), ?_⟩
          have hV1 : H zV = some (.lst (lvs (stk ((p1, t1, ls1) :: s)) ++ [.ref p0])) := by rw [hV0]; show some (HO.lst (lvs ((p0, t0) :: stk ((p1, t1, ls1) :: s)))) = _; rw [lvs_cons]
          refine ⟨.ref zV, rfl, .inl ⟨rfl, _, SqL.of hV1⟩, zV, _, _, rfl, rfl, hV1, last_map, ?_⟩
          rw [List.dropLast_concat]
          obtain ⟨L1, vsI, cI, rI⟩ := L.pop
          refine ⟨p0, t0, vsI, ls0, rfl, cI, rI, by omega, fun H2 c ws s2 nc ec hc => ?_⟩
          have L2' := L1.same s2
          have at1 : atI (lvs (stk ((p1, t1, ls1) :: s))) (-1) = some (.ref p1) := by
            show atI (lvs ((p1, t1) :: stk s)) (-1) = _
            rw [lvs_cons]; exact atI_last _ _
          obtain ⟨u, nm, a, et1⟩ := LT.ec (p1, t1) List.mem_cons_self
          have et1' : t1 = appT u (.call nm a .nil) := et1
          subst et1'
          obtain ⟨qq, cp, vu, us, hp1, hcp, hq, hqin, hul, L3⟩ := L2'.arg ec hc
          have a1 : (toksA a).length ≤ ts.length := by
            rw [← LT.fl]
            show _ ≤ (flatR (appT u (.call nm a .nil) :: (stk s).map (·.2)) ++ [123] :: toksT t0).length
            have h3 : (toksT (appT u (.call nm a .nil))).length ≤ (flatR (appT u (.call nm a .nil) :: (stk s).map (·.2))).length := by
              cases s with
              | nil => exact Nat.le_refl _
              | cons e s3 =>
                show _ ≤ (flatR (e.2.1 :: (stk s3).map (·.2)) ++ [123] :: toksT (appT u (.call nm a .nil))).length
                rw [List.length_append, List.length_cons]; omega
            rw [toksT_app, List.length_append] at h3
            simp only [toksT, List.length_append, List.length_cons] at h3
            rw [List.length_append]; omega
          refine ⟨_, rfl, 1, rfl, zV, _, -1, _, rfl, rfl, SqL.of L2'.hV, at1, 1, rfl, p1, _, -1, _, rfl, rfl, SqL.of hp1, atI_last _ _, ?_⟩
          refine ⟨_, rfl, cp, _, 2, _, rfl, rfl, SqT.of hcp, rfl, .inl ⟨rfl, _, SqL.of hq⟩, _, rfl, qq, _, _, rfl, rfl, hq, lt_size (by omega), ?_⟩
          have inn : ∀ x ∈ zV :: own ((p1, appT u (.call nm a .nil), ls1) :: s), x ∈ zV :: own ((p0, t0, ls0) :: (p1, appT u (.call nm a .nil), ls1) :: s) := fun x hx => by
            rcases List.mem_cons.mp hx with rfl | hx
            · exact List.mem_cons_self
            · rw [own_cons]; exact List.mem_cons_of_mem _ (List.mem_cons_of_mem _ (List.mem_append_right _ hx))
          have qin : qq ∈ zV :: own ((p1, appT u (.call nm a .nil), ls1) :: s) := by rw [own_cons]; exact List.mem_cons_of_mem _ (List.mem_cons_of_mem _ (List.mem_append_left _ hqin))
          refine q _ _ ((((Off.same (Same.refl H)).mut List.mem_cons_self).trans (Off.same s2)).mut (inn _ qin)) L3 (LvT.close (p := p0) (p' := p1) (s := stk s) LT) fun x hx => .inl (inn x ?_)
          rw [own_cons] at hx ⊢
          exact List.mem_cons_of_mem _ hx
      · -- a call
        have nl := hnm.len
        refine ⟨_, rfl, rfl, false, bl_of ((dec_txt brO_mk).trans (decide_eq_false call_not_br.1)), ?_⟩
        refine ⟨_, rfl, rfl, false, bl_of ((dec_txt brC_mk).trans (decide_eq_false call_not_br.2)), ?_⟩
        refine ⟨_, rfl, mkS (64 :: nm), 0, _, rfl, rfl, zl, head0_at hn, rfl, true, bl_of ((dec_head hn).trans (decide_eq_true rfl)), ?_⟩
        refine ⟨_, rfl, 1, rfl, zV, _, -1, _, rfl, rfl, SqL.of hV0, at0, .inl ⟨rfl, _, SqL.of c0⟩, ?_⟩
        refine ⟨_, rfl, 1, rfl, mkS (64 :: nm), rfl, zl, ?_⟩
        rw [cut_tail' (by omega)]
        refine ⟨Nat.zero_le _, fun x nx => ⟨by show 3 ≤ sizeLine; decide, fun y ny => ?_⟩⟩
        have s1 : Same H (upd H x (.lst [])) := same_upd (Same.refl H) nx
        have s2 : Same (upd H x (.lst [])) (upd (upd H x (.lst [])) y (.tup [kCall, sV nm, .ref x])) := same_upd (Same.refl _) ny
        have Lx := L.same (s1.trans s2)
        have cx := (s1.trans s2) _ _ c0
        have nxo : x ∉ zV :: own ((p0, t0, ls0) :: s) := fun hm => by
          obtain ⟨vs, e⟩ := L.trk x hm
          rw [nx] at e; cases e
        refine ⟨p0, vs0, _, rfl, rfl, cx, v0l, ?_⟩
        refine q _ _ ((Off.same (s1.trans s2)).mut p0in) (Lx.add (u := .call nm .nil .nil) (ms := [x]) cx ?_ (by simp) ?_) (LvT.add (p := p0) (s := stk s) LT (by simp only [depT, depA]; rfl) (by simp only [GoodT, GoodA]; exact ⟨hnm, trivial, trivial⟩) (by simp only [toksT, toksA, List.append_nil]) (.inl ⟨nm, rfl, hnm, rfl⟩)) fun a ha => ?_
        · exact ⟨y, x, [], [], [], rfl, rfl, upd_same, s2 _ _ upd_same, by simp only [RepA], rfl, rfl⟩
        · intro b hb
          rw [List.mem_singleton.mp hb]; exact nxo
        · rw [own_cons] at ha ⊢
          rcases List.mem_cons.mp ha with rfl | ha
          · exact .inl (List.mem_cons_of_mem _ List.mem_cons_self)
          rcases List.mem_append.mp ha with ha | ha
          · rcases List.mem_append.mp ha with ha | ha
            · exact .inl (List.mem_cons_of_mem _ (List.mem_cons_of_mem _ (List.mem_append_left _ ha)))
            · rw [List.mem_singleton.mp ha]; exact .inr nx
          · exact .inl (List.mem_cons_of_mem _ (List.mem_cons_of_mem _ (List.mem_append_right _ ha)))
      · -- a word
        have ⟨h64, h123, h125⟩ := hw.head
        refine ⟨_, rfl, rfl, false, bl_of ((dec_txt brO_mk).trans (decide_eq_false h123)), ?_⟩
        refine ⟨_, rfl, rfl, false, bl_of ((dec_txt brC_mk).trans (decide_eq_false h125)), ?_⟩
        refine ⟨_, rfl, mkS z, 0, _, rfl, rfl, zl, head0_at hn, rfl, false, bl_of ((dec_head hn).trans (decide_eq_false h64)), ?_⟩
        refine ⟨_, rfl, 1, rfl, zV, _, -1, _, rfl, rfl, SqL.of hV0, at0, .inl ⟨rfl, _, SqL.of c0⟩, ?_⟩
        refine ⟨_, rfl, by show 2 ≤ sizeLine; decide, fun y ny => ?_⟩
        have s2 : Same H (upd H y (.tup [kWord, sV z])) := same_upd (Same.refl _) ny
        have Lx := L.same s2
        have cx := s2 _ _ c0
        refine ⟨p0, vs0, _, rfl, rfl, cx, v0l, ?_⟩
        refine q _ _ ((Off.same s2).mut p0in) (Lx.add (u := .word z .nil) (ms := []) cx ⟨y, [], rfl, upd_same, rfl, rfl⟩ (by simp) (fun _ h => nomatch h)) (LvT.add (p := p0) (s := stk s) LT (by simp only [depT]) (by simp only [GoodT]; exact ⟨hw, trivial⟩) (by simp only [toksT]) (.inr hw)) fun a ha => ?_
        rw [List.append_nil, own_cons] at ha
        rw [own_cons]
        exact .inl (List.mem_cons_of_mem _ ha)
theorem wk_fits {ts : List (List Nat)} {z : List Nat} {dq dp : Nat} (h : Wk 12 (ts ++ [z]) dq) (hd : Wk 12 ts dp) : fitsB z dp (free ts) = true := by
  unfold fitsB
  rcases h.inv rfl with ⟨rfl, hfr, d2, rfl, hd2, hw3⟩ | ⟨rfl, hw3⟩ | ⟨nm, rfl, hnm, hw3⟩ | ⟨hzw, hw3⟩
  · have ed : d2 = dp := Wk.det hw3 hd
    subst ed
    rw [if_pos rfl, hfr, decide_eq_true hd2]; rfl
  · have ed : dq + 1 = dp := Wk.det hw3 hd
    rw [if_neg (by decide), if_pos rfl]
    exact decide_eq_true (by omega)
  · rw [if_neg call_not_br.1, if_neg call_not_br.2, if_pos (show (64 :: nm).head? = some 64 from rfl)]
    exact isName_of hnm
  · have ⟨h64, h123, h125⟩ := hzw.head
    rw [if_neg h123, if_neg h125, if_neg h64]
    exact isWord_of hzw
end
end Vf

set_option Elab.async false
set_option linter.all false
set_option maxRecDepth 100000
set_option maxHeartbeats 4000000
/-! ### isinstance of an exception that has its own dict -/
namespace PySem.W
open PySem PySem.Spec PySem.Calls PyProof.Rows
section
variable {prog : Program} {w : World} {A : Around} {E : Value → Shared → Prop} {s : Shared} {K : Frag} {x D : Addr} {ox : Obj} {od : Option Obj}
theorem vf_data {name : Str} {a g : Value} (hc : (clsIn K D).isSome = true) (ha : findIn K (.ref D) name = some (some a)) (hg : specialIn K a "__get__" = some (some g)) (ht : takesIn K a = some true) :
    findObj K D od name = some (.bind g a) := by
  cases e : clsIn K D with
  | none => rw [e] at hc; cases hc
  | some cd =>
    unfold findObj
    rw [e, Option.bind_some, ha, Option.bind_some]
    simp [hg, ht]
theorem vf_class {Q : Option Value → Shared → Prop} (C : L2.ExcC K D) (X : K.In s.heap) (I : InstAt s.heap x ox D od) (q : Q (some (.ref D)) { s with toks := s.toks + 1 }) :
    wpAny (model prog w) A (getAttr? (.ref x) "__class__") Q E s := by
  have found : findObj K D od "__class__" = some (.bind (.builtin "getset_descriptor.__get__") (.builtin "object.__class__")) :=
    vf_data (by obtain ⟨cd, e, _⟩ := any_some C.hd; rw [e]; rfl) C.ha C.hn C.ht
  rcases s with ⟨hp, g, d, t, os⟩
  have l0 := I.type (M := model prog w)
  have l1 := looks_findIn (M := model prog w) X C.hg
  have l2 := looks_findIn (M := model prog w) X C.hk
  have l3 := looks_find (M := model prog w) X I found
  have lb : Looks (model prog w) hp (isInstance (.ref x) (.type "BaseException")) true := l0.andThen (looks_subIn X C.hs)
  have n0 : (false && onTheHeap (Value.builtin "BaseException.__getattribute__")) = false := rfl
  have n1 : (onTheHeap (Value.ref D) && Value.builtin "BaseException.__getattribute__" == Value.builtin "object.__getattribute__") = false := by
    have n2 : (Value.builtin "BaseException.__getattribute__" == Value.builtin "object.__getattribute__") = false := by decide +kernel
    rw [n2]
    rfl
  unfold getAttr? getAttrBy? getAttrBy
  refine wpAny_bind (wpAny_mkText (wpAny_bind (wpAny_attempt (wpAny_holding ?_))))
  refine wpAny_bind (l0.at (wpAny_bind (l1.at ?_)))
  show wpAny _ _ (ite ((onTheHeap (Value.ref D) && Value.builtin "BaseException.__getattribute__" == Value.builtin "object.__getattribute__") = true) _ _) _ _ _
  rw [n1, if_neg Bool.false_ne_true]
  unfold getAttrByItsOwn hookBefore
  apply wpAny_bind
  rw [if_pos (show onTheHeap (Value.ref D) = true from rfl)]
  apply l2.at
  apply wpAny_bind
  apply wpAny_attempt
  apply wpAny_holding
  unfold callGetattribute
  rw [n0, if_neg Bool.false_ne_true]
  unfold boundAndCalled
  rw [PySem.F.excAttr_ValueError.ga.bind (.ref x)]
  apply wpAny_bind
  apply wpAny_pure
  show wpAny _ _ (call (Value.builtin "BaseException.__getattribute__") [Value.ref x, Value.str "__class__" t]) _ _ _
  apply wpAny_call
  apply codeAny_call_builtin PySem.F.excAttr_ValueError.ga.plain PySem.F.entry_bexc_ga
  refine @check_slot (model prog w) _ _ ⟨hp, g, d, t + 1, os⟩ "BaseException.__getattribute__" "BaseException" "__getattribute__" (.ref x) [.str "__class__" t] []
    _ (by decide +kernel) (by decide +kernel) lb (PySem.F.args_bexc_ga (.ref x) (.str "__class__" t)) ?_
  unfold Builtin.«object.__getattribute__»
  apply wpAny_bind
  apply wpAny_of_eq (a := ((Value.ref x : Value), [Value.str "__class__" t])) (by first | rfl | (simp only [slotArgs]; rfl))
  apply wpAny_bind
  apply wpAny_pure
  apply wpAny_bind
  apply l0.at
  apply wpAny_bind
  apply l3.at
  show wpAny _ _ (holding [Value.builtin "object.__class__"] (call (Value.builtin "getset_descriptor.__get__") [Value.builtin "object.__class__", Value.ref x, Value.ref D]) >>= ret) _ _ _
  apply wpAny_bind
  apply wpAny_holding
  apply wpAny_call
  apply class_get (s := ⟨hp, g, d, t + 1, os⟩) (ox := ox) (od := od) X I C.hm
  apply wpAny_pure
  show wpAny _ _ (handedOut (Value.ref D)) _ _ _
  rw [handedOut_of (v := Value.ref D) rfl]
  first | exact wpAny_pure (wpAny_pure q) | exact wpAny_pure q | exact wpAny_pure (wpAny_bind (wpAny_pure (wpAny_pure q)))
theorem vf_kit (C : L2.ExcC K D) : KitX K (.ref x) (.ref D) (fun h => InstAt h x ox D od) := by
  obtain ⟨cdD, hcD, _⟩ := any_some C.hd
  refine ⟨fun _ _ _ I => I.type, fun _ _ X _ => ?_, fun h tp dd its n sl X htp => ?_, fun X I k => vf_class C X I k⟩
  · unfold clsIn at hcD
    split at hcD
    · next e =>
      intro A' Q' E' s' k q
      unfold isType loadHead
      exact wpAny_bind (wpAny_loadPart (k _ _ (X _ _ e)) (wpAny_pure q))
    · cases hcD
  · apply Bool.eq_false_iff.mpr
    intro q
    have e : D = tp := Value.ref.inj (beq_iff_eq.mp q)
    rw [← e] at htp
    unfold clsIn at hcD
    split at hcD
    · next e2 =>
      have z := (X _ _ e2).symm.trans htp
      cases z
    · cases hcD
end
end PySem.W
namespace Vf
open PySem PySem.Spec PyProof.Rows L2 L2H TL
/-- the pinned exception p: of the class D, its dict at d -/
structure ExcAt (K : PySem.W.Frag) (D d : Addr) (p : Addr × Obj) : Prop where
  z : Zc (.ref D) (some d) p.2
  f : ∃ vs, p.2.data = .fields vs
theorem ExcAt.inst {X : Cx} {K : PySem.W.Frag} {D d : Addr} {p : Addr × Obj} {pins : List (Addr × Obj)} {σ : L2.St} {H : Hp} {s : Shared} {fs : List (Str × V)} (c : ExcAt K D d p) (I : Inv X pins σ H s) (hp : p ∈ X.pn) (hd : H d = some (.xd fs)) :
    ∃ (od : Obj) (mA : Str → Option Value), PySem.W.InstAt s.heap p.1 p.2 D (some od) ∧ (∀ n, PySem.W.lookIn n od = some (mA n)) ∧ ∀ n, RelO (fs.lookup n) (mA n) := by
  have hx : ObjOk X.prog X.w H s.heap d (.xd fs) := I.hok d _ hd
  obtain ⟨mA, hns, hr⟩ := hx
  obtain ⟨od, ho, hl⟩ := lookIn_ns hns
  obtain ⟨vs, hv⟩ := c.f
  have ha := (I.pin p (List.mem_append_left _ hp)).1
  exact ⟨od, mA, ⟨ha, c.z.1, (by unfold PySem.W.notCls; rw [hv] <;> rfl), (by rw [c.z.2]; exact ho)⟩, hl, hr⟩
/-- isinstance(e, c) of the pinned exception -/
def rIsP (K : PySem.W.Frag) (D d : Addr) (p : Addr × Obj) (xs : List V) (H : Hp) (Q : VK) : Prop :=
  ∃ (c : V) (cv : Value) (b : Bool) (fs : List (Str × V)), xs = [.ref p.1, c] ∧ ClsV c cv ∧
    PySem.W.kitOne K (.ref D) cv = some b ∧ H d = some (.xd fs) ∧ Q (.bl b) H
theorem call_isP {X : Cx} {D d : Addr} {p : Addr × Obj} (C : ExcC X.K D) (c : ExcAt X.K D d p) (hp : p ∈ X.pn) : CallR X (.builtin "isinstance") (rIsP X.K D d p) := by
  intro pins s σ H xs us Q I r h
  obtain ⟨cc, cv, b, fs, rfl, hcv, e, hd, q⟩ := h
  obtain ⟨u1, u2, rfl, r1, r2⟩ := vals2 r
  have e1 : u1 = Value.ref p.1 := r1
  have e2 := hcv.eq r2
  subst e1 e2
  obtain ⟨od, mA, J, _, _⟩ := c.inst I hp hd
  exact PySem.W.kia_one (PySem.W.vf_kit C) I.kIn J e (fun z => nomatch z) fun tk => ⟨.bl b, H, I.kept (t' := tk) fun _ _ z => z, rfl, q⟩
/-- e.n of the pinned exception -/
def tXp (d : Addr) (p : Addr × Obj) (n : Str) (te : TE) (σ : L2.St) (H : Hp) (Q : VK) : Prop :=
  te σ H fun x H1 => x = .ref p.1 ∧ ∃ (fs : List (Str × V)) (v : V), H1 d = some (.xd fs) ∧ fs.lookup n = some v ∧ Q v H1
theorem pe_xp {X : Cx} {D d : Addr} {p : Addr × Obj} {e : Expr} {te : TE} {pos : Pos} {n : Str} (C : XfC X.K D) (hno : PySem.W.findIn X.K (.ref D) n = some none) (c : ExcAt X.K D d p) (hp : p ∈ X.pn) (he : PE X e te)
    (hb : attributeBase e n X.env (eval e X.env) = eval e X.env := by rfl) : PE X (.Attribute e n pos) (tXp d p n te) := by
  constructor
  intro pins s σ H Q I h
  refine attr_of hb (thn (he.run pins s σ H _ I h) fun u s1 hh => ?_)
  obtain ⟨x, H1, I1, rx, ex, fs, v, hd, l, q⟩ := hh
  subst ex
  have eu : u = Value.ref p.1 := rx
  subst eu
  obtain ⟨od, mA, J, hl, hr⟩ := c.inst I1 hp hd
  obtain ⟨y, hy, ry⟩ := RelO.some_of (v := v) (o := mA n) (by rw [← l]; exact hr n)
  exact HandSPX.exc_get I1.kIn J C.ga C.gg C.exC (PySem.W.findObj_own C.hdC hno rfl (by rw [hl, hy])) (handed_of ry) ⟨v, H1, I1.tok _, ry, q⟩
/-! ### a def that is called where an exception is held, and knows it -/
structure FnP (P : Program) (w : World) (K : PySem.W.Frag) (mg : Str → Option Value) (base : Heap) (k : Nat) (f : Addr) (fd : FuncData) (ps : List Str) (sp : (Addr × Obj) → List V → Hp → VK → Prop) : Prop where
  len : ∀ p vs H Q, sp p vs H Q → vs.length = ps.length
  run : ∀ (A : Around) (outer : List Env) (s : Shared) (H : Hp) (us : List Value) (vs : List V) (Q : VK) (p : Addr × Obj),
    RoomH k A → Hot1 A p → PinOk outer H s p → Env0 P w K mg base A outer s H → BindsTo s fd ⟨us, []⟩ (ps.zip us) → Vals vs us → sp p vs H Q →
    codeAny (model P w) A (.call (.ref f) ⟨us, []⟩) (CR CX0 outer P w H s Q E0) s
/-- the held exception alone -/
abbrev cxP (P : Program) (w : World) (K : PySem.W.Frag) (mg : Str → Option Value) (base : Heap) (N : List Str) (qual : Str) (scope : Scope) (f : Addr) (cd : Value) (A : Around) (outer : List Env) (s : Shared) (H : Hp) (p : Addr × Obj) : Cx :=
  cxH CX0 P w K mg base N qual scope f cd A outer s H E0 p
section
variable {P : Program} {w : World} {K : PySem.W.Frag} {mg : Str → Option Value} {base : Heap} {k : Nat} {f : Addr} {fd : FuncData}
/-- from a def's body, as FnH's: by that rule, at the one exception -/
theorem FnP.of {x qual : Str} {st : Stmt} {N ps : List Str} {sp : (Addr × Obj) → List V → Hp → VK → Prop} (F : L2.Fun K x qual st f fd) (S : FnScope N ps (defScope st)) (len : ∀ p vs H Q, sp p vs H Q → vs.length = ps.length)
    (body : ∀ (cdv : Value) (A : Around) (outer : List Env) (s : Shared) (H : Hp) (vs : List V) (Q : VK) (p : Addr × Obj), Hot1 A p → RoomH k (A.deeper (envOfC qual (defScope st) s.heap.objs.size f cdv)) → sp p vs H Q →
      ∃ t, PSs (cxP P w K mg base N qual (defScope st) f cdv A outer s H p).nox (defBody st) t ∧ t { nx := fun _ H' => Q .non H', rt := Q } (L2.start N vs) H) : FnP P w K mg base (k + 1) f fd ps sp := by
  obtain ⟨oc, od, kV, doc, pm, an, cdv, ct, osl, rfl, lk, hcd⟩ := F.ex
  refine ⟨len, fun A outer s H us vs Q p hr hot hpin e0 hb r hsp => ?_⟩
  have hl := len _ _ _ _ hsp
  have KX : K.In s.heap := e0.mod.kin.keeps fun b o e => (e0.bs b o e).1
  have lim : s.heap.NoLimit := e0.mod.nolimit.keeps fun b o e => (e0.bs b o e).1
  have kinds : ∀ y ∈ ps.zip us, (defScope st).names.lookup y.1 = some .local ∨
      ((defScope st).names.lookup y.1 = some .cell ∧ ((cellsFrom (s.heap.objs.size + 1) (defScope st).names []).lookup y.1).isSome = true) := by
    rintro ⟨n, v⟩ hy
    rcases S.par n (List.of_mem_zip hy).1 with q | q
    · exact .inl q
    · exact .inr ⟨q, PySem.W.cellsFrom_some _ _ _ (.inl q)⟩
  refine codeAny_call_function hr.depth (KX _ _ lk) rfl S.co S.gen rfl (PySem.W.codeRec_of KX hcd) (hb _ _ _ _ ?_)
  refine wpAny_newFunctionEnv_cells S.kind kinds fun env he s1 x => ?_
  subst he
  refine ⟨lim.keeps x.toInCall.keep, codeAny_func ?_⟩
  obtain ⟨t, ht, hq⟩ := body cdv A outer s H vs Q p hot (hr.deeper _) hsp
  have I := inv_startH (CX := CX0) (E := E0) S hpin e0 hl r x
  refine wpAny_mono (ht.nox.run [] s1 (L2.start N vs) H _ I hq) (fun fl s' hs => ?_) fun e s' hs => hs
  have fin : ∀ {σ' : L2.St} {H' : Hp} {v : V} {u : Value}, Inv (cxP P w K mg base N qual (defScope st) f cdv A outer s H p) [] σ' H' s' → RelV v u → Q v H' → CE outer P w H s Q u s' := by
    intro σ' H' v u J rv q
    exact ⟨v, H', J.os, J.bare, J.base, J.hok, rv, q⟩
  cases fl with
  | ret u => obtain ⟨v, σ', H', J, rv, q⟩ := hs; exact fin J rv q
  | next => obtain ⟨σ', H', J, q⟩ := hs; exact fin (v := V.non) (u := Value.none) J rfl q
  | brk => obtain ⟨_, _, _, q⟩ := hs; exact q.elim
  | cont => obtain ⟨_, _, _, q⟩ := hs; exact q.elim
end
/-! ### such a call -/
def tCallP (sp : (Addr × Obj) → List V → Hp → VK → Prop) (p : Addr × Obj) (t : TA) (σ : L2.St) (H : Hp) (Q : VK) : Prop := t σ H fun vs H1 => sp p vs H1 Q
section
variable {X : Cx} {k : Nat} {f : Addr} {fd : FuncData} {ps : List Str} {sp : (Addr × Obj) → List V → Hp → VK → Prop} {x : Str} {q pos : Pos} {e : Expr} {es : List Expr} {t : TA} {p : Addr × Obj}
theorem pe_callP (F : FnP X.prog X.w X.K X.mg X.base k f fd ps sp) (hr : RoomH k X.A) (hot : Hot1 X.A p) (hp : p ∈ X.pn) (hg : Gl X x) (hm : X.mg x = some (.ref f)) (hk : PySem.W.keepIn X.K (.ref f) = true) (hb : Binds X.K fd ps [])
    (ha : PA X (e :: es) t) (hdb : (x == ("__debug__" : Str)) = false := by decide) (he : starEach (e :: es) X.env = (false, eval e X.env) :: starEach es X.env := by rfl)
    (hpl : (backTo pos (starEach es X.env)).any (·.1) = false := by rfl) : PE X (.Call (.Name x q) (e :: es) [] pos) (tCallP sp p t) := by
  constructor
  intro pins s σ H Q I h
  refine wpAny_Call_Name_kw (ld_glob I hg hm ?_ hdb)
  refine PySem.W.callWith_K (h₀ := X.base) I.ok.mod.kin hk (thn (ha.run pos pins s σ H _ I h) fun us s1 res => ?_) he hpl
  obtain ⟨vs, H1, I1, r, q1⟩ := res
  refine ⟨I1.kIn, ?_⟩
  have hl : us.length = ps.length := by rw [← r.length]; exact F.len _ _ _ _ q1
  have b := hb s1 us I1.kIn (by rw [List.append_nil]; exact hl)
  rw [List.append_nil] at b
  have pin := I1.pin p (List.mem_append_left _ hp)
  have hpin : PinOk X.stack H1 s1 p := by
    refine ⟨pin.1, pin.2.1, fun hm => ?_, pin.2.2.2.2⟩
    rcases List.mem_cons.mp (I1.stkSub p.1 hm) with z | z
    · exact pin.2.2.1 z
    · exact pin.2.2.2.1 z
  refine wpAny_call (codeAny_mono (F.run X.A X.stack s1 H1 us vs Q p hr hot hpin I1.env0 b r q1) fun rr s' hq => ?_)
  cases rr with
  | error e => exact hq.elim
  | ok fl =>
    cases fl with
    | ret u => exact I1.after hq
    | next => exact hq.elim
    | brk => exact hq.elim
    | cont => exact hq.elim
end
end Vf

set_option Elab.async false
set_option linter.all false
set_option maxRecDepth 100000
set_option maxHeartbeats 4000000
namespace Vf
open PySem PySem.Spec PyProof.Rows L2 L2H TL
/-! ### list.count over bools -/
def bEq (k : Bool) : Value → Bool
  | .bool b => b == k
  | _ => false
def rCntB (K : PySem.W.Frag) : V → List V → Hp → VK → Prop := fun x xs H Q => ∃ (p : Addr) (bs : List Bool) (k : Bool), x = .ref p ∧ xs = [.bl k] ∧ SqL K H p (bs.map V.bl) ∧ Q (.int (bs.count k : Nat)) H
theorem bools_of : ∀ {bs : List Bool} {its : List Value}, Vals (bs.map V.bl) its → its = bs.map Value.bool
  | [], _, r => by cases r; rfl
  | b :: bs, _, r => by
    cases r with
    | cons a t =>
      have e : _ = Value.bool b := a
      rw [e, bools_of t]; rfl
theorem count_bools (k : Bool) : ∀ bs : List Bool, (bs.map Value.bool).countP (bEq k) = bs.count k
  | [] => rfl
  | b :: bs => by
    rw [List.map_cons, List.countP_cons, List.count_cons, count_bools k bs]
    rfl
section
variable {X : Cx}
theorem mt_bcount : MtR X "list.count" (rCntB X.K) := by
  intro pins s σ H x xs v us Q I rx rxs h
  obtain ⟨p, bs, k, rfl, rfl, hs, q⟩ := h
  cases rx
  obtain ⟨u, rfl, ru⟩ := rxs.one
  have eu : u = Value.bool k := ru
  subst eu
  obtain ⟨its, rv, ⟨⟨cls, dd, data, sl⟩, n, ho, hc, hdn, hd⟩, hlen⟩ := I.list hs
  simp only at hc hd
  subst hc hd
  have ei := bools_of rv
  subst ei
  refine call_meets PySem.F.slot_list_count ⟨_, ho, rfl⟩ PySem.F.entry_list_count (PySem.F.args_list_count_2 _ _)
    (SeqAt.list_countAt p (bs.map Value.bool).toArray n dd sl (.bool k) (bEq k)) ⟨ho, fun y hy => ?_, ?_⟩
  · obtain ⟨b, _, rfl⟩ := List.mem_map.mp (by simpa only [List.mem_toArray] using hy)
    exact PySem.SeqAt.EqAt.bool_bool b k
  · have ec : (bs.map Value.bool).toArray.toList.countP (bEq k) = bs.count k := count_bools k bs
    refine ⟨.int (bs.count k : Nat), H, I.tok _, ⟨s.toks, ?_⟩, q⟩
    rw [ec]
end
/-! ### an own error made where none is handled, its context noted -/
theorem pmkN_oex {X : Cx} {x : Str} {e : Expr} {es : List Expr} {ta : TA} {p pos : Pos} {C fI : Addr} {k : Nat} {fd : FuncData} {ps : List Str} {sp : Sp} (T : OexC X.K C) (iC : PySem.W.findIn X.K (.ref C) "__init__" = some (some (.ref fI))) (tI : PySem.W.typeIn X.K (.ref fI) = some (.type "function"))
    (F1 : FnOk X.prog X.w X.K X.mg X.base CX0 k fI fd ps sp) (hr : Room (k + 1) X.A) (hb : Binds X.K fd ps []) (hg : Gl X x) (hm : X.mg x = some (.ref C)) (ha : PA X (e :: es) ta)
    (hdb : (x == ("__debug__" : Str)) = false := by decide) (he : starEach (e :: es) X.env = (false, eval e X.env) :: starEach es X.env := by rfl) (hpl : (backTo pos (starEach es X.env)).any (·.1) = false := by rfl) :
    L2N.PMk X (.Call (.Name x p) (e :: es) [] pos) (tMkO C sp [] ta) := by
  intro pins s σ H Q I h
  obtain ⟨nm, q, N, bs, bm, sn, sub, ab, col, dd, k0, k1, k2, k3, k5, hC, hbm⟩ := T.cls
  refine wpAny_Call_Name_kw (ld_glob I hg hm ?_ hdb)
  refine PySem.W.callWith_K (h₀ := X.base) I.ok.mod.kin T.kC (thn (ha.run pos pins s σ H _ I h) fun us s1 ⟨vs, H1, I1, r1, hz, q1⟩ => ⟨I1.kIn, ?_⟩) he hpl
  show wpAny _ _ (call (.ref C) us) _ _ _
  obtain ⟨hp, g, dr, tk, os⟩ := s1
  have lt1 : hp.objs.size ≤ hp.objs.size + 1 := Nat.le_succ _
  have nx : H1 (hp.objs.size + 1) = none := I1.hok.fresh lt1
  have hq := q1 (hp.objs.size + 1) nx
  rw [List.append_nil] at hq
  have k2 : ∀ b o, hp.get? b = some o → ((hp.push (PySem.W.kdv_tup us)).push (PySem.HandSPX.excO C hp.objs.size)).get? b = some o := fun b o e => Heap.get?_push_of_some _ (Heap.get?_push_of_some _ e)
  have at1 : ((hp.push (PySem.W.kdv_tup us)).push (PySem.HandSPX.excO C hp.objs.size)).get? (hp.objs.size + 1) = some (PySem.HandSPX.excO C hp.objs.size) := by heap_get
  have J := I1.laid (t' := tk) (a := hp.objs.size + 1) (o := exo (hp.objs.size + 1) C none) (h' := (hp.push (PySem.W.kdv_tup us)).push (PySem.HandSPX.excO C hp.objs.size)) k2 lt1 (exo_ok at1)
  have rr : Vals (V.ref (hp.objs.size + 1) :: vs) (Value.ref (hp.objs.size + 1) :: us) := .cons rfl r1
  have len1 : (Value.ref (hp.objs.size + 1) :: us ++ []).length = ps.length := by
    rw [List.append_nil, ← rr.length]
    exact F1.len _ _ _ _ hq
  have short : us.length ≤ sizeLine := by rw [← Paired.length r1, sizeLine_eq]; omega
  have bb := hb _ (Value.ref (hp.objs.size + 1) :: us) J.kIn len1
  rw [List.append_nil] at bb
  refine wpAny_call (PySem.HandSPX.call_own F.excBase_ValueError (fun Y => PySem.HandSPX.refsVE_contains Y bm hbm) (I1.kIn _ _ hC) (PySem.W.looks_findIn I1.kIn iC) (fun self => PySem.W.bind_fn I1.kIn self tI) short
    (codeAny_mono (F1.run _ X.stack _ _ ⟨Value.ref (hp.objs.size + 1) :: us, []⟩ (Value.ref (hp.objs.size + 1) :: us) _ _ (fun _ _ _ => False) (hr.make C us []) (J.env0.make C us []) bb rr hq) fun r s' hq' => ?_))
  cases r with
  | error er => exact hq'.elim
  | ok fl =>
    cases fl with
    | ret u =>
      obtain ⟨v, H2, os2, bare2, un2, hok2, rv, ev, d, fs, ea, ed, hd1, q2⟩ := hq'
      subst ev
      obtain ⟨h2, g2, d2, t2, os'⟩ := s'
      obtain ⟨t0, G, J2, kG, ge, hoe, na⟩ := mk_end0 (d2 := d2) (t2 := t2) I1 lt1 k2 un2 hok2 os2 bare2 ea ed hd1
      exact ⟨rv, hp.objs.size + 1, _, _, ⟨G, g2, d2, t2, os'⟩, _, .ref C, some d, rfl, J2, kG, ge, hoe, ⟨rfl, rfl, fun vs hv => by cases hv; rfl⟩, rfl, rfl, na, rfl, bare2, raises_own T.exC T.tyC, q2⟩
    | next => exact hq'.elim
    | brk => exact hq'.elim
    | cont => exact hq'.elim
/-- a def that may raise, its exceptions' contexts noted -/
theorem okN {P : Program} {w : World} {K : PySem.W.Frag} {mg : Str → Option Value} {base : Heap} {x qual : Str} {st : Stmt} {f : Addr} {fd : FuncData} {N ps : List Str} {k : Nat} {sp : Sp} (F : L2.Fun K x qual st f fd) (S : FnScope N ps (defScope st)) (len : ∀ vs H Q E, sp vs H Q E → vs.length = ps.length)
    (body : ∀ (cdv : Value) (A : Around) (outer : List Env) (s : Shared) (H : Hp) (vs : List V) (Q : VK) (E : XK), Room k (A.deeper (envOfC qual (defScope st) s.heap.objs.size f cdv)) → sp vs H Q E →
      ∃ t, PSs (cxOf (L2N.CX P w) P w K mg base N qual (defScope st) f cdv A outer s H E) (defBody st) t ∧ t { nx := fun _ H' => Q .non H', rt := Q } (L2.start N vs) H) : FnOk P w K mg base (L2N.CX P w) (k + 1) f fd ps sp := by
  obtain ⟨oc, od, kV, doc, pm, an, cdv, ct, osl, rfl, lk, hcd⟩ := F.ex
  exact fn_of lk hcd S len fun A outer s H vs Q E hr hsp => body cdv A outer s H vs Q E hr hsp
/-! ### C(v), __init__ keeps its one field -/
def spInit1 (C : Addr) (f : Str) : Sp := fun vs H Q _ => ∃ (a : Addr) (y : V), vs = [.ref a, y] ∧ H a = some (exo a C none) ∧
  ∀ dx, H dx = none → dx ≠ a → Q .non (upd (upd H dx (exd dx [(f, y)])) a (exo a C (some dx)))
section
variable {P : Program} {w : World} {K : PySem.W.Frag} {mg : Str → Option Value} {base : Heap}
theorem ok_BadText (T : Txt K mg) : FnOk P w K mg base CX0 1 T.i_BadText T.d_BadText ["self", "at"] (spInit1 T.c_BadText "at") := by
  refine T.E_BadText.F.ok sc_BadText_init (fun vs H Q E h => ?_) (fun cdv A outer s H vs Q E hr h => ?_)
  · obtain ⟨a, y, rfl, _⟩ := h
    rfl
  · obtain ⟨a, y, rfl, ea, q⟩ := h
    refine ⟨_, pss_one (ps_ost (pv 0) (pv 1)), ?_⟩
    exact ⟨_, rfl, _, rfl, a, T.c_BadText, rfl, T.E_BadText.O, T.E_BadText.no "at" (by simp), .inl ⟨ea, fun dx nd ne => q dx nd ne⟩⟩
end
/-- what the raise of C(y) leaves -/
theorem raise1 {C : Addr} {f : Str} {y : V} {H : Hp} {E : XK} (q : ∀ H' d, Same H H' → H' d = some (.xd [(f, y)]) → E (.ref C) (some d) H') :
    [y].length ≤ 1000 ∧ ∀ a, H a = none → spInit1 C f (.ref a :: ([y] ++ [])) (upd H a (exo a C none))
      (fun v H2 => v = .non ∧ ∃ (d : Addr) (fs : List (Str × V)), H2 a = some (exo a C (some d)) ∧ H2 d = some (exd d fs) ∧ H d = none ∧ E (.ref C) (some d) (upd (del H2 a) d (.xd fs))) (fun _ _ _ => False) := by
  refine ⟨by show 1 ≤ 1000; decide, fun a na => ⟨a, y, rfl, upd_same, fun dx nd ne => ⟨rfl, dx, _, upd_same, by rw [upd_ne ne]; exact upd_same, by rw [upd_ne ne] at nd; exact nd, q _ _ (fun b o e => ?_) upd_same⟩⟩⟩
  have nd2 : H dx = none := by rw [upd_ne ne] at nd; exact nd
  have hb1 : b ≠ a := ne_of_none e na
  have hb2 : b ≠ dx := ne_of_none e nd2
  rw [upd_ne hb2, del_ne hb1, upd_ne hb1, upd_ne hb2, upd_ne hb1]
  exact e
end Vf

set_option Elab.async false
set_option linter.all false
set_option maxRecDepth 100000
set_option maxHeartbeats 4000000
namespace Vf
open PySem PySem.Spec PyProof.Rows L2 TL
/-! ### reading any text -/
/-- k: where the first token stands that fits nowhere, or behind them all if a brace is open -/
def Bad (ts : List (List Nat)) (k : Nat) : Prop :=
  (∃ dp z, Wk 12 (ts.take k) dp ∧ ts[k]? = some z ∧ fitsB z dp (free (ts.take k)) = false) ∨ (k = ts.length ∧ ∃ dp, Wk 12 ts dp ∧ 0 < dp)
def spReadX (C : Addr) : Sp := fun vs H Q E => ∃ zs : List Nat, vs = [sV zs] ∧ zs.length ≤ 100000 ∧ (tok zs).length ≤ 40000 ∧ (∀ z ∈ tok zs, z ≠ [] ∧ z.length ≤ 1000) ∧
  (Wk 12 (tok zs) 0 → ∀ H' v t, Same H H' → TV H' v t → toksT t = tok zs → depT t ≤ 12 → GoodT t → Q v H') ∧
  (∀ k, Bad (tok zs) k → ∀ H' d, Same H H' → H' d = some (.xd [("at", .int (k : Int))]) → E (.ref C) (some d) H')
section
variable {P : Program} {w : World} {K : PySem.W.Frag} {mg : Str → Option Value} {base : Heap}
theorem ok_readX (T : Txt K mg) : FnOk P w K mg base (L2N.CX P w) 5 T.a_read_tree T.d_read_tree ["text"] (spReadX T.c_BadText) := by
  have G_tokens_of : FnOk P w K mg base CX0 3 T.a_tokens_of T.d_tokens_of ["text"] spWalked := ok_tokens_of T
  have G_fits : FnOk P w K mg base CX0 4 T.a_fits T.d_fits ["token", "many", "behind_call"] spFits := ok_fits T
  have G_take : FnOk P w K mg base CX0 3 T.a_take T.d_take ["token", "levels"] spTake := ok_take T
  have G_tree_of : FnOk P w K mg base CX0 2 T.a_tree_of T.d_tree_of ["nodes"] (spTreeOfP K) := ok_tree_ofP T
  refine okN T.D_read_tree.F sc_read_tree (fun vs H Q E h => ?_) (fun cdv A outer s H vs Q E hr h => ?_)
  · obtain ⟨zs, rfl, _⟩ := h
    rfl
  · obtain ⟨zs, rfl, hzl, htl, htk, q, qE⟩ := h
    refine ⟨_, (pss_cons (ps_set (i := 1) sc_read_tree.nd rfl (.inl rfl) (pe_call G_tokens_of (hr.mono (by decide)) (by rfl) T.D_tokens_of.G T.D_tokens_of.F.kp T.D_tokens_of.B .nil pass0 (pa_cons (pv 0) pa_nil)))
      (pss_cons (ps_set (i := 2) sc_read_tree.nd rfl (.inl rfl) (pe_lst (pa_cons (pe_lst pa_nil) pa_nil)))
      (pss_cons (ps_set (i := 3) sc_read_tree.nd rfl (.inl rfl) pe_bl)
      (pss_cons (ps_for (passes_of rfl) rfl (pi_enumT (by rfl) T.n_enumerate (pa_cons (pv 1) pa_nil)) (pg_tup (by rfl) (pgs_cons (pg_name (i := 4) sc_read_tree.nd rfl (.inl rfl)) (pgs_cons (pg_name (i := 5) sc_read_tree.nd rfl (.inl rfl)) pgs_nil))) (pss_cons (ps_if (pt_not (pt_val (pe_call G_fits (hr.mono (by decide)) (by rfl) T.D_fits.G T.D_fits.F.kp T.D_fits.B .nil pass0 (pa_cons (pv 5) (pa_cons (pe_op op_sub (pe_callB call_len_seq (by rfl) T.n_len PySem.boot_len (pa_cons (pv 2) pa_nil)) pe_int) (pa_cons (pv 3) pa_nil)))))) (pss_one (L2N.ps_raise rfl (L2N.takes_of rfl rfl rfl rfl) (pmkN_oex T.E_BadText.O T.E_BadText.I T.E_BadText.TI (ok_BadText T) (hr.mono (by decide)) T.E_BadText.B (by rfl) T.E_BadText.G (pa_cons (pv 4) pa_nil)))) pss_nil)
      (pss_cons (ps_expr (pe_call G_take (hr.mono (by decide)) (by rfl) T.D_take.G T.D_take.F.kp T.D_take.B .nil pass0 (pa_cons (pv 5) (pa_cons (pv 2) pa_nil))))
      (pss_one (ps_set (i := 3) sc_read_tree.nd rfl (.inl rfl) (pe_or (pe_cmpR op_eq (pv 5) pe_str (nomark _)) (pe_one (pe_cmpR op_eq (pe_ix ix_str (pv 5) pe_int (fun _ _ => rfl)) pe_str (nomark _)))))))))
      (pss_cons (ps_if (pt_cmpR op_gt (pe_callB call_len_seq (by rfl) T.n_len PySem.boot_len (pa_cons (pv 2) pa_nil)) pe_int (nomark _)) (pss_one (L2N.ps_raise rfl (L2N.takes_of rfl rfl rfl rfl) (pmkN_oex T.E_BadText.O T.E_BadText.I T.E_BadText.TI (ok_BadText T) (hr.mono (by decide)) T.E_BadText.B (by rfl) T.E_BadText.G (pa_cons (pe_callB call_len_seq (by rfl) T.n_len PySem.boot_len (pa_cons (pv 1) pa_nil)) pa_nil)))) pss_nil)
      (pss_one (ps_ret (pe_call G_tree_of (hr.mono (by decide)) (by rfl) T.D_tree_of.G T.D_tree_of.F.kp T.D_tree_of.B .nil pass0 (pa_cons (pe_ix ix_list (pv 2) pe_int (fun _ _ => rfl)) pa_nil))))))))), ?_⟩
    refine ⟨_, rfl, mkS zs, rfl, by rw [mkS_len]; exact hzl, fun H1 tk s1 ntk etk => ?_⟩
    rw [mkS_cps] at etk
    refine ⟨by show 0 ≤ sizeLine; decide, fun l0 n0 => ⟨by show 1 ≤ sizeLine; decide, fun zV nV => ?_⟩⟩
    have nVl : l0 ≠ zV := ne_of_none upd_same nV
    have nVH : H1 zV = none := by rw [upd_ne nVl.symm] at nV; exact nV
    have S2 : Same H1 (upd (upd H1 l0 (.lst [])) zV (.lst [.ref l0])) := same_upd (same_upd (Same.refl H1) n0) nV
    have L0 : LM (upd (upd H1 l0 (.lst [])) zV (.lst [.ref l0])) zV [(l0, .nil, [])] := by
      refine ⟨upd_same, fun e he => ?_, ?_⟩
      · rw [List.mem_singleton.mp he]
        exact ⟨[], by rw [upd_ne nVl]; exact upd_same, rfl, rfl⟩
      · show (zV :: [l0]).Nodup
        exact List.nodup_cons.mpr ⟨fun h => nVl (List.mem_singleton.mp h).symm, by simp⟩
    refine ⟨_, rfl, tk, (tok zs).map sV, rfl, SqT.of (S2 _ _ etk), ?_⟩
    refine for_enumT (K := K) (a := tk) (xs := (tok zs).map sV) (fun i σ' H' => ∃ (st : SM) (b : Bool) (x4 x5 : Option V), σ' = [some (sV zs), some (.ref tk), some (.ref zV), some (.bl b), x4, x5] ∧ LM H' zV st ∧ LvT 12 (stk st) ((tok zs).take i) ∧ b = free ((tok zs).take i) ∧ Same H1 H' ∧ ∀ a ∈ zV :: own st, H1 a = none)
      ⟨_, _, none, none, rfl, L0, ⟨rfl, ⟨0, rfl, .nil⟩, (fun e he => nomatch he), (fun h => by cases h), ⟨by show depT .nil + 0 ≤ 12; simp only [depT]; omega, trivial⟩, fun e he => by rw [List.mem_singleton.mp he]; simp only [GoodT]⟩, rfl, S2, ?_⟩ ?_ ?_ ?_
    · intro a ha
      rcases List.mem_cons.mp ha with rfl | ha
      · exact nVH
      · rw [List.mem_singleton.mp (show a ∈ [l0] from ha)]; exact n0
    · rintro i σ' H' _ ⟨_, _, _, _, _, _, _, _, k, _⟩
      exact SqT.of (k _ _ etk)
    · rintro i x TT σ' H' hx ⟨st, b, x4, x5, rfl, L, LT, hb, sS, fr⟩ nT
      rw [List.getElem?_map] at hx
      obtain ⟨z, hz, rfl⟩ : ∃ z, (tok zs)[i]? = some z ∧ sV z = x := by
        cases h : (tok zs)[i]? with
        | none => rw [h] at hx; cases hx
        | some z => rw [h] at hx; exact ⟨z, rfl, Option.some.inj hx⟩
      have et : (tok zs).take (i + 1) = (tok zs).take i ++ [z] := take_succ' hz
      obtain ⟨dp, el, hdp⟩ := LT.w
      rw [stk_length] at el
      have zl := htk z (List.mem_of_getElem? hz)
      have sT : Same H' (upd H' TT (.tup [.int (i : Nat), sV z])) := same_upd (Same.refl H') nT
      have LT' := L.same sT
      have e1 : (lvs (stk st)).length = st.length := by rw [lvs_length, stk_length]
      -- at, token = the pair
      refine ⟨TT, _, rfl, SqT.of upd_same, rfl, _, _, rfl, _, _, rfl, rfl, ?_⟩
      -- if not fits
      refine ⟨_, rfl, _, rfl, zV, _, rfl, .inl (SqL.of LT'.hV), _, _, rfl, rfl, _, rfl, z, dp, b, ?_, zl.1, by omega, ?_⟩
      · show [sV z, V.int (((lvs (stk st)).length : Nat) - 1 : Int), V.bl b] = _
        rw [e1, el, show (((dp + 1 : Nat) : Int) - 1) = (dp : Int) from by omega]
      cases hfit : fitsB z dp b with
      | false =>
        refine ⟨false, rfl, ?_⟩
        refine ⟨_, rfl, raise1 (fun H4 d s4 e4 => ?_)⟩
        refine qE i (.inl ⟨dp, z, hdp, hz, by rw [← hb]; exact hfit⟩) H4 d (((s1.trans sS).trans sT).trans s4) e4
      | true =>
      refine ⟨true, rfl, ?_⟩
      -- take
      refine ⟨_, rfl, _, rfl, z, zV, st, (tok zs).take i, rfl, LT', LT, ?_, zl.1, zl.2, by rw [List.length_take]; omega, fun H3 st' off L3 LT3 sub => ?_⟩
      · rw [el, Nat.add_sub_cancel, ← hb]; exact hfit
      have frT : ∀ a ∈ zV :: own st, H1 a = none := fr
      have S3 : Same H1 H3 := fun c o e => off c o (fun hm => by rw [frT c hm] at e; cases e) (sT _ _ (sS _ _ e))
      have fr3 : ∀ a ∈ zV :: own st', H1 a = none := fun a ha => by
        rcases List.mem_cons.mp ha with rfl | ha
        · exact frT _ List.mem_cons_self
        · rcases sub a ha with h | h
          · exact frT a h
          · cases e : H1 a with
            | none => rfl
            | some o => rw [sT _ _ (sS _ _ e)] at h; cases h
      -- behind_call
      refine ⟨_, rfl, rfl, decide (z = [125]), bl_of (dec_txt brC_mk), ?_⟩
      have fin : ∀ b' : Bool, b' = free ((tok zs).take (i + 1)) → ∃ (st : SM) (b : Bool) (x4 x5 : Option V), [some (sV zs), some (V.ref tk), some (V.ref zV), some (V.bl b'), some (V.int (i : Nat)), some (sV z)] = [some (sV zs), some (.ref tk), some (.ref zV), some (.bl b), x4, x5] ∧ LM H3 zV st ∧ LvT 12 (stk st) ((tok zs).take (i + 1)) ∧ b = free ((tok zs).take (i + 1)) ∧ Same H1 H3 ∧ ∀ a ∈ zV :: own st, H1 a = none :=
        fun b' hb' => ⟨st', b', _, _, rfl, L3, by rw [et]; exact LT3, hb', S3, fr3⟩
      by_cases h2 : z = [125]
      · rw [decide_eq_true h2]
        exact fin true (by rw [et, free_snoc, decide_eq_true h2]; rfl)
      · rw [decide_eq_false h2]
        refine ⟨_, rfl, mkS z, 0, _, rfl, rfl, by rw [mkS_len]; exact Nat.le_trans zl.2 (by decide), head0_at zl.1, rfl, ?_⟩
        exact fin _ (by rw [et, free_snoc, decide_eq_false h2, Bool.false_or]; exact dec_head zl.1)
    · rintro σ' H' ⟨st, b, x4, x5, rfl, L, LT, hb, sS, fr⟩
      have et : (tok zs).take ((tok zs).map sV).length = tok zs := List.take_of_length_le (by rw [List.length_map]; exact Nat.le_refl _)
      rw [et] at LT
      obtain ⟨dp, el, hdp⟩ := LT.w
      rw [stk_length] at el
      cases st with
      | nil => cases el
      | cons e0 s =>
        cases s with
        | cons e1 s2 =>
          refine ⟨_, rfl, zV, _, rfl, .inl (SqL.of L.hV), _, _, rfl, rfl, true, bl_of (decide_eq_true (by rw [lvs_length, stk_length, List.length_cons, List.length_cons]; show (1 : Int) < ((s2.length + 1 + 1 : Nat) : Int); omega)), ?_⟩
          refine ⟨_, rfl, tk, _, rfl, .inr (SqT.of (sS _ _ etk)), ?_⟩
          rw [List.length_map]
          refine raise1 (fun H4 d s4 e4 => ?_)
          rw [List.length_cons, List.length_cons] at el
          exact qE (tok zs).length (.inr ⟨rfl, dp, hdp, by omega⟩) H4 d ((s1.trans sS).trans s4) e4
        | nil =>
          have el2 : 1 = dp + 1 := el
          have ed : dp = 0 := by omega
          subst ed
          obtain ⟨p0, t0, ls0⟩ := e0
          obtain ⟨vs, c, r⟩ := L.ea _ List.mem_cons_self
          refine ⟨_, rfl, zV, _, rfl, .inl (SqL.of L.hV), _, _, rfl, rfl, false, bl_of (decide_eq_false (by show ¬ (1 : Int) < ((1 : Nat) : Int); omega)), ?_⟩
          have h1 : depT t0 + 0 ≤ 12 := LT.dp.1
          have tl0 : (toksT t0).length ≤ (tok zs).length := LvT.tok_le (p := p0) (s := []) LT
          refine ⟨_, rfl, zV, _, 0, .ref p0, rfl, rfl, SqL.of L.hV, rfl, p0, t0, vs, ls0, rfl, c, r, by omega, fun H4 c4 ws s4 _ e4 r4 => ?_⟩
          exact q hdp H4 (.ref c4) t0 ((s1.trans sS).trans s4) ⟨c4, ws, rfl, e4, r4⟩ LT.fl (by omega) (LT.g _ List.mem_cons_self)
end
end Vf

set_option Elab.async false
set_option linter.all false
set_option maxRecDepth 100000
set_option maxHeartbeats 4000000
namespace Vf
open PySem PySem.Spec PyProof.Rows L2 TL
/-! ### the law's own first token that fits nowhere -/
def fitsM (most : Nat) (z : List Nat) (many : Nat) (b : Bool) : Bool :=
  if z = [123] then b && decide (many < most) else if z = [125] then decide (0 < many) else if z.head? = some 64 then isNameB z.tail else isWordB z
def BadM (most : Nat) (ts : List (List Nat)) (k : Nat) : Prop :=
  (∃ dp z, Wk most (ts.take k) dp ∧ ts[k]? = some z ∧ fitsM most z dp (free (ts.take k)) = false) ∨ (k = ts.length ∧ ∃ dp, Wk most ts dp ∧ 0 < dp)
theorem bad12 {ts : List (List Nat)} {b : Int} (h : (b = -1 ∧ Wk 12 ts 0) ∨ ∃ k : Nat, b = (k : Int) ∧ BadM 12 ts k) : (b = -1 ∧ Wk 12 ts 0) ∨ ∃ k : Nat, b = (k : Int) ∧ Bad ts k := h
theorem bad_at {most : Nat} {ts : List (List Nat)} {i dp : Nat} {z : List Nat} (hw : Wk most (ts.take i) dp) (hz : ts[i]? = some z) (hf : fitsM most z dp (free (ts.take i)) = false) : BadM most ts i := .inl ⟨dp, z, hw, hz, hf⟩
theorem name_false {n : List Nat} (h : ¬ (1 ≤ n.length ∧ n.length ≤ 8)) : isNameB n = false := by unfold isNameB; rw [if_neg h]
theorem word_false {n : List Nat} (h : ¬ (n.length ≤ 16)) : isWordB n = false := by unfold isWordB; rw [if_neg fun z => h z.2]
theorem word_false2 {c : Nat} {n : List Nat} (h : cW c = false) : isWordB (c :: n) = false := by
  unfold isWordB
  split
  · rw [List.takeWhile_cons_of_neg (by rw [h]; decide)]
    exact decide_eq_false (by show ¬ 0 = n.length + 1; omega)
  · rfl
def spFirstBad (K : PySem.W.Frag) : Sp := fun vs H Q _ => ∃ (p : Addr) (ts : List (List Nat)) (most : Nat), vs = [.ref p, .int (most : Int)] ∧ SqL K H p (ts.map sV) ∧ ts.length ≤ 20000 ∧ (∀ z ∈ ts, Tk z ∧ z.length ≤ 1000) ∧
  ∀ b : Int, ((b = -1 ∧ Wk most ts 0) ∨ ∃ k : Nat, b = (k : Int) ∧ BadM most ts k) → Q (.int b) H
section
variable {P : Program} {w : World} {K : PySem.W.Frag} {mg : Str → Option Value} {base : Heap}
theorem ok_first_bad (T : Txt K mg) : FnOk P w K mg base CX0 2 T.a_law_first_bad T.d_law_first_bad ["_law_tokens", "_law_most"] (spFirstBad K) := by
  have G_law_word_signs : FnOk P w K mg base CX0 1 T.a_law_word_signs T.d_law_word_signs [] (spC sW) := ok_word_signs T
  refine T.D_law_first_bad.F.ok sc_law_first_bad (fun vs H Q E h => ?_) (fun cdv A outer s H vs Q E hr h => ?_)
  · obtain ⟨p, ts, most, rfl, _⟩ := h
    rfl
  · obtain ⟨p, ts, most, rfl, hp, tl, tk, q⟩ := h
    refine ⟨_, (pss_cons (ps_set (i := 2) sc_law_first_bad.nd rfl (.inl rfl) pe_int)
      (pss_cons (ps_for PassesOwn.never rfl (pi_range1 (by rfl) T.n_range (pa_cons (pe_callB call_len_seq (by rfl) T.n_len PySem.boot_len (pa_cons (pv 0) pa_nil)) pa_nil)) (pg_name (i := 3) sc_law_first_bad.nd rfl (.inl rfl)) (pss_cons (ps_set (i := 4) sc_law_first_bad.nd rfl (.inl rfl) (pe_ix ix_list (pv 0) (pv 3) (fun _ _ => rfl)))
      (pss_one (ps_if (pt_cmpR op_eq (pv 4) pe_str (nomark _)) (pss_cons (ps_if (PW.pt (pw_or (pt_cmpR op_eq (pv 3) pe_int (nomark _)) (pw_or (pt_cmpR op_eq (pv 2) (pv 1) (nomark _)) (pw_or1 (pt_not (PW.pt (pw_or (pt_cmpR op_eq (pe_ix ix_list (pv 0) (pe_op op_sub (pv 3) pe_int) (fun _ _ => rfl)) pe_str (nomark _)) (pw_or1 (pt_cmpR op_eq (pe_ix ix_str (pe_ix ix_list (pv 0) (pe_op op_sub (pv 3) pe_int) (fun _ _ => rfl)) pe_int (fun _ _ => rfl)) pe_str (nomark _)))))))))) (pss_one (ps_ret (pv 3))) pss_nil)
      (pss_one (ps_set (i := 2) sc_law_first_bad.nd rfl (.inl rfl) (pe_op op_add (pv 2) pe_int)))) (pss_one (ps_if (pt_cmpR op_eq (pv 4) pe_str (nomark _)) (pss_cons (ps_if (pt_cmpR op_eq (pv 2) pe_int (nomark _)) (pss_one (ps_ret (pv 3))) pss_nil)
      (pss_one (ps_set (i := 2) sc_law_first_bad.nd rfl (.inl rfl) (pe_op op_sub (pv 2) pe_int)))) (pss_one (ps_if (pt_cmpR op_eq (pe_ix ix_str (pv 4) pe_int (fun _ _ => rfl)) pe_str (nomark _)) (pss_one (ps_if (PW.pt (pw_or (pt_cmpR op_lt (pe_callB call_len_str (by rfl) T.n_len PySem.boot_len (pa_cons (pv 4) pa_nil)) pe_int (nomark _)) (pw_or1 (pt_cmpR op_gt (pe_callB call_len_str (by rfl) T.n_len PySem.boot_len (pa_cons (pv 4) pa_nil)) pe_int (nomark _))))) (pss_one (ps_ret (pv 3))) pss_nil)) (pss_one (ps_if (PW.pt (pw_or (pt_cmpR op_notIn_sign (pe_ix ix_str (pv 4) pe_int (fun _ _ => rfl)) (pe_call0 G_law_word_signs (hr.mono (by decide)) (by rfl) T.D_law_word_signs.G T.D_law_word_signs.F.kp T.D_law_word_signs.B .nil pass0) (by rfl)) (pw_or1 (pt_cmpR op_gt (pe_callB call_len_str (by rfl) T.n_len PySem.boot_len (pa_cons (pv 4) pa_nil)) pe_int (nomark _))))) (pss_one (ps_ret (pv 3))) pss_nil))))))))))
      (pss_one (ps_ret (pe_ifExp (pt_cmpR op_gt (pv 2) pe_int (nomark _)) (pe_callB call_len_seq (by rfl) T.n_len PySem.boot_len (pa_cons (pv 0) pa_nil)) (pe_un un_neg pe_int)))))), ?_⟩
    have ml : (ts.map sV).length = ts.length := List.length_map ..
    refine ⟨_, rfl, p, _, rfl, .inl hp, _, rfl, by omega, by omega, ?_⟩
    refine for_range (lo := 0) (n := (((ts.map sV).length : Nat) : Int).toNat) (fun i σ' H' => ∃ (dp : Nat) (x3 x4 : Option V), σ' = [some (.ref p), some (.int (most : Int)), some (.int (dp : Int)), x3, x4] ∧ H' = H ∧ Wk most (ts.take i) dp)
      ⟨0, none, none, rfl, rfl, .nil⟩ ?_ ?_
    · rintro i σ' H' hi ⟨dp, x3, x4, rfl, rfl, hw⟩
      rw [List.length_map] at hi
      have hi2 : i < ts.length := by omega
      have hz : ts[i]? = some ts[i] := List.getElem?_eq_getElem hi2
      obtain ⟨z, ez⟩ : ∃ z, ts[i] = z := ⟨_, rfl⟩
      rw [ez] at hz
      have ⟨hT, hl⟩ := tk z (List.mem_of_getElem? hz)
      have hn := hT.ne
      have et : ts.take (i + 1) = ts.take i ++ [z] := take_succ' hz
      have hd := hw.dep_le
      have e0 : ((0 : Int) + (i : Int)) = (i : Int) := Int.zero_add _
      have zl : (mkS z).length ≤ sizeLine := by rw [mkS_len]; exact Nat.le_trans hl (by decide)
      refine ⟨_, rfl, _, rfl, p, _, _, sV z, rfl, rfl, hp, at_of e0 (get_sV hz), ?_⟩
      by_cases h1 : z = [123]
      · refine ⟨_, rfl, rfl, true, bl_of ((dec_txt brO_mk).trans (decide_eq_true h1)), ?_⟩
        subst h1
        refine ⟨_, rfl, rfl, decide (i = 0), ?_, ?_⟩
        · rw [e0]; exact congrArg V.bl (dec_len (b := 0))
        have ret : fitsM most [123] dp (free (ts.take i)) = false → Q (.int ((0 : Int) + (i : Int))) H' := fun hf => by
          rw [e0]; exact q _ (.inr ⟨i, rfl, bad_at hw hz hf⟩)
        by_cases hi0 : i = 0
        · subst hi0
          exact ⟨_, rfl, ret (by rw [List.take_zero]; rfl)⟩
        rw [decide_eq_false hi0]
        refine ⟨_, rfl, _, rfl, rfl, decide (dp = most), congrArg V.bl dec_len, ?_⟩
        by_cases hd0 : dp = most
        · rw [decide_eq_true hd0]
          subst hd0
          exact ⟨_, rfl, ret (by unfold fitsM; rw [if_pos rfl, decide_eq_false (Nat.lt_irrefl _), Bool.and_false])⟩
        rw [decide_eq_false hd0]
        -- the one ahead
        obtain ⟨j, rfl⟩ : ∃ j, i = j + 1 := ⟨i - 1, by omega⟩
        have hj : ts[j]? = some ts[j] := List.getElem?_eq_getElem (by omega)
        obtain ⟨u, eu⟩ : ∃ u, ts[j] = u := ⟨_, rfl⟩
        rw [eu] at hj
        have ⟨hTu, hlu⟩ := tk u (List.mem_of_getElem? hj)
        have hfr : free (ts.take (j + 1)) = (decide (u = [125]) || decide (u.head? = some 64)) := by rw [take_succ' hj, free_snoc]
        have ej : ((0 : Int) + ((j + 1 : Nat) : Int)) - 1 = (j : Int) := by omega
        have at1 : atI (ts.map sV) ((0 : Int) + ((j + 1 : Nat) : Int) - 1) = some (sV u) := by rw [ej]; exact atI_nat (get_sV hj)
        refine ⟨_, rfl, _, rfl, _, _, rfl, rfl, p, _, _, _, rfl, rfl, hp, at1, ?_⟩
        refine ⟨rfl, decide (u = [125]), bl_of (dec_txt brC_mk), ?_⟩
        have zlu : (mkS u).length ≤ sizeLine := by rw [mkS_len]; exact Nat.le_trans hlu (by decide)
        have opn : free (ts.take (j + 1)) = true → ∃ (dp2 : Nat) (x3 x4 : Option V), [some (V.ref p), some (.int (most : Int)), some (.int ((dp : Int) + 1)), some (.int ((0 : Int) + ((j + 1 : Nat) : Int))), some (sV [123])] = [some (.ref p), some (.int (most : Int)), some (.int (dp2 : Int)), x3, x4] ∧ H' = H' ∧ Wk most (ts.take (j + 1 + 1)) dp2 :=
          fun hf => ⟨dp + 1, _, _, rfl, rfl, by rw [et]; exact .opn hw hf (by omega)⟩
        by_cases hu : u = [125]
        · rw [decide_eq_true hu]
          exact ⟨_, rfl, _, _, rfl, rfl, opn (by rw [hfr, decide_eq_true hu]; rfl)⟩
        rw [decide_eq_false hu]
        refine ⟨_, rfl, _, rfl, _, _, rfl, rfl, p, _, _, _, rfl, rfl, hp, at1, mkS u, 0, _, rfl, rfl, zlu, head0_at hTu.ne, rfl, decide (u.head? = some 64), bl_of (dec_head hTu.ne), ?_⟩
        by_cases hu2 : u.head? = some 64
        · rw [decide_eq_true hu2]
          exact ⟨_, rfl, _, _, rfl, rfl, opn (by rw [hfr, decide_eq_true hu2, Bool.or_true])⟩
        rw [decide_eq_false hu2]
        refine ⟨_, rfl, ret ?_⟩
        unfold fitsM
        rw [if_pos rfl, hfr, decide_eq_false hu, decide_eq_false hu2]; rfl
      refine ⟨_, rfl, rfl, false, bl_of ((dec_txt brO_mk).trans (decide_eq_false h1)), ?_⟩
      have ret : fitsM most z dp (free (ts.take i)) = false → Q (.int ((0 : Int) + (i : Int))) H' := fun hf => by
        rw [e0]; exact q _ (.inr ⟨i, rfl, bad_at hw hz hf⟩)
      by_cases h2 : z = [125]
      · refine ⟨_, rfl, rfl, true, bl_of ((dec_txt brC_mk).trans (decide_eq_true h2)), ?_⟩
        refine ⟨_, rfl, rfl, decide (dp = 0), congrArg V.bl (dec_len (b := 0)), ?_⟩
        subst h2
        by_cases hd0 : dp = 0
        · subst hd0
          exact ⟨_, rfl, ret rfl⟩
        rw [decide_eq_false hd0]
        obtain ⟨d2, rfl⟩ : ∃ d2, dp = d2 + 1 := ⟨dp - 1, by omega⟩
        refine ⟨_, rfl, _, _, rfl, rfl, d2, some (.int ((0 : Int) + (i : Int))), some (sV [125]), ?_, rfl, by rw [et]; exact .cls hw⟩
        show [some (V.ref p), some (V.int (most : Int)), some (V.int (((d2 + 1 : Nat) : Int) - 1)), some (V.int ((0 : Int) + (i : Int))), some (sV [125])] = _
        rw [show (((d2 + 1 : Nat) : Int) - 1) = (d2 : Int) from by omega]
      refine ⟨_, rfl, rfl, false, bl_of ((dec_txt brC_mk).trans (decide_eq_false h2)), ?_⟩
      refine ⟨_, rfl, mkS z, 0, _, rfl, rfl, zl, head0_at hn, rfl, decide (z.head? = some 64), bl_of (dec_head hn), ?_⟩
      by_cases h3 : z.head? = some 64
      · rw [decide_eq_true h3]
        obtain ⟨n, rfl, hL⟩ : ∃ n, z = 64 :: n ∧ ∀ c ∈ n, cL c = true := by
          rcases hT with ⟨c, rfl, _, _, hc⟩ | h | ⟨_, hW⟩
          · exact absurd (Option.some.inj h3) hc
          · exact h
          · cases z with
            | nil => exact absurd rfl hn
            | cons c r =>
              have ec : c = 64 := Option.some.inj h3
              have := hW c List.mem_cons_self
              rw [ec, cW_at] at this
              cases this
        have fB : fitsM most (64 :: n) dp (free (ts.take i)) = isNameB n := by
          unfold fitsM
          rw [if_neg h1, if_neg h2, if_pos h3]; rfl
        have l1 : (mkS (64 :: n)).length = n.length + 1 := by rw [mkS_len]; rfl
        refine ⟨_, rfl, mkS (64 :: n), rfl, zl, _, _, rfl, rfl, ?_⟩
        rw [l1]
        by_cases ha : n.length + 1 < 2
        · refine ⟨true, bl_of (decide_eq_true (show ((n.length + 1 : Nat) : Int) < 2 by omega)), ?_⟩
          exact ⟨_, rfl, ret (by rw [fB]; exact name_false (by omega))⟩
        refine ⟨false, bl_of (decide_eq_false (show ¬ ((n.length + 1 : Nat) : Int) < 2 by omega)), ?_⟩
        refine ⟨_, rfl, mkS (64 :: n), rfl, zl, _, _, rfl, rfl, ?_⟩
        rw [l1]
        by_cases hb : 9 < n.length + 1
        · refine ⟨true, bl_of (decide_eq_true (show (9 : Int) < ((n.length + 1 : Nat) : Int) by omega)), ?_⟩
          exact ⟨_, rfl, ret (by rw [fB]; exact name_false (by omega))⟩
        refine ⟨false, bl_of (decide_eq_false (show ¬ (9 : Int) < ((n.length + 1 : Nat) : Int) by omega)), ?_⟩
        exact ⟨dp, _, _, rfl, rfl, by rw [et]; exact .call hw ⟨fun e => by rw [e] at ha; exact ha (by decide), by omega, hL⟩⟩
      rw [decide_eq_false h3]
      have fB : fitsM most z dp (free (ts.take i)) = isWordB z := by
        unfold fitsM
        rw [if_neg h1, if_neg h2, if_neg h3]
      refine ⟨_, rfl, mkS z, 0, _, rfl, rfl, zl, head0_at hn, rfl, _, _, rfl, rfl, _, rfl, ?_⟩
      cases z with
      | nil => exact absurd rfl hn
      | cons c r =>
        show if (!cW c) = true then _ else _
        cases e3 : cW c with
        | false => exact ⟨_, rfl, ret (by rw [fB]; exact word_false2 e3)⟩
        | true =>
          have hW : ∀ x ∈ c :: r, cW x = true := by
            rcases hT with ⟨x, e, _, hc, _⟩ | ⟨r2, e, _⟩ | ⟨_, hW⟩
            · injection e with e1 _
              rw [← e1, e3] at hc; cases hc
            · injection e with e1 _
              exact absurd (by rw [e1]; rfl) h3
            · exact hW
          refine ⟨_, rfl, mkS (c :: r), rfl, zl, _, _, rfl, rfl, ?_⟩
          rw [mkS_len]
          by_cases hb : 16 < (c :: r).length
          · refine ⟨true, bl_of (decide_eq_true (show (16 : Int) < (((c :: r).length : Nat) : Int) by omega)), ?_⟩
            exact ⟨_, rfl, ret (by rw [fB]; exact word_false (by omega))⟩
          refine ⟨false, bl_of (decide_eq_false (show ¬ (16 : Int) < (((c :: r).length : Nat) : Int) by omega)), ?_⟩
          exact ⟨dp, _, _, rfl, rfl, by rw [et]; exact .word hw ⟨hn, by omega, hW⟩⟩
    · rintro σ' H' ⟨dp, x3, x4, rfl, rfl, hw⟩
      rw [ml, show (((ts.length : Nat) : Int)).toNat = ts.length from by omega, List.take_length] at hw
      refine ⟨_, rfl, _, _, rfl, rfl, ?_⟩
      by_cases h0 : 0 < dp
      · refine ⟨true, bl_of (decide_eq_true (show (0 : Int) < (dp : Int) by omega)), ?_⟩
        refine ⟨_, rfl, p, _, rfl, .inl hp, ?_⟩
        rw [ml]
        exact q _ (.inr ⟨ts.length, rfl, .inr ⟨rfl, dp, hw, h0⟩⟩)
      · refine ⟨false, bl_of (decide_eq_false (show ¬ (0 : Int) < (dp : Int) by omega)), ?_⟩
        have ed : dp = 0 := by omega
        subst ed
        exact ⟨_, rfl, q _ (.inl ⟨rfl, hw⟩)⟩
end
end Vf

set_option Elab.async false
set_option linter.all false
set_option maxRecDepth 100000
set_option maxHeartbeats 4000000
namespace Vf
open PySem PySem.Spec PyProof.Rows L2 L2H TL
/-- the same where an exception is held -/
def spExactP (n : Nat) : (Addr × Obj) → List V → Hp → VK → Prop := fun _ vs H Q => spExact n vs H Q E0
section
variable {P : Program} {w : World} {K : PySem.W.Frag} {mg : Str → Option Value} {base : Heap}
theorem ok_exactP (T : Txt K mg) : ∀ n : Nat, FnP P w K mg base (n + 1) T.a_law_exact T.d_law_exact ["_law_told", "_law_due"] (spExactP n)
  | 0 => by
    refine FnP.of T.D_law_exact.F sc_law_exact (fun p vs H Q h => ?_) (fun cdv A outer s H vs Q p hot hr h => ?_)
    · obtain ⟨v, u, rfl, _⟩ := h
      rfl
    · obtain ⟨v, u, rfl, hE, q⟩ := h
      exact hE.elim
  | n + 1 => by
    have G_law_exact : FnP P w K mg base (n + 1) T.a_law_exact T.d_law_exact ["_law_told", "_law_due"] (spExactP n) := ok_exactP T n
    refine FnP.of T.D_law_exact.F sc_law_exact (fun p vs H Q h => ?_) (fun cdv A outer s H vs Q p hot hr h => ?_)
    · obtain ⟨v, u, rfl, _⟩ := h
      rfl
    · obtain ⟨v, u, rfl, hE, q⟩ := h
      refine ⟨_, (pss_cons (ps_if (pt_val (pe_callB call_isi (by rfl) T.n_isinstance (by decide +kernel) (pa_cons (pv 1) (pa_cons (pe_bltn (v := .ty "tuple") (by rfl) T.n_tuple (by decide +kernel) rfl) pa_nil)))) (pss_cons (ps_if (PW.pt (pw_or (pt_not (pt_val (pe_callB call_isi (by rfl) T.n_isinstance (by decide +kernel) (pa_cons (pv 0) (pa_cons (pe_bltn (v := .ty "tuple") (by rfl) T.n_tuple (by decide +kernel) rfl) pa_nil))))) (pw_or1 (pt_cmpR op_ne (pe_callB call_len (by rfl) T.n_len PySem.boot_len (pa_cons (pv 0) pa_nil)) (pe_callB call_len (by rfl) T.n_len PySem.boot_len (pa_cons (pv 1) pa_nil)) (nomark _))))) (pss_one (ps_ret pe_bl)) pss_nil)
      (pss_cons (ps_forH PassesOwn.never ⟨p, hot, List.mem_singleton.mpr rfl⟩ (pi_range1H (by rfl) T.n_range (pa_cons (pe_callB call_len (by rfl) T.n_len PySem.boot_len (pa_cons (pv 1) pa_nil)) pa_nil)) (pg_name (i := 2) sc_law_exact.nd rfl (.inl rfl)) (pss_one (ps_if (pt_not (pt_val (pe_callP G_law_exact hr hot (List.mem_singleton.mpr rfl) (by rfl) T.D_law_exact.G T.D_law_exact.F.kp T.D_law_exact.B (pa_cons (pe_ix ix_seq (pv 0) (pv 2) (fun _ _ => rfl)) (pa_cons (pe_ix ix_seq (pv 1) (pv 2) (fun _ _ => rfl)) pa_nil))))) (pss_one (ps_ret pe_bl)) pss_nil)))
      (pss_one (ps_ret pe_bl)))) pss_nil)
      (pss_cons (ps_if (pt_cmpR op_isN (pv 1) pe_non (nomark _)) (pss_one (ps_ret (pe_cmpR op_isN (pv 0) pe_non (nomark _)))) pss_nil)
      (pss_cons (ps_if (pt_val (pe_callB call_isi (by rfl) T.n_isinstance (by decide +kernel) (pa_cons (pv 1) (pa_cons (pe_bltn (v := .ty "bool") (by rfl) T.n_bool (by decide +kernel) rfl) pa_nil)))) (pss_one (ps_ret (pe_and (pe_callB call_isi (by rfl) T.n_isinstance (by decide +kernel) (pa_cons (pv 0) (pa_cons (pe_bltn (v := .ty "bool") (by rfl) T.n_bool (by decide +kernel) rfl) pa_nil))) (pe_one (pe_cmpR op_eq (pv 0) (pv 1) (nomark _)))))) pss_nil)
      (pss_cons (ps_if (pt_val (pe_callB call_isi (by rfl) T.n_isinstance (by decide +kernel) (pa_cons (pv 1) (pa_cons (pe_bltn (v := .ty "int") (by rfl) T.n_int (by decide +kernel) rfl) pa_nil)))) (pss_one (ps_ret (pe_and (pe_callB call_isi (by rfl) T.n_isinstance (by decide +kernel) (pa_cons (pv 0) (pa_cons (pe_bltn (v := .ty "int") (by rfl) T.n_int (by decide +kernel) rfl) pa_nil))) (pe_and (pe_not (pe_callB call_isi (by rfl) T.n_isinstance (by decide +kernel) (pa_cons (pv 0) (pa_cons (pe_bltn (v := .ty "bool") (by rfl) T.n_bool (by decide +kernel) rfl) pa_nil)))) (pe_one (pe_cmpR op_eq (pv 0) (pv 1) (nomark _))))))) pss_nil)
      (pss_one (ps_ret (pe_and (pe_callB call_isi (by rfl) T.n_isinstance (by decide +kernel) (pa_cons (pv 0) (pa_cons (pe_bltn (v := .ty "str") (by rfl) T.n_str (by decide +kernel) rfl) pa_nil))) (pe_one (pe_cmpR op_eq (pv 0) (pv 1) (nomark _)))))))))), ?_⟩
      rcases hE with (⟨z, rfl, rfl⟩ | ⟨i, rfl, rfl⟩ | ⟨rfl, rfl⟩) | ⟨a, b, xs, ys, rfl, rfl, ha, hb, el, en, hE⟩
      · refine ⟨_, rfl, _, _, .type "str", .type "tuple", false, rfl, .ty _, .base (.str _), kit_ty (by decide +kernel), _, rfl, ?_⟩
        refine ⟨_, rfl, rfl, false, bl_of (decide_eq_false (fun e => by cases e)), ?_⟩
        refine ⟨_, rfl, _, _, .type "str", .type "bool", false, rfl, .ty _, .base (.str _), kit_ty (by decide +kernel), _, rfl, ?_⟩
        refine ⟨_, rfl, _, _, .type "str", .type "int", false, rfl, .ty _, .base (.str _), kit_ty (by decide +kernel), _, rfl, ?_⟩
        exact ⟨_, rfl, _, _, .type "str", .type "str", true, rfl, .ty _, .base (.str _), kit_ty (by decide +kernel), true, rfl, _, rfl, _, rfl, rfl, eq_self q⟩
      · refine ⟨_, rfl, _, _, .type "int", .type "tuple", false, rfl, .ty _, .base (.int _), kit_ty (by decide +kernel), _, rfl, ?_⟩
        refine ⟨_, rfl, rfl, false, bl_of (decide_eq_false (fun e => by cases e)), ?_⟩
        refine ⟨_, rfl, _, _, .type "int", .type "bool", false, rfl, .ty _, .base (.int _), kit_ty (by decide +kernel), _, rfl, ?_⟩
        refine ⟨_, rfl, _, _, .type "int", .type "int", true, rfl, .ty _, .base (.int _), kit_ty (by decide +kernel), _, rfl, ?_⟩
        exact ⟨_, rfl, _, _, .type "int", .type "int", true, rfl, .ty _, .base (.int _), kit_ty (by decide +kernel), true, rfl, _, rfl, _, _, .type "int", .type "bool", false, rfl, .ty _, .base (.int _), kit_ty (by decide +kernel), false, rfl, true, rfl, _, rfl, _, rfl, rfl, eq_self q⟩
      · refine ⟨_, rfl, _, _, .type "NoneType", .type "tuple", false, rfl, .ty _, .base .non, kit_ty (by decide +kernel), _, rfl, ?_⟩
        exact ⟨_, rfl, rfl, true, bl_of (decide_eq_true rfl), _, rfl, rfl, eq_self q⟩
      · refine ⟨_, rfl, _, _, .type "tuple", .type "tuple", true, rfl, .ty _, .base (.tup hb), kit_ty (by decide +kernel), _, rfl, ?_⟩
        refine ⟨_, rfl, _, _, .type "tuple", .type "tuple", true, rfl, .ty _, .base (.tup ha), kit_ty (by decide +kernel), _, rfl, ?_⟩
        refine ⟨_, rfl, _, _, rfl, .inr ⟨_, SqT.of ha, rfl⟩, _, rfl, _, _, rfl, .inr ⟨_, SqT.of hb, rfl⟩, rfl, false, ?_, ?_⟩
        · rw [el, decide_eq_true rfl]; rfl
        refine ⟨_, rfl, _, _, rfl, .inr ⟨_, SqT.of hb, rfl⟩, _, rfl, by omega, by omega, ?_⟩
        refine for_range (lo := 0) (n := ((ys.length : Nat) : Int).toNat) (fun i σ' H' => H' = H ∧ ∃ x2 : Option V, σ' = [some (.ref a), some (.ref b), x2]) ⟨rfl, none, rfl⟩ ?_ ?_
        · rintro i σ' H' hi ⟨rfl, x2, rfl⟩
          have hi2 : i < ys.length := by omega
          have hi1 : i < xs.length := by omega
          have gx : xs[i]? = some xs[i] := List.getElem?_eq_getElem hi1
          have gy : ys[i]? = some ys[i] := List.getElem?_eq_getElem hi2
          have e0 : ((0 : Int) + (i : Int)) = (i : Int) := Int.zero_add _
          refine ⟨_, rfl, _, rfl, .inr (.inl ⟨a, xs, _, _, rfl, rfl, SqT.of ha, at_of e0 gx, ?_⟩)⟩
          refine ⟨_, rfl, _, rfl, .inr (.inl ⟨b, ys, _, _, rfl, rfl, SqT.of hb, at_of e0 gy, ?_⟩)⟩
          exact ⟨_, _, rfl, hE i _ _ gx gy, true, rfl, rfl, _, rfl⟩
        · rintro σ' H' ⟨rfl, x2, rfl⟩
          exact q
end
end Vf

set_option Elab.async false
set_option linter.all false
set_option maxRecDepth 100000
set_option maxHeartbeats 4000000
namespace Vf
open PySem PySem.Spec PyProof.Rows L2 L2H TL
section
variable {P : Program} {w : World} {K : PySem.W.Frag} {mg : Str → Option Value} {base : Heap}
def spTold1 (K : PySem.W.Frag) (D : Addr) (n f : Str) : (Addr × Obj) → List V → Hp → VK → Prop := fun p vs H Q => vs = [.ref p.1] ∧ ∃ (d : Addr) (y : V), ExcAt K D d p ∧ H d = some (.xd [(f, y)]) ∧
  ∀ H' c, Same H H' → H' c = some (.tup [.str n, y]) → Q (.ref c) H'
theorem not_dec {p : Prop} [Decidable p] (h : p) : (!decide p) = false := by rw [decide_eq_true h]; rfl
theorem ok_told_BadText (T : Txt K mg) : FnP P w K mg base 1 T.a_law_told_error T.d_law_told_error ["_law_e"] (spTold1 K T.c_BadText "BadText" "at") := by
  refine FnP.of T.D_law_told_error.F sc_law_told_error (fun p vs H Q h => ?_) (fun cdv A outer s H vs Q p hot hr h => ?_)
  · obtain ⟨rfl, _⟩ := h
    rfl
  · obtain ⟨rfl, d, y, hx, hd, q⟩ := h
    refine ⟨_, (pss_cons (ps_set (i := 1) sc_law_told_error.nd rfl (.inl rfl) (pe_lst pa_nil))
      (pss_cons (ps_if (pt_val (pe_callB (call_isP T.E_BadText.EC hx (List.mem_singleton.mpr rfl)) (by rfl) T.n_isinstance (by decide +kernel) (pa_cons (pv 0) (pa_cons (pe_glob (v := .ref T.c_BadText) (by rfl) T.C_BadText.G rfl) pa_nil)))) (pss_one (ps_expr (pe_bm PySem.F.plainAttrs_list PySem.F.slot_list_append PySem.F.type_list_append mt_append (pv 1) (pa_cons (pe_tup (pa_cons pe_str (pa_cons (pe_xp T.E_BadText.XC (T.E_BadText.no "at" (by simp)) hx (List.mem_singleton.mpr rfl) (pv 0)) pa_nil))) pa_nil)))) pss_nil)
      (pss_cons (ps_if (pt_val (pe_callB (call_isP T.E_BadText.EC hx (List.mem_singleton.mpr rfl)) (by rfl) T.n_isinstance (by decide +kernel) (pa_cons (pv 0) (pa_cons (pe_glob (v := .ref T.c_BadCall) (by rfl) T.C_BadCall.G rfl) pa_nil)))) (pss_one ps_never) pss_nil)
      (pss_cons (ps_if (pt_val (pe_callB (call_isP T.E_BadText.EC hx (List.mem_singleton.mpr rfl)) (by rfl) T.n_isinstance (by decide +kernel) (pa_cons (pv 0) (pa_cons (pe_glob (v := .ref T.c_Misplaced) (by rfl) T.C_Misplaced.G rfl) pa_nil)))) (pss_one ps_never) pss_nil)
      (pss_cons (ps_if (pt_val (pe_callB (call_isP T.E_BadText.EC hx (List.mem_singleton.mpr rfl)) (by rfl) T.n_isinstance (by decide +kernel) (pa_cons (pv 0) (pa_cons (pe_glob (v := .ref T.c_Unknown) (by rfl) T.C_Unknown.G rfl) pa_nil)))) (pss_one ps_never) pss_nil)
      (pss_cons (ps_if (pt_val (pe_callB (call_isP T.E_BadText.EC hx (List.mem_singleton.mpr rfl)) (by rfl) T.n_isinstance (by decide +kernel) (pa_cons (pv 0) (pa_cons (pe_glob (v := .ref T.c_Twice) (by rfl) T.C_Twice.G rfl) pa_nil)))) (pss_one ps_never) pss_nil)
      (pss_cons (ps_if (pt_val (pe_callB (call_isP T.E_BadText.EC hx (List.mem_singleton.mpr rfl)) (by rfl) T.n_isinstance (by decide +kernel) (pa_cons (pv 0) (pa_cons (pe_glob (v := .ref T.c_TooLong) (by rfl) T.C_TooLong.G rfl) pa_nil)))) (pss_one ps_never) pss_nil)
      (pss_cons (ps_if (pt_val (pe_callB (call_isP T.E_BadText.EC hx (List.mem_singleton.mpr rfl)) (by rfl) T.n_isinstance (by decide +kernel) (pa_cons (pv 0) (pa_cons (pe_glob (v := .ref T.c_TooLarge) (by rfl) T.C_TooLarge.G rfl) pa_nil)))) (pss_one ps_never) pss_nil)
      (pss_cons (ps_if (pt_val (pe_callB (call_isP T.E_BadText.EC hx (List.mem_singleton.mpr rfl)) (by rfl) T.n_isinstance (by decide +kernel) (pa_cons (pv 0) (pa_cons (pe_glob (v := .ref T.c_TooMany) (by rfl) T.C_TooMany.G rfl) pa_nil)))) (pss_one ps_never) pss_nil)
      (pss_cons (ps_if (pt_val (pe_callB (call_isP T.E_BadText.EC hx (List.mem_singleton.mpr rfl)) (by rfl) T.n_isinstance (by decide +kernel) (pa_cons (pv 0) (pa_cons (pe_glob (v := .ref T.c_TooWide) (by rfl) T.C_TooWide.G rfl) pa_nil)))) (pss_one ps_never) pss_nil)
      (pss_cons (ps_if (pt_val (pe_callB (call_isP T.E_BadText.EC hx (List.mem_singleton.mpr rfl)) (by rfl) T.n_isinstance (by decide +kernel) (pa_cons (pv 0) (pa_cons (pe_glob (v := .ref T.c_TooTall) (by rfl) T.C_TooTall.G rfl) pa_nil)))) (pss_one ps_never) pss_nil)
      (pss_cons (ps_if (pt_val (pe_callB (call_isP T.E_BadText.EC hx (List.mem_singleton.mpr rfl)) (by rfl) T.n_isinstance (by decide +kernel) (pa_cons (pv 0) (pa_cons (pe_glob (v := .ref T.c_BadStyle) (by rfl) T.C_BadStyle.G rfl) pa_nil)))) (pss_one ps_never) pss_nil)
      (pss_cons (ps_if (pt_val (pe_callB (call_isP T.E_BadText.EC hx (List.mem_singleton.mpr rfl)) (by rfl) T.n_isinstance (by decide +kernel) (pa_cons (pv 0) (pa_cons (pe_glob (v := .ref T.c_BadSecret) (by rfl) T.C_BadSecret.G rfl) pa_nil)))) (pss_one ps_never) pss_nil)
      (pss_cons (ps_if (pt_val (pe_callB (call_isP T.E_BadText.EC hx (List.mem_singleton.mpr rfl)) (by rfl) T.n_isinstance (by decide +kernel) (pa_cons (pv 0) (pa_cons (pe_glob (v := .ref T.c_BadEnding) (by rfl) T.C_BadEnding.G rfl) pa_nil)))) (pss_one ps_never) pss_nil)
      (pss_cons (ps_if (pt_val (pe_callB (call_isP T.E_BadText.EC hx (List.mem_singleton.mpr rfl)) (by rfl) T.n_isinstance (by decide +kernel) (pa_cons (pv 0) (pa_cons (pe_glob (v := .ref T.c_NoStem) (by rfl) T.C_NoStem.G rfl) pa_nil)))) (pss_one ps_never) pss_nil)
      (pss_cons (ps_if (pt_val (pe_callB (call_isP T.E_BadText.EC hx (List.mem_singleton.mpr rfl)) (by rfl) T.n_isinstance (by decide +kernel) (pa_cons (pv 0) (pa_cons (pe_glob (v := .ref T.c_Untrue) (by rfl) T.C_Untrue.G rfl) pa_nil)))) (pss_one ps_never) pss_nil)
      (pss_cons (ps_if (pt_val (pe_callB (call_isP T.E_BadText.EC hx (List.mem_singleton.mpr rfl)) (by rfl) T.n_isinstance (by decide +kernel) (pa_cons (pv 0) (pa_cons (pe_glob (v := .ref T.c_BadFile) (by rfl) T.C_BadFile.G rfl) pa_nil)))) (pss_one ps_never) pss_nil)
      (pss_cons (ps_if (pt_val (pe_callB (call_isP T.E_BadText.EC hx (List.mem_singleton.mpr rfl)) (by rfl) T.n_isinstance (by decide +kernel) (pa_cons (pv 0) (pa_cons (pe_glob (v := .ref T.c_BadStep) (by rfl) T.C_BadStep.G rfl) pa_nil)))) (pss_one ps_never) pss_nil)
      (pss_cons (ps_set (i := 2) sc_law_told_error.nd rfl (.inl rfl) (pe_lst (pa_cons (pe_callB (call_isP T.E_BadText.EC hx (List.mem_singleton.mpr rfl)) (by rfl) T.n_isinstance (by decide +kernel) (pa_cons (pv 0) (pa_cons (pe_glob (v := .ref T.c_RecordError) (by rfl) T.C_RecordError.G rfl) pa_nil))) (pa_cons (pe_callB (call_isP T.E_BadText.EC hx (List.mem_singleton.mpr rfl)) (by rfl) T.n_isinstance (by decide +kernel) (pa_cons (pv 0) (pa_cons (pe_glob (v := .ref T.c_LimitError) (by rfl) T.C_LimitError.G rfl) pa_nil))) (pa_cons (pe_callB (call_isP T.E_BadText.EC hx (List.mem_singleton.mpr rfl)) (by rfl) T.n_isinstance (by decide +kernel) (pa_cons (pv 0) (pa_cons (pe_glob (v := .ref T.c_GivenError) (by rfl) T.C_GivenError.G rfl) pa_nil))) pa_nil)))))
      (pss_cons (ps_if (PW.pt (pw_or (pt_cmpR op_ne (pe_callB call_len_seq (by rfl) T.n_len PySem.boot_len (pa_cons (pv 1) pa_nil)) pe_int (nomark _)) (pw_or (pt_cmpR op_ne (pe_bm PySem.F.plainAttrs_list PySem.F.slot_list_count PySem.F.type_list_count mt_bcount (pv 2) (pa_cons pe_bl pa_nil)) pe_int (nomark _)) (pw_or1 (pt_not (pt_val (pe_callB (call_isP T.E_BadText.EC hx (List.mem_singleton.mpr rfl)) (by rfl) T.n_isinstance (by decide +kernel) (pa_cons (pv 0) (pa_cons (pe_bltn (v := .ty "ValueError") (by rfl) T.n_ValueError (by decide +kernel) rfl) pa_nil))))))))) (pss_one (ps_ret pe_non)) pss_nil)
      (pss_one (ps_ret (pe_ix ix_list (pv 1) pe_int (fun _ _ => rfl)))))))))))))))))))))))), ?_⟩
    refine ⟨by show 0 ≤ sizeLine; decide, fun l nl => ?_⟩
    have S0 : Same H (upd H l (.lst [])) := same_upd (Same.refl H) nl
    refine ⟨_, rfl, _, _, true, _, rfl, .own _, T.k_BadText_BadText, S0 _ _ hd, _, rfl, ?_⟩
    refine ⟨.ref l, rfl, .inl ⟨rfl, _, SqL.of upd_same⟩, ?_⟩
    refine ⟨_, rfl, rfl, _, _, S0 _ _ hd, rfl, by show 2 ≤ sizeLine; decide, fun c nc => ?_⟩
    have S1 := same_upd (o := .tup [.str "BadText", y]) S0 nc
    have ncl : c ≠ l := fun e => by rw [e, upd_same] at nc; cases nc
    have el : upd (upd H l (.lst [])) c (.tup [.str "BadText", y]) l = some (.lst []) := by rw [upd_ne ncl.symm]; exact upd_same
    refine ⟨l, _, _, rfl, rfl, el, lt_size (by decide), ?_⟩
    have S2 := same_mut (o := .lst ([] ++ [V.ref c])) S1 nl
    have hd2 := S2 _ _ hd
    have hc2 : upd (upd (upd H l (.lst [])) c (.tup [.str "BadText", y])) l (.lst ([] ++ [V.ref c])) c = some (.tup [.str "BadText", y]) := by rw [upd_ne ncl]; exact upd_same
    refine ⟨_, rfl, _, _, false, _, rfl, .own _, T.k_BadText_BadCall, hd2, _, rfl, ?_⟩
    refine ⟨_, rfl, _, _, false, _, rfl, .own _, T.k_BadText_Misplaced, hd2, _, rfl, ?_⟩
    refine ⟨_, rfl, _, _, false, _, rfl, .own _, T.k_BadText_Unknown, hd2, _, rfl, ?_⟩
    refine ⟨_, rfl, _, _, false, _, rfl, .own _, T.k_BadText_Twice, hd2, _, rfl, ?_⟩
    refine ⟨_, rfl, _, _, false, _, rfl, .own _, T.k_BadText_TooLong, hd2, _, rfl, ?_⟩
    refine ⟨_, rfl, _, _, false, _, rfl, .own _, T.k_BadText_TooLarge, hd2, _, rfl, ?_⟩
    refine ⟨_, rfl, _, _, false, _, rfl, .own _, T.k_BadText_TooMany, hd2, _, rfl, ?_⟩
    refine ⟨_, rfl, _, _, false, _, rfl, .own _, T.k_BadText_TooWide, hd2, _, rfl, ?_⟩
    refine ⟨_, rfl, _, _, false, _, rfl, .own _, T.k_BadText_TooTall, hd2, _, rfl, ?_⟩
    refine ⟨_, rfl, _, _, false, _, rfl, .own _, T.k_BadText_BadStyle, hd2, _, rfl, ?_⟩
    refine ⟨_, rfl, _, _, false, _, rfl, .own _, T.k_BadText_BadSecret, hd2, _, rfl, ?_⟩
    refine ⟨_, rfl, _, _, false, _, rfl, .own _, T.k_BadText_BadEnding, hd2, _, rfl, ?_⟩
    refine ⟨_, rfl, _, _, false, _, rfl, .own _, T.k_BadText_NoStem, hd2, _, rfl, ?_⟩
    refine ⟨_, rfl, _, _, false, _, rfl, .own _, T.k_BadText_Untrue, hd2, _, rfl, ?_⟩
    refine ⟨_, rfl, _, _, false, _, rfl, .own _, T.k_BadText_BadFile, hd2, _, rfl, ?_⟩
    refine ⟨_, rfl, _, _, false, _, rfl, .own _, T.k_BadText_BadStep, hd2, _, rfl, ?_⟩
    refine ⟨_, rfl, _, _, true, _, rfl, .own _, T.k_BadText_RecordError, hd2, _, rfl, _, _, false, _, rfl, .own _, T.k_BadText_LimitError, hd2, _, rfl, _, _, false, _, rfl, .own _, T.k_BadText_GivenError, hd2, by show 3 ≤ sizeLine; decide, fun g ng => ?_⟩
    have S3 := same_upd (o := .lst [V.bl true, .bl false, .bl false]) S2 ng
    have el2 : upd (upd (upd H l (.lst [])) c (.tup [.str "BadText", y])) l (.lst ([] ++ [V.ref c])) l = some (.lst ([] ++ [V.ref c])) := upd_same
    have ngl := ne_of_none el2 ng
    have el3 : upd (upd (upd (upd H l (.lst [])) c (.tup [.str "BadText", y])) l (.lst ([] ++ [V.ref c]))) g (.lst [V.bl true, .bl false, .bl false]) l = some (.lst ([] ++ [V.ref c])) := by rw [upd_ne ngl]; exact el2
    have hc3 : upd (upd (upd (upd H l (.lst [])) c (.tup [.str "BadText", y])) l (.lst ([] ++ [V.ref c]))) g (.lst [V.bl true, .bl false, .bl false]) c = some (.tup [.str "BadText", y]) := by rw [upd_ne (ne_of_none hc2 ng)]; exact hc2
    refine ⟨_, rfl, l, _, rfl, .inl (SqL.of el3), rfl, false, congrArg V.bl (not_dec rfl), ?_⟩
    refine ⟨.ref g, rfl, .inl ⟨rfl, _, SqL.of upd_same⟩, g, [true, false, false], true, rfl, rfl, SqL.of upd_same, rfl, false, congrArg V.bl (not_dec rfl), ?_⟩
    refine ⟨_, rfl, _, _, true, _, rfl, .ty _, T.v_BadText, S3 _ _ hd, _, rfl, ?_⟩
    exact ⟨_, rfl, l, _, 0, _, rfl, rfl, SqL.of el3, rfl, q _ c S3 hc3⟩
end
end Vf

set_option Elab.async false
set_option linter.all false
set_option maxRecDepth 100000
set_option maxHeartbeats 4000000
namespace Vf
open PySem PySem.Spec PyProof.Rows L2 TL
/-! ### the tokens of a tree fit -/
mutual
theorem Wk.ofT {most : Nat} : ∀ {t : Tr} {ts : List (List Nat)} {d : Nat}, Wk most ts d → depT t + d ≤ most → GoodT t → Wk most (ts ++ toksT t) d
  | .nil, ts, d, h, _, _ => by simp only [toksT, List.append_nil]; exact h
  | .word w r, ts, d, h, hd, g => by
    simp only [depT, GoodT, toksT] at hd g ⊢
    have h2 := Wk.ofT (t := r) (.word h g.1) hd g.2
    rw [List.append_assoc] at h2
    exact h2
  | .call n a r, ts, d, h, hd, g => by
    simp only [depT, GoodT, toksT] at hd g ⊢
    have h1 : Wk most (ts ++ [64 :: n]) d := .call h g.1
    have hf : free (ts ++ [64 :: n]) = true := by
      rw [free_snoc]; exact Bool.or_eq_true_iff.mpr (.inr (decide_eq_true rfl))
    have ⟨h2, _⟩ := Wk.ofA (a := a) h1 hf (by omega) g.2.1
    have h3 := Wk.ofT (t := r) h2 (by omega) g.2.2
    simp only [List.append_assoc, List.cons_append, List.nil_append] at h3
    exact h3
theorem Wk.ofA {most : Nat} : ∀ {a : Ar} {ts : List (List Nat)} {d : Nat}, Wk most ts d → free ts = true → depA a + d ≤ most → GoodA a → Wk most (ts ++ toksA a) d ∧ free (ts ++ toksA a) = true
  | .nil, ts, d, h, hf, _, _ => by simp only [toksA, List.append_nil]; exact ⟨h, hf⟩
  | .cons t r, ts, d, h, hf, hd, g => by
    simp only [depA, GoodA, toksA] at hd g ⊢
    have h1 : Wk most (ts ++ [[123]]) (d + 1) := .opn h hf (by omega)
    have h2 := Wk.ofT (t := t) h1 (by omega) g.1
    have h3 : Wk most (ts ++ [[123]] ++ toksT t ++ [[125]]) d := .cls h2
    have hf3 : free (ts ++ [[123]] ++ toksT t ++ [[125]]) = true := by
      rw [free_snoc]; exact Bool.or_eq_true_iff.mpr (.inl (decide_eq_true rfl))
    have h4 := Wk.ofA (a := r) h3 hf3 (by omega) g.2
    simp only [List.append_assoc, List.cons_append, List.nil_append] at h4
    exact h4
end
/-! ### two trees of the same tokens are one -/
def stopT (r : List (List Nat)) : Prop := ∀ x xs, r = x :: xs → x = [125]
def stopA (r : List (List Nat)) : Prop := ∀ x xs, r = x :: xs → x ≠ [123]
theorem tree_stop : ∀ {t : Tr} {r : List (List Nat)}, GoodT t → stopT r → stopA (toksT t ++ r)
  | .nil, r, _, h => fun x xs e => by
    simp only [toksT, List.nil_append] at e
    rw [h x xs e]; decide
  | .word w t, r, g, _ => fun x xs e => by
    simp only [toksT, List.cons_append, GoodT] at e g
    injection e with e1 _
    rw [← e1]; exact g.1.head.2.1
  | .call n a t, r, g, _ => fun x xs e => by
    simp only [toksT, List.cons_append] at e
    injection e with e1 _
    rw [← e1]
    intro z
    injection z with z1 _
    exact absurd z1 (by decide)
mutual
theorem toks_injT : ∀ {t u : Tr} {r s : List (List Nat)}, GoodT t → GoodT u → stopT r → stopT s → toksT t ++ r = toksT u ++ s → t = u ∧ r = s
  | .nil, u, r, s, _, gu, hr, hs, e => by
    cases u with
    | nil => simp only [toksT, List.nil_append] at e; exact ⟨rfl, e⟩
    | word w u =>
      simp only [toksT, List.nil_append, List.cons_append, GoodT] at e gu
      exact absurd (hr _ _ e) gu.1.head.2.2
    | call n a u =>
      simp only [toksT, List.nil_append, List.cons_append] at e
      have := hr _ _ e
      injection this with z1 _
      exact absurd z1 (by decide)
  | .word w t, u, r, s, gt, gu, hr, hs, e => by
    cases u with
    | nil =>
      simp only [toksT, List.nil_append, List.cons_append, GoodT] at e gt
      exact absurd (hs _ _ e.symm) gt.1.head.2.2
    | word w2 u =>
      simp only [toksT, List.cons_append, GoodT] at e gt gu
      injection e with e1 e2
      obtain ⟨rfl, h⟩ := toks_injT gt.2 gu.2 hr hs e2
      exact ⟨by rw [e1], h⟩
    | call n a u =>
      simp only [toksT, List.cons_append, GoodT] at e gt
      injection e with e1 e2
      rw [e1] at gt
      exact absurd rfl gt.1.head.1
  | .call n a t, u, r, s, gt, gu, hr, hs, e => by
    cases u with
    | nil =>
      simp only [toksT, List.nil_append, List.cons_append] at e
      have := hs _ _ e.symm
      injection this with z1 _
      exact absurd z1 (by decide)
    | word w2 u =>
      simp only [toksT, List.cons_append, GoodT] at e gu
      injection e with e1 e2
      rw [← e1] at gu
      exact absurd rfl gu.1.head.1
    | call n2 a2 u =>
      simp only [toksT, List.cons_append, List.append_assoc, GoodT] at e gt gu
      injection e with e1 e2
      injection e1 with _ e3
      obtain ⟨rfl, h⟩ := toks_injA gt.2.1 gu.2.1 (tree_stop gt.2.2 hr) (tree_stop gu.2.2 hs) e2
      obtain ⟨rfl, h2⟩ := toks_injT gt.2.2 gu.2.2 hr hs h
      exact ⟨by rw [e3], h2⟩
theorem toks_injA : ∀ {t u : Ar} {r s : List (List Nat)}, GoodA t → GoodA u → stopA r → stopA s → toksA t ++ r = toksA u ++ s → t = u ∧ r = s
  | .nil, u, r, s, _, gu, hr, hs, e => by
    cases u with
    | nil => simp only [toksA, List.nil_append] at e; exact ⟨rfl, e⟩
    | cons t2 u =>
      simp only [toksA, List.nil_append, List.cons_append] at e
      exact absurd rfl (hr _ _ e)
  | .cons t a, u, r, s, gt, gu, hr, hs, e => by
    cases u with
    | nil =>
      simp only [toksA, List.nil_append, List.cons_append] at e
      exact absurd rfl (hs _ _ e.symm)
    | cons t2 u =>
      simp only [toksA, List.cons_append, List.append_assoc, GoodA] at e gt gu
      injection e with _ e2
      obtain ⟨rfl, h⟩ := toks_injT gt.1 gu.1 (fun x xs z => by injection z with z1 _; exact z1.symm) (fun x xs z => by injection z with z1 _; exact z1.symm) e2
      injection h with _ h2
      obtain ⟨rfl, h3⟩ := toks_injA gt.2 gu.2 hr hs h2
      exact ⟨rfl, h3⟩
end
theorem toks_inj {t u : Tr} (gt : GoodT t) (gu : GoodT u) (h : toksT t = toksT u) : t = u :=
  (toks_injT (r := []) (s := []) gt gu (fun _ _ e => nomatch e) (fun _ _ e => nomatch e) (by rw [List.append_nil, List.append_nil]; exact h)).1
/-! ### two values of one tree -/
theorem get_cons {x : V} {xs : List V} {P : V → V → Prop} {y : V} {ys : List V} (h0 : P x y) (h : xs.length = ys.length ∧ ∀ (i : Nat) a b, xs[i]? = some a → ys[i]? = some b → P a b) :
    (x :: xs).length = (y :: ys).length ∧ ∀ (i : Nat) a b, (x :: xs)[i]? = some a → (y :: ys)[i]? = some b → P a b := by
  refine ⟨by rw [List.length_cons, List.length_cons, h.1], fun i a b ea eb => ?_⟩
  cases i with
  | zero =>
    have e1 : x = a := Option.some.inj ea
    have e2 : y = b := Option.some.inj eb
    subst e1 e2
    exact h0
  | succ i => exact h.2 i a b ea eb
theorem get_nil {P : V → V → Prop} : ([] : List V).length = ([] : List V).length ∧ ∀ (i : Nat) a b, ([] : List V)[i]? = some a → ([] : List V)[i]? = some b → P a b := ⟨rfl, fun i a b e _ => by simp at e⟩
mutual
theorem eqvT {H : Hp} : ∀ {t : Tr} {vs us : List V} {n : Nat}, RepT H t vs → RepT H t us → 3 * depT t + 4 ≤ n → (toksT t).length ≤ 100000 → vs.length = us.length ∧ ∀ (i : Nat) x y, vs[i]? = some x → us[i]? = some y → Eqv n H x y
  | .nil, vs, us, n, h, k, _, _ => by
    simp only [RepT] at h k
    subst h k
    exact get_nil
  | .word w r, vs, us, n, h, k, hn, hl => by
    simp only [RepT, depT, toksT, List.length_cons] at h k hn hl
    obtain ⟨p, vs', rfl, a, b⟩ := h
    obtain ⟨p2, us', rfl, a2, b2⟩ := k
    obtain ⟨m, rfl⟩ : ∃ m, n = m + 2 := ⟨n - 2, by omega⟩
    refine get_cons (.inr ⟨p, p2, _, _, rfl, rfl, a, a2, rfl, by show 2 ≤ 100000; decide, ?_⟩) (eqvT b b2 hn (by omega))
    exact (get_cons (P := Eqv (m + 1) H) (.inl (.inl ⟨_, rfl, rfl⟩)) (get_cons (.inl (.inl ⟨_, rfl, rfl⟩)) get_nil)).2
  | .call nm a r, vs, us, n, h, k, hn, hl => by
    simp only [RepT, depT, toksT, List.length_cons, List.length_append] at h k hn hl
    obtain ⟨p, q, ws, vs', rfl, x, b, c, d⟩ := h
    obtain ⟨p2, q2, ws2, us', rfl, x2, b2, c2, d2⟩ := k
    obtain ⟨m, rfl⟩ : ∃ m, n = m + 3 := ⟨n - 3, by omega⟩
    have hA := eqvA c c2 (n := m + 1) (by omega) (by omega)
    have hw := c.len
    refine get_cons (.inr ⟨p, p2, _, _, rfl, rfl, x, x2, rfl, by show 3 ≤ 100000; decide, ?_⟩) (eqvT d d2 (by omega) (by omega))
    refine (get_cons (P := Eqv (m + 2) H) (.inl (.inl ⟨_, rfl, rfl⟩)) (get_cons (.inl (.inl ⟨_, rfl, rfl⟩)) (get_cons (.inr ⟨q, q2, ws, ws2, rfl, rfl, b, b2, hA.1, by omega, hA.2⟩) get_nil))).2
theorem eqvA {H : Hp} : ∀ {t : Ar} {vs us : List V} {n : Nat}, RepA H t vs → RepA H t us → 3 * depA t + 2 ≤ n → (toksA t).length ≤ 100000 → vs.length = us.length ∧ ∀ (i : Nat) x y, vs[i]? = some x → us[i]? = some y → Eqv n H x y
  | .nil, vs, us, n, h, k, _, _ => by
    simp only [RepA] at h k
    subst h k
    exact get_nil
  | .cons t r, vs, us, n, h, k, hn, hl => by
    simp only [RepA, depA, toksA, List.length_cons, List.length_append] at h k hn hl
    obtain ⟨p, ws, vs', rfl, a, b, c⟩ := h
    obtain ⟨p2, ws2, us', rfl, a2, b2, c2⟩ := k
    obtain ⟨m, rfl⟩ : ∃ m, n = m + 1 := ⟨n - 1, by omega⟩
    have hT := eqvT b b2 (n := m) (by omega) (by omega)
    have hw := b.len
    exact get_cons (.inr ⟨p, p2, ws, ws2, rfl, rfl, a, a2, hT.1, by omega, hT.2⟩) (eqvA c c2 (by omega) (by omega))
end
theorem eqv_tree {H : Hp} {t : Tr} {v u : V} {n : Nat} (hv : TV H v t) (hu : TV H u t) (hn : 3 * depT t + 4 ≤ n) (hl : (toksT t).length ≤ 100000) : Eqv (n + 1) H v u := by
  obtain ⟨p, vs, rfl, a, b⟩ := hv
  obtain ⟨q, us, rfl, a2, b2⟩ := hu
  have h := eqvT b b2 hn hl
  have hw := b.len
  exact .inr ⟨p, q, vs, us, rfl, rfl, a, a2, h.1, by omega, h.2⟩
/-- every token of a good tree is one for the text -/
theorem Wk.tk {most : Nat} {ts : List (List Nat)} {dp : Nat} (h : Wk most ts dp) : ∀ z ∈ ts, Tk z := by
  have br : ∀ c, c = 123 ∨ c = 125 → Tk [c] := fun c hc => by
    refine .inl ⟨c, rfl, ?_, ?_, ?_⟩
    · unfold cB; rw [sB_list]; rcases hc with rfl | rfl <;> decide
    · unfold cW; rw [sW_list]; rcases hc with rfl | rfl <;> decide
    · rcases hc with rfl | rfl <;> decide
  induction h with
  | nil => exact fun _ h => nomatch h
  | opn _ _ _ ih =>
    intro z hz
    rcases List.mem_append.mp hz with h | h
    · exact ih z h
    · rw [List.mem_singleton.mp h]; exact br 123 (.inl rfl)
  | cls _ ih =>
    intro z hz
    rcases List.mem_append.mp hz with h | h
    · exact ih z h
    · rw [List.mem_singleton.mp h]; exact br 125 (.inr rfl)
  | call _ b ih =>
    intro z hz
    rcases List.mem_append.mp hz with h | h
    · exact ih z h
    · rw [List.mem_singleton.mp h]; exact .inr (.inl ⟨_, rfl, b.2.2⟩)
  | word _ b ih =>
    intro z hz
    rcases List.mem_append.mp hz with h | h
    · exact ih z h
    · rw [List.mem_singleton.mp h]; exact .inr (.inr ⟨b.1, b.2.2⟩)
end Vf

set_option Elab.async false
set_option linter.all false
set_option maxRecDepth 100000
set_option maxHeartbeats 4000000
namespace Vf
open PySem PySem.Spec PyProof.Rows L2 TL
theorem takesN0 {X : Cx} : L2N.Takes X (fun _ _ _ _ => False) := fun _ _ x => by
  obtain ⟨_, _, _, _, _, _, _, _, _, _, _, _, _, _, _, _, z⟩ := x
  exact z.elim
/-! ### calls within an except suite -/
section
variable {X : Cx} {k : Nat} {f : Addr} {fd : FuncData} {ps : List Str} {x : Str} {q pos : Pos} {e : Expr} {es : List Expr} {t : TA} {a : Addr} {oe : Obj} {cls : Value} {d : Option Addr} {pn : List (Addr × Obj)}
theorem hot_suite (hz : L2N.Zn cls d oe) (hf : ∃ vs, oe.data = .fields vs) : L2H.Hot1 (X.suite a ((a, oe) :: pn)).A (a, oe) := by
  obtain ⟨vs, hv⟩ := hf
  exact ⟨rfl, vs, hv, hz.2.2 vs hv⟩
/-- a call whose promise doesn't speak of the exception -/
def tCallE (sp : List V → Hp → VK → Prop) (t : TA) : TE := fun σ H Q => t σ H fun vs H1 => sp vs H1 Q
theorem pe_callE {sp : List V → Hp → VK → Prop} (hz : L2N.Zn cls d oe) (hf : ∃ vs, oe.data = .fields vs) (F : FnP X.prog X.w X.K X.mg X.base k f fd ps (fun _ => sp)) (hr : Room k X.A) (hg : Gl (X.suite a ((a, oe) :: pn)) x) (hm : X.mg x = some (.ref f)) (hk : PySem.W.keepIn X.K (.ref f) = true) (hb : Binds X.K fd ps [])
    (ha : PA (X.suite a ((a, oe) :: pn)) (e :: es) t) (hdb : (x == ("__debug__" : Str)) = false := by decide) (he : starEach (e :: es) X.env = (false, eval e X.env) :: starEach es X.env := by rfl)
    (hpl : (backTo pos (starEach es X.env)).any (·.1) = false := by rfl) : PE (X.suite a ((a, oe) :: pn)) (.Call (.Name x q) (e :: es) [] pos) (tCallE sp t) :=
  pe_callP (X := X.suite a ((a, oe) :: pn)) (p := (a, oe)) F ⟨hr.dp, hr.un⟩ (hot_suite hz hf) List.mem_cons_self hg hm hk hb ha hdb he hpl
/-- what the law's told_error tells of the exception -/
def tTold (D : Addr) (n f : Str) (a : Addr) (cls : Value) (d : Option Addr) (i : Nat) : TE := fun σ H Q => tVar i σ H fun x H1 => x = .ref a ∧ cls = .ref D ∧ ∃ (dd : Addr) (y : V), d = some dd ∧ H1 dd = some (.xd [(f, y)]) ∧
  ∀ H' c, Same H1 H' → H' c = some (.tup [.str n, y]) → Q (.ref c) H'
theorem pe_told {D : Addr} {n g : Str} {i : Nat} {y : Str} {py : Pos} (hz : L2N.Zn cls d oe) (hf : ∃ vs, oe.data = .fields vs) (F : FnP X.prog X.w X.K X.mg X.base k f fd ps (spTold1 X.K D n g)) (hr : Room k X.A) (hg : Gl (X.suite a ((a, oe) :: pn)) x) (hm : X.mg x = some (.ref f)) (hk : PySem.W.keepIn X.K (.ref f) = true) (hb : Binds X.K fd ps [])
    (hv : PE (X.suite a ((a, oe) :: pn)) (.Name y py) (tVar i)) (hdb : (x == ("__debug__" : Str)) = false := by decide) : PE (X.suite a ((a, oe) :: pn)) (.Call (.Name x q) [.Name y py] [] pos) (tTold D n g a cls d i) := by
  have h := pe_callP (X := X.suite a ((a, oe) :: pn)) (p := (a, oe)) (q := q) (pos := pos) F ⟨hr.dp, hr.un⟩ (hot_suite hz hf) List.mem_cons_self hg hm hk hb (pa_cons hv pa_nil) hdb rfl rfl
  refine ⟨fun pins s σ H Q I h2 => h.run pins s σ H Q I ?_⟩
  obtain ⟨v, hvv, ev, ec, dd, y, ed, hd, q⟩ := h2
  subst ev ec ed
  exact ⟨_, hvv, rfl, dd, y, ⟨hz.zc, hf⟩, hd, q⟩
end
theorem bad_pre {ts : List (List Nat)} {k d : Nat} {us : List (List Nat)} (h : Wk 12 us d) (hk : k < us.length) (e : ∀ i, i ≤ k → us[i]? = ts[i]?) : ¬ ∃ dp z, Wk 12 (ts.take k) dp ∧ ts[k]? = some z ∧ fitsB z dp (free (ts.take k)) = false := by
  rintro ⟨dp, z, hw, hz, hf⟩
  have e1 : us.take k = ts.take k := by
    apply List.ext_getElem?
    intro i
    rw [List.getElem?_take, List.getElem?_take]
    by_cases hi : i < k
    · rw [if_pos hi, if_pos hi]; exact e i (by omega)
    · rw [if_neg hi, if_neg hi]
  have hz2 : us[k]? = some z := by rw [e k (by omega)]; exact hz
  have et : us.take (k + 1) = ts.take k ++ [z] := by rw [take_succ' hz2, e1]
  obtain ⟨d2, hw2⟩ := Wk.pre (us.drop (k + 1)) (us.take (k + 1)) d (by rw [List.take_append_drop]; exact h)
  rw [et] at hw2
  have := wk_fits hw2 hw
  rw [hf] at this; cases this
theorem bad_not {ts : List (List Nat)} {k : Nat} (h : Bad ts k) (hw : Wk 12 ts 0) : False := by
  rcases h with h | ⟨_, dp, hd, h0⟩
  · have hk : k < ts.length := by
      obtain ⟨_, _, _, hz, _⟩ := h
      exact (List.getElem?_eq_some_iff.mp hz).1
    exact bad_pre (ts := ts) hw hk (fun _ _ => rfl) h
  · have := Wk.det hd hw
    omega
theorem bad_lt {ts : List (List Nat)} {k k2 : Nat} (h : Bad ts k) (h2 : Bad ts k2) (hl : k < k2) : False := by
  rcases h with h | ⟨rfl, _⟩
  · rcases h2 with ⟨dp, z, hw, hz, _⟩ | ⟨rfl, dp, hw, _⟩
    · have hk2 := (List.getElem?_eq_some_iff.mp hz).1
      refine bad_pre (ts := ts) hw (by rw [List.length_take]; omega) (fun i hi => ?_) h
      rw [List.getElem?_take, if_pos (by omega)]
    · exact bad_pre (ts := ts) hw hl (fun _ _ => rfl) h
  · rcases h2 with ⟨dp, z, hw, hz, _⟩ | ⟨rfl, _⟩
    · have := (List.getElem?_eq_some_iff.mp hz).1
      omega
    · omega
theorem bad_one {ts : List (List Nat)} {k k2 : Nat} (h : Bad ts k) (h2 : Bad ts k2) : k = k2 := by
  rcases Nat.lt_trichotomy k k2 with q | q | q
  · exact (bad_lt h h2 q).elim
  · exact q
  · exact (bad_lt h2 h q).elim
theorem eqv_pair {H : Hp} {c c2 : Addr} {n : Str} {k : Int} (h1 : H c = some (.tup [.str n, .int k])) (h2 : H c2 = some (.tup [.str n, .int k])) : Eqv 2 H (.ref c) (.ref c2) := by
  refine .inr ⟨c, c2, _, _, rfl, rfl, h1, h2, rfl, by show 2 ≤ 100000; decide, fun i x y hx hy => ?_⟩
  match i, hx, hy with
  | 0, hx, hy =>
    have ex := Option.some.inj hx
    have ey := Option.some.inj hy
    subst ex ey
    exact .inl (.inl ⟨_, rfl, rfl⟩)
  | 1, hx, hy =>
    have ex := Option.some.inj hx
    have ey := Option.some.inj hy
    subst ex ey
    exact .inl (.inr (.inl ⟨_, rfl, rfl⟩))
  | _ + 2, hx, _ => cases hx
section
variable {P : Program} {w : World} {K : PySem.W.Frag} {mg : Str → Option Value} {base : Heap}
def spReads (K : PySem.W.Frag) : Sp := fun vs H Q _ => ∃ (zs : List Nat) (p : Addr), vs = [sV zs, .ref p] ∧ SqL K H p ((tok zs).map sV) ∧ zs.length ≤ 100000 ∧ (tok zs).length ≤ 5000 ∧ (∀ z ∈ tok zs, Tk z ∧ z.length ≤ 1000) ∧ ∀ H', Same H H' → Q (.bl true) H'
theorem SqL.same {H H' : Hp} {a : Addr} {xs : List V} (h : SqL K H a xs) (s : Same H H') : SqL K H' a xs := by
  rcases h with (h | ⟨o, h⟩) | h
  · exact .inl (.inl (s _ _ h))
  · exact .inl (.inr ⟨o, s _ _ h⟩)
  · exact .inr h
theorem ok_reads (T : Txt K mg) : FnOk P w K mg base CX0 43 T.a_law_reads T.d_law_reads ["_law_text", "_law_tokens"] (spReads K) := by
  have G_law_first_bad : FnOk P w K mg base CX0 2 T.a_law_first_bad T.d_law_first_bad ["_law_tokens", "_law_most"] (spFirstBad K) := ok_first_bad T
  have G_law_tree_of : FnOk P w K mg base CX0 1 T.a_law_tree_of T.d_law_tree_of ["_law_tokens"] (spTreeOf K) := ok_tree_of T
  have G_read_tree : FnOk P w K mg base (L2N.CX P w) 5 T.a_read_tree T.d_read_tree ["text"] (spReadX T.c_BadText) := ok_readX T
  have G_law_exact : FnOk P w K mg base CX0 42 T.a_law_exact T.d_law_exact ["_law_told", "_law_due"] (spExact 41) := ok_exact T 41
  have G_told : FnP P w K mg base 1 T.a_law_told_error T.d_law_told_error ["_law_e"] (spTold1 K T.c_BadText "BadText" "at") := ok_told_BadText T
  have G_exactP : FnP P w K mg base 3 T.a_law_exact T.d_law_exact ["_law_told", "_law_due"] (fun _ vs H Q => spExact 2 vs H Q E0) := ok_exactP T 2
  refine T.D_law_reads.F.ok sc_law_reads (fun vs H Q E h => ?_) (fun cdv A outer s H vs Q E hr h => ?_)
  · obtain ⟨zs, p, rfl, _⟩ := h
    rfl
  · obtain ⟨zs, p, rfl, hS, hzl, htl, htk, q⟩ := h
    have hr1 : Room 1 _ := hr.mono (by decide)
    have hr3 : Room 3 _ := hr.mono (by decide)
    have hr4 : Room 5 _ := hr.mono (by decide)
    refine ⟨_, pss_cons (ps_set (i := 2) sc_law_reads.nd rfl (.inl rfl) (pe_call G_law_first_bad (hr.mono (by decide)) (by rfl) T.D_law_first_bad.G T.D_law_first_bad.F.kp T.D_law_first_bad.B .nil pass0 (pa_cons (pv 1) (pa_cons pe_int pa_nil))))
      (pss_cons (L2N.ps_try_as (i := 4) (tb := fun W => tAsg (tCallS (spReadX T.c_BadText) (WE W) (tCons (tVar 0) tNil)) (gName 3))
          (ts := fun a cls d => tRet (tAndV (tOp (rI0 fun i j => .bl (decide (j ≤ i))) (tVar 2) (tC (.int 0))) (tCallE (fun vs H Q => spExact 2 vs H Q E0) (tCons (tTold T.c_BadText "BadText" "at" a cls d 4) (tCons (tTup (tCons (tC (.str "BadText")) (tCons (tVar 2) tNil))) tNil)))))
          (Wout := fun _ _ _ _ => False) rfl rfl sc_law_reads.nd rfl rfl ⟨rfl, by decide, Or.inl T.C_PagesError.G⟩ takesN0
          (fun W pn xe tk _ => pss_one (ps_set (i := 3) sc_law_reads.nd rfl (Or.inl rfl) (by exact (pe_callS G_read_tree hr4 rfl T.D_read_tree.G T.D_read_tree.F.kp T.D_read_tree.B (fun σ => L2N.passAt tk σ) (by exact (pa_cons (pv 0) pa_nil))))))
          (fun a oe cls d pn hz hf => pss_one (ps_ret (pe_and (pe_cmpR op_ge (pv 2) pe_int (nomark _)) (pe_one (by exact (pe_callE hz hf G_exactP hr3 rfl T.D_law_exact.G T.D_law_exact.F.kp T.D_law_exact.B
            (pa_cons (by exact (pe_told hz hf G_told hr1 rfl T.D_law_told_error.G T.D_law_told_error.F.kp T.D_law_told_error.B (pv 4))) (pa_cons (pe_tup (pa_cons pe_str (pa_cons (pv 2) pa_nil))) pa_nil)))))))))
        (pss_one (ps_ret (pe_and (pe_cmpR op_lt (pv 2) pe_int (nomark _)) (pe_one (pe_call G_law_exact (hr.mono (by decide)) (by rfl) T.D_law_exact.G T.D_law_exact.F.kp T.D_law_exact.B .nil pass0
          (pa_cons (pv 3) (pa_cons (pe_call G_law_tree_of (hr.mono (by decide)) (by rfl) T.D_law_tree_of.G T.D_law_tree_of.F.kp T.D_law_tree_of.B .nil pass0 (pa_cons (pv 1) pa_nil)) pa_nil)))))))), ?_⟩
    refine ⟨_, rfl, p, tok zs, 12, rfl, hS, by omega, htk, fun b hb0 => ?_⟩
    have hb := bad12 hb0
    refine ⟨_, rfl, zs, rfl, hzl, by omega, fun z hz => ⟨(htk z hz).1.ne, (htk z hz).2⟩, fun hw H1 v t s1 hv et hd hg => ?_, fun k hk H1 d s1 hd => ?_⟩
    · have eb : b = -1 := by
        rcases hb with ⟨e, _⟩ | ⟨k, _, hk⟩
        · exact e
        · exact (bad_not hk hw).elim
      subst eb
      refine ⟨_, rfl, _, _, rfl, rfl, true, bl_of (decide_eq_true (by decide)), ?_⟩
      refine ⟨_, rfl, _, rfl, p, tok zs, 12, rfl, SqL.same hS s1, hw, htl, by decide, fun H2 v2 t2 s2 hv2 et2 hd2 hg2 => ?_⟩
      have e12 : t2 = t := toks_inj hg2 hg (by rw [et2, et])
      subst e12
      exact ⟨_, _, rfl, eqv_tree (n := 40) (hv.keep (TKeep.same s2)) hv2 (by omega) (by rw [et]; omega), q H2 (s1.trans s2)⟩
    · have eb : b = (k : Int) := by
        rcases hb with ⟨_, hw⟩ | ⟨k2, e, hk2⟩
        · exact (bad_not hk hw).elim
        · rw [e, bad_one hk hk2]
      subst eb
      refine ⟨true, T.x_BadText, fun _ a ha => ?_, fun z => nomatch z⟩
      refine ⟨_, rfl, _, _, rfl, rfl, true, bl_of (decide_eq_true (by omega)), ?_⟩
      refine ⟨_, rfl, rfl, rfl, d, _, rfl, hd, fun H2 c s2 e2 => ?_⟩
      refine ⟨_, rfl, by show 2 ≤ sizeLine; decide, fun c2 n2 => ?_⟩
      have s3 := same_upd (o := .tup [.str "BadText", .int (k : Int)]) (Same.refl H2) n2
      exact ⟨_, _, rfl, eqv_pair (s3 _ _ e2) upd_same, q _ ((s1.trans s2).trans s3)⟩
end
end Vf

set_option Elab.async false
set_option linter.all false
set_option maxRecDepth 100000
set_option maxHeartbeats 4000000
namespace Vf
open PySem PySem.Spec PyProof.Rows L2 TL
section
variable {P : Program} {w : World} {K : PySem.W.Frag} {mg : Str → Option Value} {base : Heap}
theorem ok_odd_token (T : Txt K mg) : FnOk P w K mg base CX0 5 T.a_law_odd_token T.d_law_odd_token ["_law_d"] (spStr RTok) := by
  have G_law_draw : FnOk P w K mg base CX0 1 T.a_law_draw T.d_law_draw ["_law_d", "_law_many"] spDraw := ok_draw T
  have G_law_pick : FnOk P w K mg base CX0 2 T.a_law_pick T.d_law_pick ["_law_d", "_law_row"] (spPick K) := ok_pick T
  have G_law_run : FnOk P w K mg base CX0 3 T.a_law_run T.d_law_run ["_law_d", "_law_signs", "_law_size"] spRun := ok_run T
  have G_law_word_signs : FnOk P w K mg base CX0 1 T.a_law_word_signs T.d_law_word_signs [] (spC sW) := ok_word_signs T
  have G_law_odd_signs : FnOk P w K mg base CX0 1 T.a_law_odd_signs T.d_law_odd_signs [] (spC sOdd) := ok_odd_signs T
  have G_law_some_name : FnOk P w K mg base CX0 4 T.a_law_some_name T.d_law_some_name ["_law_d"] (spStr RName) := ok_some_name T
  have G_law_some_word : FnOk P w K mg base CX0 4 T.a_law_some_word T.d_law_some_word ["_law_d"] (spStr RWord) := ok_some_word T
  refine T.D_law_odd_token.F.ok sc_law_odd_token (fun vs H Q E h => ?_) (fun cdv A outer s H vs Q E hr h => ?_)
  · obtain ⟨d, l, rfl, _⟩ := h
    rfl
  · obtain ⟨d, l, rfl, hD, q⟩ := h
    refine ⟨_, (pss_cons (ps_set (i := 1) sc_law_odd_token.nd rfl (.inl rfl) (pe_call G_law_draw (hr.mono (by decide)) (by rfl) T.D_law_draw.G T.D_law_draw.F.kp T.D_law_draw.B .nil pass0 (pa_cons (pv 0) (pa_cons pe_int pa_nil))))
      (pss_cons (ps_if (pt_cmpR op_lt (pv 1) pe_int (nomark _)) (pss_one (ps_ret pe_str)) pss_nil)
      (pss_cons (ps_if (pt_cmpR op_lt (pv 1) pe_int (nomark _)) (pss_one (ps_ret pe_str)) pss_nil)
      (pss_cons (ps_if (pt_cmpR op_eq (pv 1) pe_int (nomark _)) (pss_one (ps_ret (pe_op op_add_str pe_str (pe_call G_law_run (hr.mono (by decide)) (by rfl) T.D_law_run.G T.D_law_run.F.kp T.D_law_run.B .nil pass0 (pa_cons (pv 0) (pa_cons pe_str (pa_cons (pe_call G_law_pick (hr.mono (by decide)) (by rfl) T.D_law_pick.G T.D_law_pick.F.kp T.D_law_pick.B .nil pass0 (pa_cons (pv 0) (pa_cons (pe_lst (pa_cons pe_int (pa_cons pe_int (pa_cons pe_int (pa_cons pe_int pa_nil))))) pa_nil))) pa_nil))))))) pss_nil)
      (pss_cons (ps_if (pt_cmpR op_eq (pv 1) pe_int (nomark _)) (pss_one (ps_ret (pe_call G_law_run (hr.mono (by decide)) (by rfl) T.D_law_run.G T.D_law_run.F.kp T.D_law_run.B .nil pass0 (pa_cons (pv 0) (pa_cons (pe_call0 G_law_word_signs (hr.mono (by decide)) (by rfl) T.D_law_word_signs.G T.D_law_word_signs.F.kp T.D_law_word_signs.B .nil pass0) (pa_cons (pe_call G_law_pick (hr.mono (by decide)) (by rfl) T.D_law_pick.G T.D_law_pick.F.kp T.D_law_pick.B .nil pass0 (pa_cons (pv 0) (pa_cons (pe_lst (pa_cons pe_int (pa_cons pe_int (pa_cons pe_int (pa_cons pe_int pa_nil))))) pa_nil))) pa_nil)))))) pss_nil)
      (pss_cons (ps_if (pt_cmpR op_eq (pv 1) pe_int (nomark _)) (pss_one (ps_ret (pe_call G_law_pick (hr.mono (by decide)) (by rfl) T.D_law_pick.G T.D_law_pick.F.kp T.D_law_pick.B .nil pass0 (pa_cons (pv 0) (pa_cons (pe_call0 G_law_odd_signs (hr.mono (by decide)) (by rfl) T.D_law_odd_signs.G T.D_law_odd_signs.F.kp T.D_law_odd_signs.B .nil pass0) pa_nil))))) pss_nil)
      (pss_cons (ps_if (pt_cmpR op_eq (pv 1) pe_int (nomark _)) (pss_one (ps_ret (pe_op op_add_str pe_str (pe_call G_law_some_name (hr.mono (by decide)) (by rfl) T.D_law_some_name.G T.D_law_some_name.F.kp T.D_law_some_name.B .nil pass0 (pa_cons (pv 0) pa_nil))))) pss_nil)
      (pss_one (ps_ret (pe_call G_law_some_word (hr.mono (by decide)) (by rfl) T.D_law_some_word.G T.D_law_some_word.F.kp T.D_law_some_word.B .nil pass0 (pa_cons (pv 0) pa_nil))))))))))), ?_⟩
    refine ⟨_, rfl, d, l, _, rfl, hD, by decide, fun H1 r K1 D1 _ r2 => ?_⟩
    -- '@' and letters
    have atq : ∀ H2 zs, Kp d H H2 → DI d l H2 → zs.length ≤ 50 → (∀ c ∈ zs, cL c = true) → (("@" : Str)).length + (mkS zs).length ≤ sizeLine ∧ Q (.str (("@" : Str) ++ mkS zs)) H2 := by
      intro H2 zs K2 D2 hl hc
      rw [at_mk, mkS_app, mkS_len, mkS_len]
      refine ⟨Nat.le_trans (show [64].length + zs.length ≤ 100 by show 1 + zs.length ≤ 100; omega) (by decide), ?_⟩
      exact q H2 _ K2 D2 ⟨.inr (.inl ⟨zs, rfl, hc⟩), by show zs.length + 1 ≤ 60; omega⟩
    have one : ∀ c : Nat, cB c = false ∧ cW c = false ∧ c ≠ 64 → Q (sV [c]) H1 := fun c hc => q H1 _ K1 D1 ⟨.inl ⟨c, rfl, hc⟩, by show 1 ≤ 60; decide⟩
    refine ⟨_, rfl, _, _, rfl, rfl, _, rfl, ite2 (fun _ => ?_) (fun _ => ?_)⟩
    · show Q (V.str ("{" : Str)) H1
      rw [brO_sV]; exact one 123 (by decide +kernel)
    refine ⟨_, rfl, _, _, rfl, rfl, _, rfl, ite2 (fun _ => ?_) (fun _ => ?_)⟩
    · show Q (V.str ("}" : Str)) H1
      rw [brC_sV]; exact one 125 (by decide +kernel)
    refine ⟨_, rfl, rfl, _, rfl, ite2 (fun _ => ?_) (fun _ => ?_)⟩
    · refine ⟨_, rfl, _, rfl, by show 4 ≤ sizeLine; decide, fun p np => ?_⟩
      refine ⟨d, l, _, _, rfl, D1.new np, .inl ⟨p, rfl, (D1.nd np).1, SqL.of upd_same⟩, by show 0 < 4; decide, by show 4 ≤ 1000; decide, fun H2 v K2 D2 hv => ?_⟩
      obtain ⟨n, rfl, h0, h1⟩ : ∃ n : Int, v = .int n ∧ 0 ≤ n ∧ n ≤ 40 := by
        simp only [List.mem_cons, List.not_mem_nil, or_false] at hv
        rcases hv with rfl | rfl | rfl | rfl <;> exact ⟨_, rfl, by decide, by decide⟩
      refine ⟨d, l, sL.cps.toList, n, rfl, D2, by rw [sL_n]; decide, by rw [sL_n]; decide, h0, by omega, fun H3 zs K3 D3 el hc => ?_⟩
      exact ⟨_, _, rfl, rfl, atq H3 zs (((K1.new np).trans K2).trans K3) D3 (by omega) fun c h => mem_cL (hc c h)⟩
    refine ⟨_, rfl, rfl, _, rfl, ite2 (fun _ => ?_) (fun _ => ?_)⟩
    · refine ⟨_, rfl, rfl, _, rfl, by show 4 ≤ sizeLine; decide, fun p np => ?_⟩
      refine ⟨d, l, _, _, rfl, D1.new np, .inl ⟨p, rfl, (D1.nd np).1, SqL.of upd_same⟩, by show 0 < 4; decide, by show 4 ≤ 1000; decide, fun H2 v K2 D2 hv => ?_⟩
      obtain ⟨n, rfl, h0, h1⟩ : ∃ n : Int, v = .int n ∧ 1 ≤ n ∧ n ≤ 40 := by
        simp only [List.mem_cons, List.not_mem_nil, or_false] at hv
        rcases hv with rfl | rfl | rfl | rfl <;> exact ⟨_, rfl, by decide, by decide⟩
      refine ⟨d, l, sW.cps.toList, n, rfl, D2, by rw [sW_n]; decide, by rw [sW_n]; decide, by omega, by omega, fun H3 zs K3 D3 el hc => ?_⟩
      exact q H3 zs (((K1.new np).trans K2).trans K3) D3 ⟨.inr (.inr ⟨ne_of_len el (by omega), fun c h => mem_cW (hc c h)⟩), by omega⟩
    refine ⟨_, rfl, rfl, _, rfl, ite2 (fun _ => ?_) (fun _ => ?_)⟩
    · have odd_ok : ∀ c ∈ sOdd.cps.toList, cB c = false ∧ cW c = false ∧ c ≠ 64 := by decide +kernel
      refine ⟨_, rfl, rfl, pick_one (cs := sOdd.cps.toList) D1 (by rw [sOdd_n]; decide) (by rw [sOdd_n]; decide) fun H2 zs K2 D2 ho => ?_⟩
      obtain ⟨c, rfl, hm⟩ := ho
      exact q H2 _ (K1.trans K2) D2 ⟨.inl ⟨c, rfl, odd_ok c hm⟩, by show 1 ≤ 60; decide⟩
    refine ⟨_, rfl, rfl, _, rfl, ite2 (fun _ => ?_) (fun _ => ?_)⟩
    · refine ⟨_, rfl, d, l, rfl, D1, fun H2 zs K2 D2 hz => ?_⟩
      exact ⟨_, _, rfl, rfl, atq H2 zs (K1.trans K2) D2 (by have := hz.2.1; omega) hz.2.2⟩
    · refine ⟨_, rfl, d, l, rfl, D1, fun H2 zs K2 D2 hz => ?_⟩
      exact q H2 zs (K1.trans K2) D2 ⟨.inr (.inr ⟨hz.1, hz.2.2⟩), by have := hz.2.1; omega⟩
end
end Vf

set_option Elab.async false
set_option linter.all false
set_option maxRecDepth 100000
set_option maxHeartbeats 4000000
namespace Vf
open PySem PySem.Spec PyProof.Rows L2 TL
section
variable {P : Program} {w : World} {K : PySem.W.Frag} {mg : Str → Option Value} {base : Heap}
def spSpoilt (K : PySem.W.Frag) : Sp := fun vs H Q _ => ∃ (d l t : Addr) (ts : List (List Nat)), vs = [.ref d, .ref t] ∧ DI d l H ∧ t ≠ d ∧ H t = some (.lst (ts.map sV)) ∧ ts.length ≤ 5000 ∧ (∀ z ∈ ts, RTok z) ∧
  ∀ (H' : Hp) (p : Addr) (us : List (List Nat)), Kp d H H' → DI d l H' → H p = none → H' p = some (.lst (us.map sV)) → us.length ≤ ts.length + 1 → (∀ z ∈ us, RTok z) → Q (.ref p) H'
theorem ok_spoilt (T : Txt K mg) : FnOk P w K mg base CX0 6 T.a_law_spoilt T.d_law_spoilt ["_law_d", "_law_tokens"] (spSpoilt K) := by
  have G_law_draw : FnOk P w K mg base CX0 1 T.a_law_draw T.d_law_draw ["_law_d", "_law_many"] spDraw := ok_draw T
  have G_law_odd_token : FnOk P w K mg base CX0 5 T.a_law_odd_token T.d_law_odd_token ["_law_d"] (spStr RTok) := ok_odd_token T
  refine T.D_law_spoilt.F.ok sc_law_spoilt (fun vs H Q E h => ?_) (fun cdv A outer s H vs Q E hr h => ?_)
  · obtain ⟨d, l, t, ts, rfl, _⟩ := h
    rfl
  · obtain ⟨d, l, t, ts, rfl, hD, ntd, ht, tl, tk, q⟩ := h
    refine ⟨_, (pss_cons (ps_set (i := 2) sc_law_spoilt.nd rfl (.inl rfl) (pe_call G_law_draw (hr.mono (by decide)) (by rfl) T.D_law_draw.G T.D_law_draw.F.kp T.D_law_draw.B .nil pass0 (pa_cons (pv 0) (pa_cons (pe_op op_add (pe_callB call_len_seq (by rfl) T.n_len PySem.boot_len (pa_cons (pv 1) pa_nil)) pe_int) pa_nil))))
      (pss_cons (ps_set (i := 3) sc_law_spoilt.nd rfl (.inl rfl) (pe_call G_law_draw (hr.mono (by decide)) (by rfl) T.D_law_draw.G T.D_law_draw.F.kp T.D_law_draw.B .nil pass0 (pa_cons (pv 0) (pa_cons pe_int pa_nil))))
      (pss_cons (ps_if (PW.pt (pw_or (pt_cmpR op_eq (pv 3) pe_int (nomark _)) (pw_or1 (pt_cmpR op_eq (pv 2) (pe_callB call_len_seq (by rfl) T.n_len PySem.boot_len (pa_cons (pv 1) pa_nil)) (nomark _))))) (pss_one (ps_ret (pe_op op_cat (pe_op op_cat (pe_slice sl_list (pv 1) po_none (po_some (pv 2))) (pe_lst (pa_cons (pe_call G_law_odd_token (hr.mono (by decide)) (by rfl) T.D_law_odd_token.G T.D_law_odd_token.F.kp T.D_law_odd_token.B .nil pass0 (pa_cons (pv 0) pa_nil)) pa_nil))) (pe_slice sl_list (pv 1) (po_some (pv 2)) po_none)))) pss_nil)
      (pss_cons (ps_if (pt_cmpR op_eq (pv 3) pe_int (nomark _)) (pss_one (ps_ret (pe_op op_cat (pe_slice sl_list (pv 1) po_none (po_some (pv 2))) (pe_slice sl_list (pv 1) (po_some (pe_op op_add (pv 2) pe_int)) po_none)))) pss_nil)
      (pss_cons (ps_if (pt_cmpR op_eq (pv 3) pe_int (nomark _)) (pss_cons (ps_set (i := 4) sc_law_spoilt.nd rfl (.inl rfl) (pe_call G_law_draw (hr.mono (by decide)) (by rfl) T.D_law_draw.G T.D_law_draw.F.kp T.D_law_draw.B .nil pass0 (pa_cons (pv 0) (pa_cons (pe_callB call_len_seq (by rfl) T.n_len PySem.boot_len (pa_cons (pv 1) pa_nil)) pa_nil))))
      (pss_cons (ps_set (i := 5) sc_law_spoilt.nd rfl (.inl rfl) (pe_callTy call_list_of (by rfl) T.n_list (by decide +kernel) (pa_cons (pv 1) pa_nil)))
      (pss_cons (ps_asg (pe_ix ix_list (pv 1) (pv 4) (fun _ _ => rfl)) (pg_sub (pv 5) (pv 2) set_list))
      (pss_cons (ps_asg (pe_ix ix_list (pv 1) (pv 2) (fun _ _ => rfl)) (pg_sub (pv 5) (pv 4) set_list))
      (pss_one (ps_ret (pv 5))))))) pss_nil)
      (pss_cons (ps_if (pt_cmpR op_eq (pv 3) pe_int (nomark _)) (pss_one (ps_ret (pe_op op_cat (pe_op op_cat (pe_slice sl_list (pv 1) po_none (po_some (pv 2))) (pe_lst (pa_cons (pe_ix ix_list (pv 1) (pv 2) (fun _ _ => rfl)) pa_nil))) (pe_slice sl_list (pv 1) (po_some (pv 2)) po_none)))) pss_nil)
      (pss_one (ps_ret (pe_op op_cat (pe_op op_cat (pe_slice sl_list (pv 1) po_none (po_some (pv 2))) (pe_lst (pa_cons (pe_call G_law_odd_token (hr.mono (by decide)) (by rfl) T.D_law_odd_token.G T.D_law_odd_token.F.kp T.D_law_odd_token.B .nil pass0 (pa_cons (pv 0) pa_nil)) pa_nil))) (pe_slice sl_list (pv 1) (po_some (pe_op op_add (pv 2) pe_int)) po_none)))))))))), ?_⟩
    have ml : (ts.map sV).length = ts.length := List.length_map ..
    refine ⟨_, rfl, _, rfl, t, _, rfl, .inl (SqL.of ht), _, _, rfl, rfl, d, l, _, rfl, hD, by omega, fun H1 a K1 D1 a1 a2 => ?_⟩
    obtain ⟨i, hi, rfl⟩ : ∃ i : Nat, i ≤ ts.length ∧ a = (i : Int) := by
      rw [ml] at a1 a2
      by_cases h : (ts.length : Int) + 1 < 2
      · exact ⟨0, Nat.zero_le _, a1 h⟩
      · have := a2 (by omega)
        exact ⟨a.toNat, by omega, by omega⟩
    refine ⟨_, rfl, d, l, _, rfl, D1, by decide, fun H2 r K2 D2 _ r2 => ?_⟩
    have r3 := r2 (by decide)
    have K12 := K1.trans K2
    have t2 := K12 _ _ ntd ht
    -- a piece of the row, a token, a piece
    have three : ∀ (G : VK) (jI : Int) (H3 : Hp) (p1 p2 : Addr) (z : List Nat) (j : Nat), (∀ x H4, (rSlL K (.ref t) (some jI) none H4 fun y H5 => rCat x y H5 Q) → G x H4) → jI = (j : Int) → Kp d H H3 → DI d l H3 → p1 ≠ d → H3 p1 = some (.lst ((ts.take i).map sV)) → H3 p2 = some (.lst [sV z]) → RTok z → i ≤ j → j ≤ i + 1 → j ≤ ts.length →
        rCat (.ref p1) (.ref p2) H3 G := by
      intro G jI H3 p1 p2 z j hG ejI K3 D3 n1 e1 e2 hz hj hj2 hjl
      refine ⟨p1, p2, _, _, rfl, rfl, e1, e2, ?_, fun p3 n3 => ?_⟩
      · rw [List.length_map, List.length_take]; exact Nat.le_trans (show _ ≤ 100000 by show min i ts.length + 1 ≤ 100000; omega) (by decide)
      have K4 := K3.new (o := .lst ((ts.take i).map sV ++ [sV z])) n3
      have D4 := D3.new (o := .lst ((ts.take i).map sV ++ [sV z])) n3
      refine hG _ _ ⟨t, _, rfl, SqL.of (K4 _ _ ntd ht), fun p4 n4 => ?_⟩
      rw [ejI, cut_hi hjl]
      have K5 := K4.new (o := .lst ((ts.drop j).map sV)) n4
      have D5 := D4.new (o := .lst ((ts.drop j).map sV)) n4
      have e3 : upd (upd H3 p3 (.lst ((ts.take i).map sV ++ [sV z]))) p4 (.lst ((ts.drop j).map sV)) p3 = some (.lst ((ts.take i).map sV ++ [sV z])) := by
        rw [upd_ne (ne_of_none upd_same n4)]; exact upd_same
      refine ⟨p3, p4, _, _, rfl, rfl, e3, upd_same, ?_, fun p5 n5 => ?_⟩
      · rw [List.length_append, List.length_map, List.length_map, List.length_take, List.length_drop]; exact Nat.le_trans (show _ ≤ 100000 by show min i ts.length + 1 + (ts.length - j) ≤ 100000; omega) (by decide)
      refine q _ p5 (ts.take i ++ [z] ++ ts.drop j) (K5.new n5) (D5.new n5) (K5.freeD D5 n5) ?_ ?_ ?_
      · rw [upd_same, List.map_append, List.map_append]; rfl
      · rw [List.length_append, List.length_append, List.length_take, List.length_drop]; show min i ts.length + 1 + (ts.length - j) ≤ _; omega
      · intro y hy
        rcases List.mem_append.mp hy with hy | hy
        · rcases List.mem_append.mp hy with hy | hy
          · exact tk y (List.mem_of_mem_take hy)
          · rw [List.mem_singleton.mp hy]; exact hz
        · exact tk y (List.mem_of_mem_drop hy)
    -- the piece ahead, and a new token behind it
    have odd3 : ∀ (G : VK) (jI : Int) (j : Nat), (∀ x H4, (rSlL K (.ref t) (some jI) none H4 fun y H5 => rCat x y H5 Q) → G x H4) → jI = (j : Int) → i ≤ j → j ≤ i + 1 → j ≤ ts.length → ∀ p1, H2 p1 = none →
        spStr RTok [.ref d] (upd H2 p1 (.lst ((ts.take i).map sV))) (fun v H4 => [v].length ≤ sizeLine ∧ ∀ p2, H4 p2 = none → rCat (.ref p1) (.ref p2) (upd H4 p2 (.lst [v])) G) E0 := by
      intro G jI j hG ejI hj hj2 hjl p1 n1
      refine ⟨d, l, rfl, D2.new n1, fun H4 z K4 D4 hz => ⟨by show 1 ≤ sizeLine; decide, fun p2 n2 => ?_⟩⟩
      have n1d := (D2.nd n1).1
      have e1 := K4 _ _ n1d upd_same
      exact three G jI _ p1 p2 z j hG ejI (((K12.new n1).trans K4).new n2) (D4.new n2) n1d (by rw [upd_ne (ne_of_none e1 n2)]; exact e1) upd_same hz hj hj2 hjl
    -- the token that stands there
    refine ⟨_, rfl, rfl, _, rfl, ite2 (fun _ => ?_) (fun _ => ?_)⟩
    · refine ⟨_, rfl, _, rfl, _, rfl, t, _, rfl, SqL.of t2, fun p1 n1 => ?_⟩
      rw [cut_lo hi]
      exact ⟨_, rfl, odd3 _ _ i (fun x H4 h => ⟨_, rfl, _, rfl, _, rfl, h⟩) rfl (Nat.le_refl _) (by omega) hi p1 n1⟩
    refine ⟨_, rfl, _, rfl, t, _, rfl, .inl (SqL.of t2), rfl, decide (i = ts.length), ?_, ?_⟩
    · rw [ml]; exact congrArg V.bl dec_len
    refine ite2 (fun _ => ?_) (fun hne => ?_)
    · refine ⟨_, rfl, _, rfl, _, rfl, t, _, rfl, SqL.of t2, fun p1 n1 => ?_⟩
      rw [cut_lo hi]
      exact ⟨_, rfl, odd3 _ _ i (fun x H4 h => ⟨_, rfl, _, rfl, _, rfl, h⟩) rfl (Nat.le_refl _) (by omega) hi p1 n1⟩
    have hlt : i < ts.length := by
      have : ¬ i = ts.length := fun e => hne (decide_eq_true e)
      omega
    have hzi : ts[i]? = some ts[i] := List.getElem?_eq_getElem hlt
    have ni1 : ((i : Int) + 1) = ((i + 1 : Nat) : Int) := by omega
    refine ⟨_, rfl, rfl, _, rfl, ite2 (fun _ => ?_) (fun _ => ?_)⟩
    · -- left out
      refine ⟨_, rfl, _, rfl, _, rfl, t, _, rfl, SqL.of t2, fun p1 n1 => ?_⟩
      rw [cut_lo hi]
      have K3 := K12.new (o := .lst ((ts.take i).map sV)) n1
      have D3 := D2.new (o := .lst ((ts.take i).map sV)) n1
      refine ⟨_, rfl, _, rfl, _, _, rfl, rfl, _, rfl, t, _, rfl, SqL.of (K3 _ _ ntd ht), fun p2 n2 => ?_⟩
      rw [show cutV (ts.map sV) (some ((i : Int) + 1)) none = (ts.drop (i + 1)).map sV from by rw [ni1]; exact cut_hi hlt]
      have K4 := K3.new (o := .lst ((ts.drop (i + 1)).map sV)) n2
      have D4 := D3.new (o := .lst ((ts.drop (i + 1)).map sV)) n2
      refine ⟨p1, p2, _, _, rfl, rfl, by rw [upd_ne (ne_of_none upd_same n2)]; exact upd_same, upd_same, ?_, fun p3 n3 => ?_⟩
      · rw [List.length_map, List.length_map, List.length_take, List.length_drop]; exact Nat.le_trans (show _ ≤ 100000 by show min i ts.length + (ts.length - (i + 1)) ≤ 100000; omega) (by decide)
      refine q _ p3 (ts.take i ++ ts.drop (i + 1)) (K4.new n3) (D4.new n3) (K4.freeD D4 n3) ?_ ?_ ?_
      · rw [upd_same, List.map_append]
      · rw [List.length_append, List.length_take, List.length_drop]; omega
      · intro y hy
        rcases List.mem_append.mp hy with hy | hy
        · exact tk y (List.mem_of_mem_take hy)
        · exact tk y (List.mem_of_mem_drop hy)
    refine ⟨_, rfl, rfl, _, rfl, ite2 (fun _ => ?_) (fun _ => ?_)⟩
    · -- exchanged
      refine ⟨_, rfl, _, rfl, t, _, rfl, .inl (SqL.of t2), d, l, _, rfl, D2, by omega, fun H3 b K3 D3 b1 b2 => ?_⟩
      obtain ⟨j, hj, rfl⟩ : ∃ j : Nat, j < ts.length ∧ b = (j : Int) := by
        rw [ml] at b1 b2
        by_cases h : (ts.length : Int) < 2
        · exact ⟨0, by omega, b1 h⟩
        · have := b2 (by omega)
          exact ⟨b.toNat, by omega, by omega⟩
      have hzj : ts[j]? = some ts[j] := List.getElem?_eq_getElem hj
      have K13 := K12.trans K3
      refine ⟨_, rfl, t, _, rfl, .inl (SqL.of (K13 _ _ ntd ht)), fun p1 n1 => ?_⟩
      have n1d := D3.nd n1
      have K4 := K13.new (o := .lst (ts.map sV)) n1
      have t4 := K4 _ _ ntd ht
      have n1H := K13.freeD D3 n1
      have n1t : p1 ≠ t := (ne_of_none ht n1H).symm
      have ixn : ∀ {n i : Nat}, i < n → ixN n (i : Int) = some i := fun {n i} h => by
        unfold ixN
        rw [if_pos (by omega), if_pos (by omega), Int.toNat_natCast]
      refine ⟨_, rfl, _, rfl, t, _, _, sV ts[j], rfl, rfl, SqL.of t4, atI_nat (get_sV hzj), ?_⟩
      refine ⟨_, rfl, _, rfl, p1, _, _, i, rfl, rfl, upd_same, ixn (by rw [ml]; exact hlt), ?_⟩
      have t5 : upd (upd H3 p1 (.lst (ts.map sV))) p1 (.lst ((ts.map sV).set i (sV ts[j]))) t = some (.lst (ts.map sV)) := by rw [upd_ne n1t.symm]; exact t4
      refine ⟨_, rfl, _, rfl, t, _, _, sV ts[i], rfl, rfl, SqL.of t5, atI_nat (get_sV hzi), ?_⟩
      refine ⟨_, rfl, _, rfl, p1, _, _, j, rfl, rfl, upd_same, ixn (by rw [List.length_set, ml]; exact hj), ?_⟩
      refine ⟨_, rfl, q _ p1 ((ts.set i ts[j]).set j ts[i]) ((K4.mut n1H).mut n1H) (((D3.new n1).at n1d.1 n1d.2).at n1d.1 n1d.2) n1H ?_ ?_ ?_⟩
      · rw [upd_same, List.map_set, List.map_set]
      · rw [List.length_set, List.length_set]; omega
      · intro y hy
        rcases List.mem_or_eq_of_mem_set hy with hy | rfl
        · rcases List.mem_or_eq_of_mem_set hy with hy | rfl
          · exact tk y hy
          · exact tk _ (List.getElem_mem hj)
        · exact tk _ (List.getElem_mem hlt)
    refine ⟨_, rfl, rfl, _, rfl, ite2 (fun _ => ?_) (fun _ => ?_)⟩
    · -- twice
      refine ⟨_, rfl, _, rfl, _, rfl, t, _, rfl, SqL.of t2, fun p1 n1 => ?_⟩
      rw [cut_lo hi]
      have K3 := K12.new (o := .lst ((ts.take i).map sV)) n1
      have D3 := D2.new (o := .lst ((ts.take i).map sV)) n1
      have n1d := (D2.nd n1).1
      refine ⟨_, rfl, _, rfl, t, _, _, sV ts[i], rfl, rfl, SqL.of (K3 _ _ ntd ht), atI_nat (get_sV hzi), by show 1 ≤ sizeLine; decide, fun p2 n2 => ?_⟩
      exact three _ _ _ p1 p2 ts[i] i (fun x H4 h => ⟨_, rfl, _, rfl, _, rfl, h⟩) rfl (K3.new n2) (D3.new n2) n1d (by rw [upd_ne (ne_of_none upd_same n2)]; exact upd_same) upd_same (tk _ (List.getElem_mem hlt)) (Nat.le_refl _) (by omega) hi
    · refine ⟨_, rfl, _, rfl, _, rfl, t, _, rfl, SqL.of t2, fun p1 n1 => ?_⟩
      rw [cut_lo hi]
      exact ⟨_, rfl, odd3 _ _ (i + 1) (fun x H4 h => ⟨_, rfl, _, rfl, _, _, rfl, rfl, _, rfl, h⟩) ni1 (by omega) (by omega) hlt p1 n1⟩
end
end Vf

set_option Elab.async false
set_option linter.all false
set_option maxRecDepth 100000
set_option maxHeartbeats 4000000
namespace Vf
open PySem PySem.Spec PyProof.Rows L2 TL
theorem PE.to {X : Cx} {e : Expr} {t t' : TE} (h : PE X e t) (i : ∀ σ H Q, t' σ H Q → t σ H Q) : PE X e t' := ⟨fun pins s σ H Q I hq => h.run pins s σ H Q I (i σ H Q hq)⟩
def tMany : TE := fun σ H Q => ∃ d l : Addr, σ[1]? = some (some (.ref d)) ∧ DI d l H ∧ ∀ H' (m : Int), Kp d H H' → DI d l H' → 0 ≤ m → m ≤ 120 → Q (.int m) H'
theorem mixed_lenB {B : Nat} : ∀ (ts gs : List (List Nat)), (∀ t ∈ ts, t.length ≤ B) → (∀ (k : Nat) g, gs[k]? = some g → g.length ≤ 3) → (mixed ts gs).length ≤ (B + 3) * ts.length
  | [], _, _, _ => Nat.zero_le _
  | _ :: _, [], _, _ => Nat.zero_le _
  | t :: ts, g :: gs, ht, hg => by
    have ih := mixed_lenB ts gs (fun u hu => ht u (List.mem_cons_of_mem _ hu)) (fun k g' e => hg (k + 1) g' e)
    have h1 := ht t List.mem_cons_self
    have h2 := hg 0 g rfl
    show (t ++ (g ++ mixed ts gs)).length ≤ (B + 3) * (ts.length + 1)
    rw [List.length_append, List.length_append, Nat.mul_succ]
    omega
theorem inter_lenB {B : Nat} : ∀ (ts gs : List (List Nat)), (∀ t ∈ ts, t.length ≤ B + 3) → (∀ (k : Nat) g, gs[k]? = some g → g.length ≤ 3) → ∀ z ∈ inter ts gs, z.length ≤ B + 3
  | [], _, _, _ => fun z hz => nomatch hz
  | _ :: _, [], _, _ => fun z hz => nomatch hz
  | t :: ts, g :: gs, ht, hg => fun z hz => by
    rcases List.mem_cons.mp hz with rfl | h
    · exact ht _ List.mem_cons_self
    rcases List.mem_cons.mp h with rfl | h
    · have := hg 0 _ rfl; omega
    · exact inter_lenB ts gs (fun u hu => ht u (List.mem_cons_of_mem _ hu)) (fun k g' e => hg (k + 1) g' e) z h
/-- join, the list by its fragment -/
def rJn (K : PySem.W.Frag) (x : V) (xs : List V) (H : Hp) (Q : VK) : Prop :=
  ∃ (a : Str) (p : Addr) (ys : List Str),
    x = .str a ∧ xs = [.ref p] ∧
    (SqL K H p (ys.map V.str) ∨ SqT K H p (ys.map V.str)) ∧
    (ys.map (·.length)).sum + ys.length * a.length ≤ 16777216 ∧
    Q (.str (Txt.join a ys)) H
theorem mt_joinK {X : Cx} {K : PySem.W.Frag} (hK : X.K = K) : MtR X "str.join" (rJn K) := by
  subst hK
  exact mt_join
/-! ### tokens with a blank between -/
theorem bl32 : Bl [32] := fun c hc => by
  rw [List.mem_singleton.mp hc]
  unfold cB
  rw [sB_list]; decide
theorem tok_spaced : ∀ ts : List (List Nat), (∀ t ∈ ts, Tk t) → tok (spaced ts) = ts
  | [], _ => rfl
  | [t], h => by
    have e := tok_tok (r := []) (h t List.mem_cons_self) (.inl rfl)
    rw [List.append_nil] at e
    exact e
  | t :: u :: r, h => by
    have ih := tok_spaced (u :: r) fun x hx => h x (List.mem_cons_of_mem _ hx)
    show tok (t ++ ([32] ++ spaced (u :: r))) = t :: u :: r
    rw [tok_tok (h t List.mem_cons_self) (.inr (runs_bl (by simp) bl32)), tok_gap _ _ bl32, ih]
theorem spaced_len {B : Nat} : ∀ ts : List (List Nat), (∀ t ∈ ts, t.length ≤ B) → (spaced ts).length ≤ (B + 1) * ts.length
  | [], _ => Nat.zero_le _
  | [t], h => by
    have := h t List.mem_cons_self
    show t.length ≤ (B + 1) * 1
    omega
  | t :: u :: r, h => by
    have ih := spaced_len (u :: r) fun x hx => h x (List.mem_cons_of_mem _ hx)
    have h1 := h t List.mem_cons_self
    show (t ++ ([32] ++ spaced (u :: r))).length ≤ (B + 1) * ((u :: r).length + 1)
    rw [List.length_append, List.length_append, Nat.mul_succ]
    show t.length + (1 + _) ≤ _
    omega
/-- the text that parts make -/
theorem parts_text {ts gs : List (List Nat)} {g0 : List Nat} (ht : ∀ t ∈ ts, Tk t ∧ t.length ≤ 60) (tl : ts.length ≤ 1100) (b0 : Bl g0) (l0 : g0.length ≤ 3) (gl : gs.length = ts.length)
    (hgs : ∀ k g, gs[k]? = some g → (Bl g ∧ (need ts k = true → g ≠ [])) ∧ g.length ≤ 3) : tok (g0 :: inter ts gs).flatten = ts ∧ (g0 :: inter ts gs).flatten.length ≤ 100000 ∧ (g0 :: inter ts gs).length ≤ 5000 := by
  have ml := mixed_lenB (B := 60) ts gs (fun u hu => (ht u hu).2) (fun k g e => (hgs k g e).2)
  have il := inter_len ts gs
  refine ⟨?_, ?_, by rw [List.length_cons]; omega⟩
  · rw [List.flatten_cons, inter_flat, tok_gap _ _ b0]
    exact tok_mixed _ gs (fun t h => (ht t h).1) gl (fun k g e => (hgs k g e).1)
  · rw [List.flatten_cons, List.length_append, inter_flat]
    omega
end Vf

set_option Elab.async false
set_option linter.all false
set_option maxRecDepth 100000
set_option maxHeartbeats 4000000
namespace Vf
open PySem PySem.Spec PyProof.Rows L2 TL
/-! ### list.count of a text in texts -/
def sEq (k : Str) : Value → Bool
  | .str a _ => a == k
  | _ => false
def rCntS (K : PySem.W.Frag) : V → List V → Hp → VK → Prop := fun x xs H Q => ∃ (p : Addr) (zss : List (List Nat)) (y : Str) (z : List Nat), x = .ref p ∧ xs = [.str y] ∧ y = mkS z ∧ SqL K H p (zss.map sV) ∧ Q (.int (zss.count z : Nat)) H
theorem count_strs (z : List Nat) : ∀ {zss : List (List Nat)} {its : List Value}, Vals (zss.map sV) its → (∀ y ∈ its, ∃ a t, y = .str a t) ∧ its.countP (sEq (mkS z)) = zss.count z
  | [], _, r => by cases r; exact ⟨fun _ h => (nomatch h), rfl⟩
  | b :: bs, _, r => by
    cases r with
    | cons a t =>
      obtain ⟨tk, e⟩ : ∃ tk, _ = Value.str (mkS b) tk := a
      have ⟨h1, h2⟩ := count_strs z t
      refine ⟨fun y hy => ?_, ?_⟩
      · rcases List.mem_cons.mp hy with rfl | hy
        · exact ⟨_, _, e⟩
        · exact h1 y hy
      · rw [List.countP_cons, List.count_cons, h2, e]
        by_cases h : b = z
        · subst h
          rw [if_pos (show sEq (mkS b) (.str (mkS b) tk) = true from beq_iff_eq.mpr rfl), if_pos (beq_iff_eq.mpr rfl)]
        · rw [if_neg (show ¬ sEq (mkS z) (.str (mkS b) tk) = true from fun q => h (mkS_inj (beq_iff_eq.mp q))), if_neg (fun q => h (beq_iff_eq.mp q))]
section
variable {X : Cx}
theorem mt_scount : MtR X "list.count" (rCntS X.K) := by
  intro pins s σ H x xs v us Q I rx rxs h
  obtain ⟨p, zss, y, z, rfl, rfl, rfl, hs, q⟩ := h
  cases rx
  obtain ⟨u, rfl, ru⟩ := rxs.one
  obtain ⟨t, rfl⟩ := ru
  obtain ⟨its, rv, ⟨⟨cls, dd, data, sl⟩, n, ho, hc, hdn, hd⟩, hlen⟩ := I.list hs
  simp only at hc hd
  subst hc hd
  have ⟨h1, h2⟩ := count_strs z rv
  refine call_meets PySem.F.slot_list_count ⟨_, ho, rfl⟩ PySem.F.entry_list_count (PySem.F.args_list_count_2 _ _)
    (SeqAt.list_countAt p its.toArray n dd sl (.str (mkS z) t) (sEq (mkS z))) ⟨ho, fun y hy => ?_, ?_⟩
  · obtain ⟨a, tk, rfl⟩ := h1 y (by simpa only [List.mem_toArray] using hy)
    exact PySem.SeqAt.EqAt.str_str a tk (mkS z) t
  · have ec : its.toArray.toList.countP (sEq (mkS z)) = zss.count z := h2
    refine ⟨.int (zss.count z : Nat), H, I.tok _, ⟨s.toks, ?_⟩, q⟩
    rw [ec]
end
theorem count_dCount : ∀ ts : List (List Nat), ((ts.count [123] : Nat) : Int) - ((ts.count [125] : Nat) : Int) = dCount ts
  | [] => rfl
  | t :: ts => by
    have ih := count_dCount ts
    rw [List.count_cons, List.count_cons]
    show _ = (if t = [123] then 1 else if t = [125] then -1 else 0) + dCount ts
    by_cases h1 : t = [123]
    · rw [if_pos (beq_iff_eq.mpr h1), if_neg (fun q => by rw [h1] at q; exact absurd (beq_iff_eq.mp q) (by decide)), if_pos h1]
      omega
    · by_cases h2 : t = [125]
      · rw [if_neg (fun q => h1 (beq_iff_eq.mp q)), if_pos (beq_iff_eq.mpr h2), if_neg h1, if_pos h2]
        omega
      · rw [if_neg (fun q => h1 (beq_iff_eq.mp q)), if_neg (fun q => h2 (beq_iff_eq.mp q)), if_neg h1, if_neg h2]
        omega
/-! ### text times int, from 0 on -/
theorem mul_okN {z : Str} {n : Nat} (hn : n ≤ 1000) (hz : z.length ≤ 10000) : MulOk z (n : Int) := by
  by_cases h : 2 ≤ n
  · exact mul_ok (by omega) (by omega) hz
  · refine ⟨?_, fun h1 h2 => ?_, fun h1 h2 => ?_⟩
    · rw [decide_eq_false (by omega), decide_eq_false (by omega)]; rfl
    · have e : n = 1 := by omega
      subst e
      cases h2
    · have e : n = 1 := by omega
      subst e
      cases h2
theorem foldl_reps (zs : List Nat) : ∀ (n : Nat) (acc : Array Nat), (((List.replicate n zs.toArray).foldl (· ++ ·) acc)).toList = acc.toList ++ (List.replicate n zs).flatten
  | 0, acc => by rw [List.replicate_zero, List.replicate_zero, List.flatten_nil, List.append_nil]; rfl
  | n + 1, acc => by
    rw [List.replicate_succ, List.replicate_succ, List.foldl_cons, foldl_reps zs n, List.flatten_cons, Array.toList_append, List.append_assoc]
theorem mul_mk (zs : List Nat) (hz : zs ≠ []) (n : Nat) : Txt.mul (mkS zs) (n : Int) = mkS (List.replicate n zs).flatten := by
  unfold Txt.mul
  by_cases h0 : n = 0
  · subst h0
    rw [if_pos (by decide), List.replicate_zero, List.flatten_nil]
    rfl
  · rw [if_neg (by omega)]
    have hl : ((mkS zs).length == 0) = false := by
      rw [mkS_len]
      refine beq_eq_false_iff_ne.mpr fun e => hz ?_
      exact List.eq_nil_of_length_eq_zero e
    rw [hl, Bool.or_false]
    by_cases h1 : n = 1
    · subst h1
      rw [if_pos (show (((1 : Nat) : Int) == 1) = true from rfl)]
      show mkS zs = mkS (zs ++ [])
      rw [List.append_nil]
    · rw [if_neg (fun q => h1 (by have := beq_iff_eq.mp q; omega)), Int.toNat_natCast]
      have e := foldl_reps zs n #[]
      have e2 : ((List.replicate n (mkS zs).cps).foldl (· ++ ·) #[]).toList = (List.replicate n zs).flatten := e
      show (⟨_⟩ : Str) = ⟨_⟩
      congr 1
      rw [← e2, Array.toArray_toList]
/-! ### texts cut, texts put behind -/
theorem takeW_split {p : Nat → Bool} {c : Nat} (hc : p c = false) : ∀ a r : List Nat, (a ++ c :: r).takeWhile p = a.takeWhile p ∧ (a ++ c :: r).dropWhile p = a.dropWhile p ++ c :: r
  | [], r => by
    rw [List.nil_append, List.takeWhile_cons_of_neg (by rw [hc]; decide), List.dropWhile_cons_of_neg (by rw [hc]; decide)]
    exact ⟨rfl, rfl⟩
  | x :: a, r => by
    have ⟨h1, h2⟩ := takeW_split hc a r
    rw [List.cons_append]
    by_cases hx : p x = true
    · rw [List.takeWhile_cons_of_pos hx, List.takeWhile_cons_of_pos hx, List.dropWhile_cons_of_pos hx, List.dropWhile_cons_of_pos hx, h1, h2]
      exact ⟨rfl, rfl⟩
    · rw [List.takeWhile_cons_of_neg hx, List.takeWhile_cons_of_neg hx, List.dropWhile_cons_of_neg hx, List.dropWhile_cons_of_neg hx]
      exact ⟨rfl, rfl⟩
theorem blank_no {c : Nat} (h : cB c = true) : cL c = false ∧ cW c = false ∧ c ≠ 64 := by
  have hw : cW c = false := by
    cases e : cW c with
    | false => rfl
    | true => rw [cW_B e] at h; cases h
  have hl : cL c = false := by
    cases e : cL c with
    | false => rfl
    | true => rw [cL_W e] at hw; cases hw
  refine ⟨hl, hw, fun e => ?_⟩
  subst e
  have : cB 64 = false := by unfold cB; rw [sB_list]; decide
  rw [this] at h; cases h
theorem dropW_le {p : Nat → Bool} : ∀ a : List Nat, (a.dropWhile p).length ≤ a.length
  | [] => Nat.le_refl _
  | x :: a => by
    by_cases hx : p x = true
    · rw [List.dropWhile_cons_of_pos hx]; exact Nat.le_succ_of_le (dropW_le a)
    · rw [List.dropWhile_cons_of_neg hx]; exact Nat.le_refl _
theorem tok_split {c : Nat} (hc : cB c = true) : ∀ (n : Nat) (a r : List Nat), a.length ≤ n → tok (a ++ c :: r) = tok a ++ tok r
  | _, [], r, _ => by
    rw [List.nil_append, tok_cons, if_pos hc]; rfl
  | 0, _ :: _, _, h => by cases h
  | n + 1, x :: a, r, h => by
    have hl : a.length ≤ n := Nat.le_of_succ_le_succ h
    have ⟨bL, bW, b64⟩ := blank_no hc
    have ⟨l1, l2⟩ := takeW_split bL a r
    have ⟨w1, w2⟩ := takeW_split bW a r
    rw [List.cons_append, tok_cons, tok_cons]
    by_cases h1 : cB x = true
    · rw [if_pos h1, if_pos h1]; exact tok_split hc n a r hl
    rw [if_neg h1, if_neg h1]
    by_cases h2 : x = 64
    · rw [if_pos h2, if_pos h2, l1, l2, tok_split hc n _ r (Nat.le_trans (dropW_le a) hl)]; rfl
    rw [if_neg h2, if_neg h2]
    by_cases h3 : cW x = true
    · rw [if_pos h3, if_pos h3, w1, w2, tok_split hc n _ r (Nat.le_trans (dropW_le a) hl)]; rfl
    rw [if_neg h3, if_neg h3, tok_split hc n a r hl]; rfl
theorem tok_braces (n : Nat) : tok (List.replicate n [32, 125]).flatten = List.replicate n [125] ∧ tok (125 :: (List.replicate n [32, 125]).flatten) = List.replicate (n + 1) [125] := by
  have b32 : cB 32 = true := bl32 32 List.mem_cons_self
  have h125 : ∀ r, tok (125 :: r) = [125] :: tok r := fun r => by
    have hB : cB 125 = false := by unfold cB; rw [sB_list]; decide
    have hW : cW 125 = false := by unfold cW; rw [sW_list]; decide
    rw [tok_cons, if_neg (by rw [hB]; decide), if_neg (by decide), if_neg (by rw [hW]; decide)]
  induction n with
  | zero => exact ⟨rfl, h125 []⟩
  | succ n ih =>
    have e : tok (List.replicate (n + 1) [32, 125]).flatten = List.replicate (n + 1) [125] := by
      rw [List.replicate_succ, List.flatten_cons]
      show tok (32 :: (125 :: (List.replicate n [32, 125]).flatten)) = _
      rw [tok_cons, if_pos b32]
      exact ih.2
    exact ⟨e, by rw [h125, e]; rfl⟩
theorem tok_braced (a : List Nat) (n : Nat) : tok (a ++ (List.replicate n [32, 125]).flatten) = tok a ++ List.replicate n [125] := by
  cases n with
  | zero => rw [List.replicate_zero, List.flatten_nil, List.append_nil, List.replicate_zero, List.append_nil]
  | succ n =>
    rw [List.replicate_succ, List.flatten_cons]
    show tok (a ++ 32 :: (125 :: (List.replicate n [32, 125]).flatten)) = _
    rw [tok_split (bl32 32 List.mem_cons_self) _ _ _ (Nat.le_refl _), (tok_braces n).2]
/-! ### the parts of a text, cut -/
structure PC (ts : List (List Nat)) (g0 : List Nat) (gs : List (List Nat)) : Prop where
  b0 : Bl g0
  l0 : g0.length ≤ 3
  gl : gs.length = ts.length
  hg : ∀ (k : Nat) g, gs[k]? = some g → (Bl g ∧ (need ts k = true → g ≠ [])) ∧ g.length ≤ 3
  tl : ts.length ≤ 1100
  tk : ∀ t ∈ ts, Tk t ∧ t.length ≤ 60
theorem inter_even : ∀ (ts gs : List (List Nat)) (k : Nat), gs.length = ts.length → (inter ts gs).take (2 * k) = inter (ts.take k) (gs.take k)
  | ts, gs, 0, _ => by rw [List.take_zero, List.take_zero, List.take_zero]; rfl
  | [], [], k + 1, _ => by show List.take (2 * (k + 1)) [] = []; exact List.take_nil
  | [], _ :: _, _ + 1, h => by cases h
  | _ :: _, [], _ + 1, h => by cases h
  | t :: ts, g :: gs, k + 1, h => by
    show (t :: g :: inter ts gs).take (2 * k + 1 + 1) = t :: g :: inter (ts.take k) (gs.take k)
    rw [List.take_succ_cons, List.take_succ_cons, inter_even ts gs k (Nat.succ.inj h)]
theorem inter_odd : ∀ (ts gs : List (List Nat)) (k : Nat) (t : List Nat), gs.length = ts.length → ts[k]? = some t → (inter ts gs).take (2 * k + 1) = inter (ts.take k) (gs.take k) ++ [t]
  | [], _, _, _, _, h => by cases h
  | _ :: _, [], _, _, h, _ => by cases h
  | t :: ts, g :: gs, 0, u, _, h => by
    have e := Option.some.inj h
    subst e
    show (t :: g :: inter ts gs).take 1 = _
    rw [List.take_succ_cons, List.take_zero, List.take_zero, List.take_zero]
    rfl
  | t :: ts, g :: gs, k + 1, u, hl, h => by
    show (t :: g :: inter ts gs).take (2 * k + 1 + 1 + 1) = t :: g :: (inter (ts.take k) (gs.take k) ++ [u])
    rw [List.take_succ_cons, List.take_succ_cons, inter_odd ts gs k u (Nat.succ.inj hl) h]
theorem mixed_snoc : ∀ (ts gs : List (List Nat)) (u : List Nat), gs.length = ts.length → mixed ts gs ++ u = mixed (ts ++ [u]) (gs ++ [[]])
  | [], [], u, _ => by show u = u ++ ([] ++ []); simp
  | [], _ :: _, _, h => by cases h
  | _ :: _, [], _, h => by cases h
  | t :: ts, g :: gs, u, h => by
    show t ++ (g ++ mixed ts gs) ++ u = t ++ (g ++ mixed (ts ++ [u]) (gs ++ [[]]))
    rw [← mixed_snoc ts gs u (Nat.succ.inj h), List.append_assoc, List.append_assoc]
theorem need_take {ts : List (List Nat)} {k j : Nat} (h : need (ts.take k) j = true) : need ts j = true := by
  unfold need at h ⊢
  rw [List.getElem?_take, List.getElem?_take] at h
  by_cases h1 : j + 1 < k
  · rw [if_pos (by omega), if_pos h1] at h; exact h
  · rw [if_neg h1] at h
    split at h
    · rename_i _ _ _ e
      cases e
    · cases h
theorem PC.take {ts gs : List (List Nat)} {g0 : List Nat} (h : PC ts g0 gs) (k : Nat) : PC (ts.take k) g0 (gs.take k) := by
  refine ⟨h.b0, h.l0, by rw [List.length_take, List.length_take, h.gl], fun j g e => ?_, ?_, fun t ht => h.tk t (List.mem_of_mem_take ht)⟩
  · rw [List.getElem?_take] at e
    by_cases hj : j < k
    · rw [if_pos hj] at e
      have := h.hg j g e
      exact ⟨⟨this.1.1, fun q => this.1.2 (need_take q)⟩, this.2⟩
    · rw [if_neg hj] at e; cases e
  · have := h.tl
    rw [List.length_take]; omega
theorem PC.text {ts gs : List (List Nat)} {g0 : List Nat} (h : PC ts g0 gs) : tok (g0 :: inter ts gs).flatten = ts ∧ (g0 :: inter ts gs).flatten.length ≤ 80000 ∧ (g0 :: inter ts gs).length ≤ 5000 := by
  have ⟨a, b, c⟩ := parts_text h.tk h.tl h.b0 h.l0 h.gl h.hg
  refine ⟨a, ?_, c⟩
  have ml := mixed_lenB (B := 60) ts gs (fun u hu => (h.tk u hu).2) (fun k g e => (h.hg k g e).2)
  have := h.l0
  have := h.tl
  rw [List.flatten_cons, List.length_append, inter_flat]
  omega
/-- up to a gap -/
theorem PC.gap {ts gs : List (List Nat)} {g0 : List Nat} (h : PC ts g0 gs) (k : Nat) : tok ((g0 :: inter ts gs).take (2 * k + 1)).flatten = ts.take k := by
  rw [List.take_succ_cons, inter_even ts gs k h.gl]
  exact (h.take k).text.1
/-- one more token of the same kind -/
theorem PC.more {ts gs : List (List Nat)} {g0 : List Nat} (h : PC ts g0 gs) {k : Nat} {t u : List Nat} (ht : ts[k]? = some t) (hu : Tk u) (e : u.headD 0 = t.headD 0) : tok (((g0 :: inter ts gs).take (2 * k + 1)).flatten ++ u) = ts.take k ++ [u] := by
  have hk := (List.getElem?_eq_some_iff.mp ht).1
  rw [List.take_succ_cons, inter_even ts gs k h.gl, List.flatten_cons, inter_flat, List.append_assoc, tok_gap _ _ h.b0]
  have hp := h.take k
  have lk : (ts.take k).length = k := by rw [List.length_take]; omega
  rw [mixed_snoc _ _ u hp.gl]
  refine tok_mixed _ _ (fun z hz => ?_) (by rw [List.length_append, List.length_append, hp.gl]; rfl) (fun j g ej => ?_)
  · rcases List.mem_append.mp hz with h1 | h1
    · exact (hp.tk z h1).1
    · rw [List.mem_singleton.mp h1]; exact hu
  · by_cases hj : j < (gs.take k).length
    · rw [List.getElem?_append_left hj] at ej
      rw [hp.gl, lk] at hj
      have hg := h.hg j g (by rw [List.getElem?_take, if_pos hj] at ej; exact ej)
      refine ⟨hg.1.1, fun q => hg.1.2 ?_⟩
      by_cases hj2 : j + 1 < k
      · refine need_take (k := k) ?_
        unfold need at q ⊢
        rw [List.getElem?_append_left (by omega), List.getElem?_append_left (by omega)] at q
        exact q
      · have ej1 : j + 1 = k := by omega
        unfold need at q ⊢
        rw [List.getElem?_append_left (by omega), List.getElem?_append_right (by omega), ej1, lk, Nat.sub_self, List.getElem?_take, if_pos hj] at q
        rw [ej1, ht]
        have hj3 : ts[j]? = some ts[j] := List.getElem?_eq_getElem (by omega)
        rw [hj3] at q ⊢
        have q2 : runs ts[j] u = true := q
        show runs ts[j] t = true
        unfold runs at q2 ⊢
        rw [← e]; exact q2
    · rw [List.getElem?_append_right (by omega)] at ej
      have hj9 : j - (gs.take k).length < 1 := (List.getElem?_eq_some_iff.mp ej).1
      have hj2 : j - (gs.take k).length = 0 := by omega
      rw [hj2] at ej
      have eg : [] = g := Option.some.inj ej
      subst eg
      refine ⟨(fun _ h => nomatch h), fun q => ?_⟩
      unfold need at q
      rw [List.getElem?_eq_none (l := ts.take k ++ [u]) (i := j + 1) (by rw [List.length_append, lk]; rw [hp.gl, lk] at hj; show k + 1 ≤ j + 1; omega)] at q
      split at q
      · rename_i _ _ _ e2
        cases e2
      · cases q
/-- up to a token -/
theorem PC.cut {ts gs : List (List Nat)} {g0 : List Nat} (h : PC ts g0 gs) {k : Nat} (hk : k ≤ ts.length) : tok ((g0 :: inter ts gs).take (2 * k)).flatten = ts.take k := by
  cases k with
  | zero => rw [List.take_zero, List.take_zero]; rfl
  | succ k =>
    have ht : ts[k]? = some ts[k] := List.getElem?_eq_getElem (by omega)
    have e := h.more ht (h.tk _ (List.getElem_mem _)).1 rfl
    rw [List.take_succ_cons, inter_even ts gs k h.gl] at e
    show tok ((g0 :: inter ts gs).take (2 * k + 1 + 1)).flatten = _
    rw [List.take_succ_cons, inter_odd ts gs k _ h.gl ht, take_succ' ht, ← e, ← List.cons_append, List.flatten_append, show [ts[k]].flatten = ts[k] from by simp]
theorem flat_take_le (P : List (List Nat)) (m : Nat) : (P.take m).flatten.length ≤ P.flatten.length := by
  have e : (P.take m).flatten ++ (P.drop m).flatten = P.flatten := by rw [← List.flatten_append, List.take_append_drop]
  rw [← e, List.length_append]; omega
theorem cut_loG {ts : List (List Nat)} {i : Nat} : cutV (ts.map sV) none (some (i : Int)) = (ts.take i).map sV := by
  by_cases h : i ≤ ts.length
  · exact cut_lo h
  · unfold cutV
    rw [HT.sIx_none, HT.sIx_nat, List.length_map, Nat.min_eq_right (by omega), List.drop_zero, Nat.sub_zero, ← List.map_take, List.take_of_length_le (Nat.le_refl _), List.take_of_length_le (by omega)]
/-- what fits so far -/
theorem bad_wk {ts : List (List Nat)} {b : Int} (hb : (b = -1 ∧ Wk 12 ts 0) ∨ ∃ k : Nat, b = (k : Int) ∧ Bad ts k) {k : Nat} (h : b < 0 ∨ (k : Int) ≤ b) : ∃ dp, Wk 12 (ts.take k) dp := by
  rcases hb with ⟨_, hw⟩ | ⟨k2, rfl, hB⟩
  · exact Wk.pre (ts.drop k) (ts.take k) 0 (by rw [List.take_append_drop]; exact hw)
  · have hk : k ≤ k2 := by omega
    rcases hB with ⟨dp, z, hw, _⟩ | ⟨rfl, dp, hw, _⟩
    · refine Wk.pre ((ts.take k2).drop k) (ts.take k) dp ?_
      have e : ts.take k = (ts.take k2).take k := by rw [List.take_take, Nat.min_eq_left hk]
      rw [e, List.take_append_drop]; exact hw
    · exact Wk.pre (ts.drop k) (ts.take k) dp (by rw [List.take_append_drop]; exact hw)
/-- the pieces of a token -/
theorem Tk.piece {t : List Nat} (h : Tk t) {m : Nat} (m0 : 1 ≤ m) (m1 : m ≤ t.length) : Tk (t.take m) ∧ (t.take m).headD 0 = t.headD 0 := by
  obtain ⟨m, rfl⟩ : ∃ n, m = n + 1 := ⟨m - 1, by omega⟩
  rcases h with ⟨c, rfl, h1⟩ | ⟨r, rfl, h1⟩ | ⟨h1, h2⟩
  · rw [List.take_succ_cons, List.take_nil]; exact ⟨.inl ⟨c, rfl, h1⟩, rfl⟩
  · rw [List.take_succ_cons]; exact ⟨.inr (.inl ⟨_, rfl, fun c hc => h1 c (List.mem_of_mem_take hc)⟩), rfl⟩
  · cases t with
    | nil => exact absurd rfl h1
    | cons c r =>
      rw [List.take_succ_cons]
      refine ⟨.inr (.inr ⟨by simp, fun x hx => h2 x ?_⟩), rfl⟩
      rcases List.mem_cons.mp hx with rfl | hx
      · exact List.mem_cons_self
      · exact List.mem_cons_of_mem _ (List.mem_of_mem_take hx)
end Vf

set_option Elab.async false
set_option linter.all false
set_option maxRecDepth 100000
set_option maxHeartbeats 4000000
namespace Vf
open PySem PySem.Spec PyProof.Rows L2 TL
section
variable {P : Program} {w : World} {K : PySem.W.Frag} {mg : Str → Option Value} {base : Heap}
def ptsV (ts : List (List Nat)) (g0 : List Nat) (gs : List (List Nat)) : List V := (g0 :: inter ts gs).map sV
def spCuts (K : PySem.W.Frag) : Sp := fun vs H Q _ => ∃ (pp t : Addr) (ts gs : List (List Nat)) (g0 : List Nat) (b : Int), vs = [.ref pp, .ref t, .int b] ∧ H pp = some (.lst (ptsV ts g0 gs)) ∧ H t = some (.lst (ts.map sV)) ∧ PC ts g0 gs ∧
  ((b = -1 ∧ Wk 12 ts 0) ∨ ∃ k : Nat, b = (k : Int) ∧ Bad ts k) ∧ ∀ H', Same H H' → Q (.bl true) H'
theorem pts_sum {ts gs : List (List Nat)} {g0 : List Nat} (h : PC ts g0 gs) (m : Nat) : ((((g0 :: inter ts gs).take m).map mkS).map (·.length)).sum + (((g0 :: inter ts gs).take m).map mkS).length * ("" : Str).length ≤ 16777216 := by
  have h1 := flat_take_le (g0 :: inter ts gs) m
  have h2 := h.text.2.1
  rw [sum_len, show (("" : Str)).length = 0 from by rw [empty_mk, mkS_len]; rfl]
  omega
theorem ptok2 : Tk [125] := by
  refine .inl ⟨125, rfl, ?_, ?_, by decide⟩
  · unfold cB; rw [sB_list]; decide
  · unfold cW; rw [sW_list]; decide
theorem ans_or2 {σ : L2.St} {H : Hp} {t u : TT} {b1 b2 : Bool} (h1 : Ans t σ H b1) (h2 : Ans u σ H b2) : Ans (tOr t u) σ H (b1 || b2) := by
  cases b1 with
  | true => exact ans_or1 h1
  | false => exact ans_or h1 h2
theorem sp_br : (" }" : Str) = mkS [32, 125] := by decide +kernel
theorem ok_cuts (T : Txt K mg) : FnOk P w K mg base CX0 44 T.a_law_cuts_read T.d_law_cuts_read ["_law_parts_here", "_law_tokens", "_law_bad"] (spCuts K) := by
  have G_law_reads : FnOk P w K mg base CX0 43 T.a_law_reads T.d_law_reads ["_law_text", "_law_tokens"] (spReads K) := ok_reads T
  refine T.D_law_cuts_read.F.ok sc_law_cuts_read (fun vs H Q E h => ?_) (fun cdv A outer s H vs Q E hr h => ?_)
  · obtain ⟨pp, t, ts, gs, g0, b, rfl, _⟩ := h
    rfl
  · obtain ⟨pp, t, ts, gs, g0, b, rfl, hp, ht, hc, hb, q⟩ := h
    refine ⟨_, (pss_cons (ps_for PassesOwn.never rfl (pi_range1 (by rfl) T.n_range (pa_cons (pe_op op_add (pe_callB call_len_seq (by rfl) T.n_len PySem.boot_len (pa_cons (pv 1) pa_nil)) pe_int) pa_nil)) (pg_name (i := 3) sc_law_cuts_read.nd rfl (.inl rfl)) (pss_cons (ps_set (i := 4) sc_law_cuts_read.nd rfl (.inl rfl) (pe_join pe_str (pe_slice sl_list (pv 0) po_none (po_some (pe_op op_mul pe_int (pv 3))))))
      (pss_cons (ps_if (pt_not (pt_val (pe_call G_law_reads (hr.mono (by decide)) (by rfl) T.D_law_reads.G T.D_law_reads.F.kp T.D_law_reads.B .nil pass0 (pa_cons (pv 4) (pa_cons (pe_slice sl_list (pv 1) po_none (po_some (pv 3))) pa_nil))))) (pss_one (ps_ret pe_bl)) pss_nil)
      (pss_one (ps_if (PW.pt (pw_or (pt_cmpR op_lt (pv 2) pe_int (nomark _)) (pw_or1 (pt_cmpR op_le (pv 3) (pv 2) (nomark _))))) (pss_cons (ps_set (i := 5) sc_law_cuts_read.nd rfl (.inl rfl) (pe_op op_sub (pe_bm PySem.F.plainAttrs_list PySem.F.slot_list_count PySem.F.type_list_count mt_scount (pe_slice sl_list (pv 1) po_none (po_some (pv 3))) (pa_cons pe_str pa_nil)) (pe_bm PySem.F.plainAttrs_list PySem.F.slot_list_count PySem.F.type_list_count mt_scount (pe_slice sl_list (pv 1) po_none (po_some (pv 3))) (pa_cons pe_str pa_nil))))
      (pss_one (ps_if (pt_not (pt_val (pe_call G_law_reads (hr.mono (by decide)) (by rfl) T.D_law_reads.G T.D_law_reads.F.kp T.D_law_reads.B .nil pass0 (pa_cons (pe_op op_add_str (pv 4) (pe_op op_mul_str pe_str (pv 5))) (pa_cons (pe_op op_cat (pe_slice sl_list (pv 1) po_none (po_some (pv 3))) (pe_op op_rep (pe_lst (pa_cons pe_str pa_nil)) (pv 5))) pa_nil))))) (pss_one (ps_ret pe_bl)) pss_nil))) pss_nil)))))
      (pss_one (ps_ret pe_bl))), ?_⟩
    have tl := hc.tl
    have hc2 := hc.text
    have ml : (ts.map sV).length = ts.length := List.length_map ..
    refine ⟨_, rfl, t, _, rfl, .inl (SqL.of ht), _, _, rfl, rfl, _, rfl, by omega, by omega, ?_⟩
    refine for_range (lo := 0) (n := ((((ts.map sV).length : Nat) : Int) + 1).toNat) (fun i σ' H' => ∃ (x3 x4 x5 : Option V), σ' = [some (.ref pp), some (.ref t), some (.int b), x3, x4, x5] ∧ Same H H')
      ⟨none, none, none, rfl, Same.refl H⟩ ?_ ?_
    · rintro k σ' H1 hi ⟨x3, x4, x5, rfl, s1⟩
      have hk : k ≤ ts.length := by omega
      have e0 : ((0 : Int) + (k : Int)) = (k : Int) := Int.zero_add _
      have e2 : (2 : Int) * ((0 : Int) + (k : Int)) = ((2 * k : Nat) : Int) := by omega
      -- the text ahead
      refine ⟨⟨_, rfl⟩, _, rfl, _, rfl, _, _, rfl, rfl, .inl ⟨by decide, by decide⟩, _, rfl, pp, _, rfl, SqL.of (s1 _ _ hp), fun p1 n1 => ?_⟩
      rw [e2, show cutV (ptsV ts g0 gs) none (some ((2 * k : Nat) : Int)) = ((g0 :: inter ts gs).take (2 * k)).map sV from cut_loG]
      have s2 := same_upd (o := .lst (((g0 :: inter ts gs).take (2 * k)).map sV)) s1 n1
      refine ⟨_, p1, ((g0 :: inter ts gs).take (2 * k)).map mkS, rfl, rfl, .inl (SqL.of (by rw [upd_same, map_sV])), pts_sum hc _, ?_⟩
      rw [join_mk]
      have ta := hc.cut hk
      have la := flat_take_le (g0 :: inter ts gs) (2 * k)
      obtain ⟨az, haz⟩ : ∃ az, ((g0 :: inter ts gs).take (2 * k)).flatten = az := ⟨_, rfl⟩
      rw [haz] at ta la ⊢
      -- read
      refine ⟨_, rfl, _, rfl, _, rfl, _, rfl, t, _, rfl, SqL.of (s2 _ _ ht), fun p2 n2 => ?_⟩
      rw [e0, cut_loG]
      have s3 := same_upd (o := .lst ((ts.take k).map sV)) s2 n2
      have tkk : ∀ z ∈ ts.take k, Tk z ∧ z.length ≤ 1000 := fun z hz => ⟨(hc.tk z (List.mem_of_mem_take hz)).1, by have := (hc.tk z (List.mem_of_mem_take hz)).2; omega⟩
      have lk : (ts.take k).length = k := by rw [List.length_take]; omega
      refine ⟨az, p2, rfl, by rw [ta]; exact SqL.of upd_same, by omega, by rw [ta]; omega, by rw [ta]; exact tkk, fun H2 s4 => ?_⟩
      have s5 := s3.trans s4
      refine ⟨true, rfl, ?_⟩
      -- the braces closed
      rcases tf (decide (b < 0) || decide ((k : Int) ≤ b)) with hB | hB
      · refine st_yes (Ans.to (ans_or2 (ans_cmp (val_var rfl) val_c fun Q q => ⟨_, _, rfl, rfl, q⟩) (ans_cmp (val_var rfl) (val_var rfl) fun Q q => ⟨_, _, rfl, rfl, q⟩)) hB) ?_
        have hB2 : b < 0 ∨ (k : Int) ≤ b := by
          rcases Bool.or_eq_true_iff.mp hB with h | h
          · exact .inl (of_decide_eq_true h)
          · exact .inr (by have := of_decide_eq_true h; omega)
        obtain ⟨dp, hw⟩ := bad_wk hb hB2
        have dl := hw.dep_le
        have cnt : ((((ts.take k).count [123] : Nat) : Int) - (((ts.take k).count [125] : Nat) : Int)) = (dp : Int) := by rw [count_dCount]; exact hw.count
        refine ⟨_, rfl, _, rfl, _, rfl, t, _, rfl, SqL.of (s5 _ _ ht), fun p3 n3 => ?_⟩
        rw [cut_loG]
        have s6 := same_upd (o := .lst ((ts.take k).map sV)) s5 n3
        refine ⟨.inl ⟨rfl, _, SqL.of upd_same⟩, p3, ts.take k, _, [123], rfl, rfl, brO_mk, SqL.of upd_same, ?_⟩
        refine ⟨_, rfl, _, rfl, _, rfl, t, _, rfl, SqL.of (s6 _ _ ht), fun p4 n4 => ?_⟩
        rw [cut_loG]
        have s7 := same_upd (o := .lst ((ts.take k).map sV)) s6 n4
        refine ⟨.inl ⟨rfl, _, SqL.of upd_same⟩, p4, ts.take k, _, [125], rfl, rfl, brC_mk, SqL.of upd_same, ?_⟩
        refine ⟨_, _, rfl, rfl, ?_⟩
        refine ⟨_, rfl, _, rfl, mkS [32, 125], (dp : Int), ?_, congrArg V.int cnt, mul_okN (by omega) (by rw [mkS_len]; decide), ?_⟩
        · rw [sp_br]
        rw [mul_mk [32, 125] (by simp)]
        have la2 : (List.replicate dp [32, 125]).flatten.length ≤ 100 := by
          have := flat_len (B := 2) (zss := List.replicate dp [32, 125]) fun z hz => by rw [List.eq_of_mem_replicate hz]; exact Nat.le_refl _
          rw [List.length_replicate] at this
          omega
        refine ⟨_, _, rfl, rfl, by rw [mkS_len, mkS_len]; exact Nat.le_trans (show _ ≤ 100000 by omega) (by decide), ?_⟩
        rw [mkS_app]
        refine ⟨_, rfl, _, rfl, _, rfl, t, _, rfl, SqL.of (s7 _ _ ht), fun p5 n5 => ?_⟩
        rw [cut_loG]
        have s8 := same_upd (o := .lst ((ts.take k).map sV)) s7 n5
        refine ⟨by show 1 ≤ sizeLine; decide, fun p6 n6 => ?_⟩
        have s9 := same_upd (o := .lst [V.str ("}" : Str)]) s8 n6
        have e5 := same_upd (o := .lst [V.str ("}" : Str)]) (Same.refl _) n6 p5 _ upd_same
        refine ⟨_, rfl, p6, (dp : Int), _, rfl, congrArg V.int cnt, upd_same, by omega, by omega, ?_, fun p7 n7 => ?_⟩
        · show 1 * _ ≤ sizeLine
          exact Nat.le_trans (show 1 * ((dp : Int)).toNat ≤ 100 by omega) (by decide)
        have s10 := same_upd (o := .lst (List.replicate ((dp : Int)).toNat [V.str ("}" : Str)]).flatten) s9 n7
        have e6 := same_upd (o := .lst (List.replicate ((dp : Int)).toNat [V.str ("}" : Str)]).flatten) (Same.refl _) n7 p5 _ e5
        refine ⟨p5, p7, _, _, rfl, rfl, e6, upd_same, ?_, fun p8 n8 => ?_⟩
        · rw [flat_rep, List.length_map, List.length_map, List.length_replicate, lk]
          exact Nat.le_trans (show k + ((dp : Int)).toNat ≤ 2000 by omega) (by decide)
        rw [flat_rep, Int.toNat_natCast, ← List.map_append] at *
        have s11 := same_upd (o := .lst ((ts.take k ++ List.replicate dp [125]).map sV)) s10 n8
        have tz : tok (az ++ (List.replicate dp [32, 125]).flatten) = ts.take k ++ List.replicate dp [125] := by rw [tok_braced, ta]
        refine ⟨az ++ (List.replicate dp [32, 125]).flatten, p8, rfl, by rw [tz]; exact SqL.of upd_same, by rw [List.length_append]; omega, by rw [tz, List.length_append, List.length_replicate]; omega, ?_, fun H3 s12 => ?_⟩
        · rw [tz]
          intro z hz
          rcases List.mem_append.mp hz with h | h
          · exact tkk z h
          · rw [List.eq_of_mem_replicate h]; exact ⟨ptok2, by decide⟩
        · exact ⟨true, rfl, _, _, _, rfl, s11.trans s12⟩
      · refine st_no (Ans.to (ans_or2 (ans_cmp (val_var rfl) val_c fun Q q => ⟨_, _, rfl, rfl, q⟩) (ans_cmp (val_var rfl) (val_var rfl) fun Q q => ⟨_, _, rfl, rfl, q⟩)) hB) ?_
        exact ⟨_, _, _, rfl, s5⟩
    · rintro σ' H' ⟨x3, x4, x5, rfl, s1⟩
      exact q H' s1
def spShort (K : PySem.W.Frag) : Sp := fun vs H Q _ => ∃ (pp t : Addr) (ts gs : List (List Nat)) (g0 : List Nat) (k : Nat), vs = [.ref pp, .ref t, .int (k : Int)] ∧ H pp = some (.lst (ptsV ts g0 gs)) ∧ H t = some (.lst (ts.map sV)) ∧ PC ts g0 gs ∧ k < ts.length ∧ ∀ H', Same H H' → Q (.bl true) H'
theorem cut_mkG {z : List Nat} {m : Nat} (h : m ≤ z.length) : cutS (mkS z) none (some (m : Int)) = mkS (z.take m) := by
  unfold cutS
  rw [HT.sIx_none, HT.sIx_nat, mkS_len, Nat.min_eq_left h, Nat.sub_zero, List.drop_zero]
  rfl
theorem ok_short (T : Txt K mg) : FnOk P w K mg base CX0 44 T.a_law_short_reads T.d_law_short_reads ["_law_parts_here", "_law_tokens", "_law_at"] (spShort K) := by
  have G_law_reads : FnOk P w K mg base CX0 43 T.a_law_reads T.d_law_reads ["_law_text", "_law_tokens"] (spReads K) := ok_reads T
  refine T.D_law_short_reads.F.ok sc_law_short_reads (fun vs H Q E h => ?_) (fun cdv A outer s H vs Q E hr h => ?_)
  · obtain ⟨pp, t, ts, gs, g0, k, rfl, _⟩ := h
    rfl
  · obtain ⟨pp, t, ts, gs, g0, k, rfl, hp, ht, hc, hk, q⟩ := h
    refine ⟨_, (pss_cons (ps_set (i := 3) sc_law_short_reads.nd rfl (.inl rfl) (pe_join pe_str (pe_slice sl_list (pv 0) po_none (po_some (pe_op op_add (pe_op op_mul pe_int (pv 2)) pe_int)))))
      (pss_cons (ps_for PassesOwn.never rfl (pi_range2 (by rfl) T.n_range (pa_cons pe_int (pa_cons (pe_callB call_len_str (by rfl) T.n_len PySem.boot_len (pa_cons (pe_ix ix_list (pv 1) (pv 2) (fun _ _ => rfl)) pa_nil)) pa_nil))) (pg_name (i := 4) sc_law_short_reads.nd rfl (.inl rfl)) (pss_cons (ps_set (i := 5) sc_law_short_reads.nd rfl (.inl rfl) (pe_slice sl_str (pe_ix ix_list (pv 1) (pv 2) (fun _ _ => rfl)) po_none (po_some (pv 4))))
      (pss_one (ps_if (pt_not (pt_val (pe_call G_law_reads (hr.mono (by decide)) (by rfl) T.D_law_reads.G T.D_law_reads.F.kp T.D_law_reads.B .nil pass0 (pa_cons (pe_op op_add_str (pv 3) (pv 5)) (pa_cons (pe_op op_cat (pe_slice sl_list (pv 1) po_none (po_some (pv 2))) (pe_lst (pa_cons (pv 5) pa_nil))) pa_nil))))) (pss_one (ps_ret pe_bl)) pss_nil))))
      (pss_one (ps_ret pe_bl)))), ?_⟩
    have tl := hc.tl
    have hc2 := hc.text
    have e2 : (2 : Int) * (k : Int) + 1 = ((2 * k + 1 : Nat) : Int) := by omega
    have htk : ts[k]? = some ts[k] := List.getElem?_eq_getElem hk
    obtain ⟨z, ez⟩ : ∃ z, ts[k] = z := ⟨_, rfl⟩
    rw [ez] at htk
    have ⟨zT, zL⟩ := hc.tk z (List.mem_of_getElem? htk)
    refine ⟨⟨_, rfl⟩, _, rfl, _, rfl, _, _, rfl, rfl, .inl ⟨by decide, by decide⟩, _, _, rfl, rfl, _, rfl, pp, _, rfl, SqL.of hp, fun p1 n1 => ?_⟩
    rw [e2, show cutV (ptsV ts g0 gs) none (some ((2 * k + 1 : Nat) : Int)) = ((g0 :: inter ts gs).take (2 * k + 1)).map sV from cut_loG]
    have s1 := same_upd (o := .lst (((g0 :: inter ts gs).take (2 * k + 1)).map sV)) (Same.refl H) n1
    refine ⟨_, p1, ((g0 :: inter ts gs).take (2 * k + 1)).map mkS, rfl, rfl, .inl (SqL.of (by rw [upd_same, map_sV])), pts_sum hc _, ?_⟩
    rw [join_mk]
    have la := flat_take_le (g0 :: inter ts gs) (2 * k + 1)
    have hm := fun {u : List Nat} => hc.more (u := u) htk
    obtain ⟨az, haz⟩ : ∃ az, ((g0 :: inter ts gs).take (2 * k + 1)).flatten = az := ⟨_, rfl⟩
    rw [haz] at la hm ⊢
    refine ⟨_, rfl, _, rfl, t, _, _, _, rfl, rfl, SqL.of (s1 _ _ ht), atI_nat (get_sV htk), mkS z, rfl, by rw [mkS_len]; exact Nat.le_trans zL (by decide), _, _, rfl, ⟨by decide, by decide, by omega, by rw [mkS_len]; omega⟩, ?_⟩
    rw [mkS_len]
    refine for_range (lo := 1) (n := ((z.length : Int) - 1).toNat) (fun i σ' H' => ∃ (x4 x5 : Option V), σ' = [some (.ref pp), some (.ref t), some (.int (k : Int)), some (sV az), x4, x5] ∧ Same H H')
      ⟨none, none, rfl, s1⟩ ?_ ?_
    · rintro i σ' H1 hi ⟨x4, x5, rfl, s2⟩
      have e3 : (1 : Int) + (i : Int) = ((i + 1 : Nat) : Int) := by omega
      have hi2 : i + 1 ≤ z.length := by omega
      refine ⟨_, rfl, _, rfl, t, _, _, _, rfl, rfl, SqL.of (s2 _ _ ht), atI_nat (get_sV htk), _, rfl, _, rfl, mkS z, rfl, by rw [mkS_len]; exact Nat.le_trans zL (by decide), ?_⟩
      rw [e3, cut_mkG hi2]
      have ⟨uT, uh⟩ := zT.piece (m := i + 1) (by omega) hi2
      have tz := hm uT uh
      have ul : (z.take (i + 1)).length ≤ 60 := by rw [List.length_take]; omega
      obtain ⟨u, eu⟩ : ∃ u, z.take (i + 1) = u := ⟨_, rfl⟩
      rw [eu] at uT tz ul ⊢
      refine ⟨_, rfl, _, rfl, _, _, rfl, rfl, by rw [mkS_len, mkS_len]; exact Nat.le_trans (show _ ≤ 100000 by omega) (by decide), ?_⟩
      rw [mkS_app]
      refine ⟨_, rfl, _, rfl, _, rfl, t, _, rfl, SqL.of (s2 _ _ ht), fun p5 n5 => ?_⟩
      rw [cut_loG]
      have s8 := same_upd (o := .lst ((ts.take k).map sV)) s2 n5
      refine ⟨_, rfl, by show 1 ≤ sizeLine; decide, fun p6 n6 => ?_⟩
      have s9 := same_upd (o := .lst [sV u]) s8 n6
      have e5 := same_upd (o := .lst [sV u]) (Same.refl _) n6 p5 _ upd_same
      refine ⟨p5, p6, _, _, rfl, rfl, e5, upd_same, ?_, fun p8 n8 => ?_⟩
      · rw [List.length_map, List.length_take]; exact Nat.le_trans (show _ ≤ 2000 by show min k ts.length + 1 ≤ 2000; omega) (by decide)
      have s11 := same_upd (o := .lst ((ts.take k).map sV ++ [sV u])) s9 n8
      refine ⟨az ++ u, p8, rfl, by rw [tz, snoc_sV]; exact SqL.of upd_same, by rw [List.length_append]; omega, by rw [tz, List.length_append, List.length_take]; show min k ts.length + 1 ≤ 5000; omega, ?_, fun H3 s12 => ?_⟩
      · rw [tz]
        intro y hy
        rcases List.mem_append.mp hy with h | h
        · have := hc.tk y (List.mem_of_mem_take h)
          exact ⟨this.1, by omega⟩
        · rw [List.mem_singleton.mp h]; exact ⟨uT, by omega⟩
      · exact ⟨true, rfl, _, _, rfl, s11.trans s12⟩
    · rintro σ' H' ⟨x4, x5, rfl, s2⟩
      exact q H' s2
def spTails (K : PySem.W.Frag) : Sp := fun vs H Q _ => ∃ (d l pp t : Addr) (ts gs : List (List Nat)) (g0 : List Nat) (k : Nat), vs = [.ref d, .ref pp, .ref t, .int (k : Int)] ∧ DI d l H ∧ pp ≠ d ∧ t ≠ d ∧ H pp = some (.lst (ptsV ts g0 gs)) ∧ H t = some (.lst (ts.map sV)) ∧ PC ts g0 gs ∧ k < ts.length ∧ ∀ H', Q (.bl true) H'
theorem ok_tails (T : Txt K mg) : FnOk P w K mg base CX0 44 T.a_law_tails_read T.d_law_tails_read ["_law_d", "_law_parts_here", "_law_tokens", "_law_bad"] (spTails K) := by
  have G_law_draw : FnOk P w K mg base CX0 1 T.a_law_draw T.d_law_draw ["_law_d", "_law_many"] spDraw := ok_draw T
  have G_law_odd_token : FnOk P w K mg base CX0 5 T.a_law_odd_token T.d_law_odd_token ["_law_d"] (spStr RTok) := ok_odd_token T
  have G_law_parts : FnOk P w K mg base CX0 4 T.a_law_parts T.d_law_parts ["_law_d", "_law_tokens"] (spParts K) := ok_parts T
  have G_law_reads : FnOk P w K mg base CX0 43 T.a_law_reads T.d_law_reads ["_law_text", "_law_tokens"] (spReads K) := ok_reads T
  refine T.D_law_tails_read.F.ok sc_law_tails_read (fun vs H Q E h => ?_) (fun cdv A outer s H vs Q E hr h => ?_)
  · obtain ⟨d, l, pp, t, ts, gs, g0, k, rfl, _⟩ := h
    rfl
  · obtain ⟨d, l, pp, t, ts, gs, g0, k, rfl, hD, ppd, td, hp, ht, hc, hk, q⟩ := h
    refine ⟨_, (pss_cons (ps_set (i := 4) sc_law_tails_read.nd rfl (.inl rfl) (pe_join pe_str (pe_slice sl_list (pv 1) po_none (po_some (pe_op op_add (pe_op op_mul pe_int (pv 3)) pe_int)))))
      (pss_cons (ps_setLc (i := 5) (own := [("_law_k", 7)]) (g := gName 7) (tt := tYes) rfl sc_law_tails_read.nd rfl rfl (sw_true rfl rfl rfl (by decide +kernel)) (pi_range1 (by rfl) T.n_range (pa_cons (pe_call G_law_draw (hr.mono (by decide)) (by rfl) T.D_law_draw.G T.D_law_draw.F.kp T.D_law_draw.B .nil pass0 (pa_cons (pv 0) (pa_cons pe_int pa_nil))) pa_nil)) (blkOk_by (own := [("_law_k", 7)]) (N := ["_law_d", "_law_parts_here", "_law_tokens", "_law_bad", "_law_ahead", "_law_loose", "_law_tail", "_law_k"]) (sc := defScope s_law_tails_read) (by decide +kernel)) (fun _ _ _ _ _ => (pg_name (i := 7) sc_law_tails_read.nd rfl (.inl rfl))) (fun _ _ _ _ _ => pts_nil) (fun _ _ _ _ _ => (pe_call G_law_odd_token (hr.mono (by decide)) (by rfl) T.D_law_odd_token.G T.D_law_odd_token.F.kp T.D_law_odd_token.B .nil pass0 (pa_cons (pv 0) pa_nil))))
      (pss_cons (ps_for PassesOwn.never rfl (pi_list (pe_lst (pa_cons (pe_op op_rep (pe_lst (pa_cons pe_str pa_nil)) pe_int) (pa_cons (pv 5) pa_nil)))) (pg_name (i := 6) sc_law_tails_read.nd rfl (.inl rfl)) (pss_one (ps_if (pt_not (pt_val (pe_call G_law_reads (hr.mono (by decide)) (by rfl) T.D_law_reads.G T.D_law_reads.F.kp T.D_law_reads.B .nil pass0 (pa_cons (pe_op op_add_str (pe_op op_add_str (pv 4) pe_str) (pe_join pe_str (pe_call G_law_parts (hr.mono (by decide)) (by rfl) T.D_law_parts.G T.D_law_parts.F.kp T.D_law_parts.B .nil pass0 (pa_cons (pv 0) (pa_cons (pv 6) pa_nil))))) (pa_cons (pe_op op_cat (pe_slice sl_list (pv 2) po_none (po_some (pe_op op_add (pv 3) pe_int))) (pv 6)) pa_nil))))) (pss_one (ps_ret pe_bl)) pss_nil)))
      (pss_one (ps_ret pe_bl))))), ?_⟩
    have tl := hc.tl
    have hc2 := hc.text
    have e2 : (2 : Int) * (k : Int) + 2 = ((2 * (k + 1) : Nat) : Int) := by omega
    have e1 : (k : Int) + 1 = ((k + 1 : Nat) : Int) := by omega
    refine ⟨⟨_, rfl⟩, _, rfl, _, rfl, _, _, rfl, rfl, .inl ⟨by decide, by decide⟩, _, _, rfl, rfl, _, rfl, pp, _, rfl, SqL.of hp, fun p1 n1 => ?_⟩
    rw [e2, show cutV (ptsV ts g0 gs) none (some ((2 * (k + 1) : Nat) : Int)) = ((g0 :: inter ts gs).take (2 * (k + 1))).map sV from cut_loG]
    have K1 : Kp d H (upd H p1 (.lst (((g0 :: inter ts gs).take (2 * (k + 1))).map sV))) := (Kp.refl d H).new n1
    have D1 := hD.new (o := .lst (((g0 :: inter ts gs).take (2 * (k + 1))).map sV)) n1
    refine ⟨_, p1, ((g0 :: inter ts gs).take (2 * (k + 1))).map mkS, rfl, rfl, .inl (SqL.of (by rw [upd_same, map_sV])), pts_sum hc _, ?_⟩
    rw [join_mk]
    have la := flat_take_le (g0 :: inter ts gs) (2 * (k + 1))
    have ta := hc.cut (k := k + 1) hk
    obtain ⟨az, haz⟩ : ∃ az, ((g0 :: inter ts gs).take (2 * (k + 1))).flatten = az := ⟨_, rfl⟩
    rw [haz] at la ta ⊢
    -- loose tokens
    refine ⟨_, rfl, d, l, _, rfl, D1, by decide, fun H2 r K2 D2 _ r2 => ?_⟩
    have r3 := r2 (by decide)
    refine ⟨_, rfl, by omega, by omega, fun C nC => ?_⟩
    refine lc_range (lo := 0) (n := r.toNat) (PvS RTok d l H2 C) (PvS.start D2 nC) (fun i H9 hi pv => ⟨rfl, ?_⟩) (fun H9 pv => ?_)
    · exact ⟨_, rfl, d, l, rfl, pv.dice, fun H10 zs k2 d2 hz => pv.step D2 nC (by omega) k2 d2 hz⟩
    obtain ⟨zss, hzl, hzR, K3, D3, e9⟩ := pv
    have K4 := (K1.trans K2).trans K3
    have nCd := (D2.nd nC).1
    -- both tails
    refine ⟨by show 1 ≤ sizeLine; decide, fun p2 n2 => ?_⟩
    refine ⟨p2, 14, _, rfl, rfl, upd_same, by decide, by decide, by show 1 * 14 ≤ sizeLine; decide, fun p3 n3 => ?_⟩
    rw [show (List.replicate (14 : Int).toNat [V.str ("}" : Str)]).flatten = (List.replicate 14 [125]).map sV from flat_rep 14]
    refine ⟨_, rfl, by show 2 ≤ sizeLine; decide, fun p4 n4 => ?_⟩
    have D4 := ((D3.new (o := .lst [V.str ("}" : Str)]) n2).new (o := .lst ((List.replicate 14 [125]).map sV)) n3)
    have K5 := ((K4.new (o := .lst [V.str ("}" : Str)]) n2).new (o := .lst ((List.replicate 14 [125]).map sV)) n3).new (o := .lst [V.ref p3, .ref C]) n4
    have D5 := D4.new (o := .lst [V.ref p3, .ref C]) n4
    have p3d := ((D3.new (o := .lst [V.str ("}" : Str)]) n2).nd n3).1
    have p4d := (D4.nd n4).1
    obtain ⟨H5, hH5⟩ : ∃ H5, upd (upd (upd H9 p2 (.lst [V.str ("}" : Str)])) p3 (.lst ((List.replicate 14 [125]).map sV))) p4 (.lst [V.ref p3, .ref C]) = H5 := ⟨_, rfl⟩
    have e4 : H5 p4 = some (.lst [V.ref p3, .ref C]) := by rw [← hH5]; exact upd_same
    have e3 : H5 p3 = some (.lst ((List.replicate 14 [125]).map sV)) := by rw [← hH5, upd_ne (ne_of_none upd_same n4)]; exact upd_same
    have eC : H5 C = some (.lst (zss.map sV)) := by
      rw [← hH5]
      exact same_upd (same_upd (same_upd (Same.refl _) n2) n3) n4 _ _ e9
    rw [hH5] at K5 D5 ⊢
    refine ⟨p4, rfl, ⟨_, SqL.of e4⟩, ?_⟩
    refine for_list (K := K) (a := p4) (xs := [V.ref p3, .ref C]) (fun i σ' H' => ∃ x6 : Option V, σ' = [some (.ref d), some (.ref pp), some (.ref t), some (.int (k : Int)), some (sV az), some (.ref C), x6, none] ∧ Kp d H5 H' ∧ DI d l H')
      ⟨_, rfl, Kp.refl d _, D5⟩ ?_ ?_ ?_
    · rintro i σ' H' _ ⟨_, _, k1, _⟩
      exact SqL.of (k1 _ _ p4d e4)
    · rintro i x σ' H6 hx ⟨x6, rfl, K6, D6⟩
      obtain ⟨p, tz, rfl, pd, ep, zl, zR⟩ : ∃ (p : Addr) (tz : List (List Nat)), x = .ref p ∧ p ≠ d ∧ H5 p = some (.lst (tz.map sV)) ∧ tz.length ≤ 14 ∧ ∀ z ∈ tz, RTok z := by
        match i, hx with
        | 0, hx => exact ⟨p3, _, (Option.some.inj hx).symm, p3d, e3, by rw [List.length_replicate]; omega, fun z hz => by rw [List.eq_of_mem_replicate hz]; exact ⟨ptok2, by decide⟩⟩
        | 1, hx => exact ⟨C, zss, (Option.some.inj hx).symm, nCd, eC, by omega, hzR⟩
        | _ + 2, hx => cases hx
      have ep6 := K6 _ _ pd ep
      refine ⟨_, rfl, _, _, rfl, rfl, ?_, ⟨_, rfl⟩, _, rfl, _, rfl, d, l, p, tz, rfl, D6, pd, SqL.of ep6, by omega, fun z hz => ⟨(zR z hz).1.ne, by have := (zR z hz).2; omega⟩, fun H7 r7 h0 hs K7 D7 nr e7 b0 l0 gl hgs => ?_⟩
      · rw [mkS_len, blank_len]; exact Nat.le_trans (show _ ≤ 100000 by omega) (by decide)
      have pc : PC tz h0 hs := ⟨b0, l0, gl, hgs, by omega, zR⟩
      have ⟨t1, t2, t3⟩ := pc.text
      refine ⟨_, r7, (h0 :: inter tz hs).map mkS, rfl, rfl, .inl (SqL.of (by rw [e7, map_sV])), ?_, ?_⟩
      · rw [sum_len, show (("" : Str)).length = 0 from by rw [empty_mk, mkS_len]; rfl]; omega
      rw [join_mk, blank_mk, mkS_app]
      have tl2 : (h0 :: inter tz hs).flatten.length ≤ 2000 := by
        have ml := mixed_lenB (B := 60) tz hs (fun u hu => (zR u hu).2) (fun k g e => (hgs k g e).2)
        rw [List.flatten_cons, List.length_append, inter_flat]
        omega
      have ty : tok (az ++ [32] ++ (h0 :: inter tz hs).flatten) = ts.take (k + 1) ++ tz := by
        rw [List.append_assoc]
        show tok (az ++ 32 :: (h0 :: inter tz hs).flatten) = _
        rw [tok_split (bl32 32 List.mem_cons_self) _ _ _ (Nat.le_refl _), ta, t1]
      refine ⟨_, _, rfl, rfl, ?_, ?_⟩
      · rw [mkS_len, mkS_len, List.length_append]; exact Nat.le_trans (show _ ≤ 100000 by show az.length + 1 + _ ≤ _; omega) (by decide)
      rw [mkS_app]
      have K8 := (K5.trans K6).trans K7
      refine ⟨_, rfl, _, rfl, _, _, rfl, rfl, _, rfl, t, _, rfl, SqL.of (K8 _ _ td ht), fun p5 n5 => ?_⟩
      rw [e1, cut_loG]
      have K9 := K7.new (o := .lst ((ts.take (k + 1)).map sV)) n5
      refine ⟨_, rfl, p5, p, _, _, rfl, rfl, upd_same, K9 _ _ pd ep6, ?_, fun p6 n6 => ?_⟩
      · rw [List.length_map, List.length_map, List.length_take]; exact Nat.le_trans (show _ ≤ 2000 by omega) (by decide)
      rw [← List.map_append]
      refine ⟨az ++ [32] ++ (h0 :: inter tz hs).flatten, p6, rfl, by rw [ty]; exact SqL.of upd_same, by rw [List.length_append, List.length_append]; show az.length + 1 + _ ≤ _; omega, by rw [ty, List.length_append, List.length_take]; omega, ?_, fun H10 s10 => ?_⟩
      · rw [ty]
        intro y hy
        rcases List.mem_append.mp hy with h | h
        · have := hc.tk y (List.mem_of_mem_take h)
          exact ⟨this.1, by omega⟩
        · exact ⟨(zR y h).1, by have := (zR y h).2; omega⟩
      · have D10 := (D7.new (o := .lst ((ts.take (k + 1)).map sV)) n5).new (o := .lst ((ts.take (k + 1) ++ tz).map sV)) n6
        have K10 := (K6.trans (K9.new (o := .lst ((ts.take (k + 1) ++ tz).map sV)) n6)).trans (fun b o _ e => s10 b o e)
        exact ⟨true, rfl, _, rfl, K10, D10.keep s10⟩
    · rintro σ' H' ⟨x6, rfl, _⟩
      exact q H'
end
end Vf

set_option Elab.async false
set_option linter.all false
set_option maxRecDepth 100000
set_option maxHeartbeats 4000000
namespace Vf
open PySem PySem.Spec PyProof.Rows L2 TL
section
variable {P : Program} {w : World} {K : PySem.W.Frag} {mg : Str → Option Value} {base : Heap}
theorem Wk.rtok {most : Nat} {ts : List (List Nat)} {dp : Nat} (h : Wk most ts dp) : ∀ z ∈ ts, RTok z := fun z hz => ⟨h.tk z hz, by have := (h.tok_len z hz).1; omega⟩
def spLaw (K : PySem.W.Frag) : Sp := fun vs H Q _ => ∃ (a : Addr) (ns : List Int), vs = [.ref a] ∧ SqL K H a (ns.map V.int) ∧ ns.length ≤ 63 ∧ ∀ H', Q (.bl true) H'
theorem ok_law (T : Txt K mg) : FnOk P w K mg base CX0 45 T.a_law T.d_law ["_law_script"] (spLaw K) := by
  have G_law_begin : FnOk P w K mg base CX0 1 T.a_law_begin T.d_law_begin ["_law_script"] (spBegin K) := ok_begin T
  have G_law_draw : FnOk P w K mg base CX0 1 T.a_law_draw T.d_law_draw ["_law_d", "_law_many"] spDraw := ok_draw T
  have G_law_rare : FnOk P w K mg base CX0 2 T.a_law_rare T.d_law_rare ["_law_d", "_law_many"] spRare := ok_rare T
  have G_law_pick : FnOk P w K mg base CX0 2 T.a_law_pick T.d_law_pick ["_law_d", "_law_row"] (spPick K) := ok_pick T
  have G_law_token_walk : FnOk P w K mg base CX0 5 T.a_law_token_walk T.d_law_token_walk ["_law_d", "_law_many", "_law_most"] spWalkT := ok_token_walk T
  have G_law_spoilt : FnOk P w K mg base CX0 6 T.a_law_spoilt T.d_law_spoilt ["_law_d", "_law_tokens"] (spSpoilt K) := ok_spoilt T
  have G_law_parts : FnOk P w K mg base CX0 4 T.a_law_parts T.d_law_parts ["_law_d", "_law_tokens"] (spParts K) := ok_parts T
  have G_law_reads : FnOk P w K mg base CX0 43 T.a_law_reads T.d_law_reads ["_law_text", "_law_tokens"] (spReads K) := ok_reads T
  have G_law_first_bad : FnOk P w K mg base CX0 2 T.a_law_first_bad T.d_law_first_bad ["_law_tokens", "_law_most"] (spFirstBad K) := ok_first_bad T
  have G_law_cuts_read : FnOk P w K mg base CX0 44 T.a_law_cuts_read T.d_law_cuts_read ["_law_parts_here", "_law_tokens", "_law_bad"] (spCuts K) := ok_cuts T
  have G_law_short_reads : FnOk P w K mg base CX0 44 T.a_law_short_reads T.d_law_short_reads ["_law_parts_here", "_law_tokens", "_law_at"] (spShort K) := ok_short T
  have G_law_tails_read : FnOk P w K mg base CX0 44 T.a_law_tails_read T.d_law_tails_read ["_law_d", "_law_parts_here", "_law_tokens", "_law_bad"] (spTails K) := ok_tails T
  refine T.D_law.F.ok sc_law (fun vs H Q E h => ?_) (fun cdv A outer s H vs Q E hr h => ?_)
  · obtain ⟨a, ns, rfl, _⟩ := h
    rfl
  · obtain ⟨a, ns, rfl, hS, hl, q⟩ := h
    refine ⟨_, (pss_cons (ps_set (i := 1) sc_law.nd rfl (.inl rfl) (pe_call G_law_begin (hr.mono (by decide)) (by rfl) T.D_law_begin.G T.D_law_begin.F.kp T.D_law_begin.B .nil pass0 (pa_cons (pv 0) pa_nil)))
      (pss_cons (ps_set (i := 2) sc_law.nd rfl (.inl rfl) (PE.to (t' := tMany) (pe_ifExp (pt_val (pe_call G_law_rare (hr.mono (by decide)) (by rfl) T.D_law_rare.G T.D_law_rare.F.kp T.D_law_rare.B .nil pass0 (pa_cons (pv 1) (pa_cons pe_int pa_nil)))) pe_int (pe_call G_law_draw (hr.mono (by decide)) (by rfl) T.D_law_draw.G T.D_law_draw.F.kp T.D_law_draw.B .nil pass0 (pa_cons (pv 1) (pa_cons pe_int pa_nil)))) (fun σ H Q h => by obtain ⟨d, l, hs, hD, q⟩ := h; refine ⟨_, hs, d, l, 8, rfl, hD, by decide, fun H2 b K2 D2 => ⟨b, rfl, ?_⟩⟩; cases b; exact ⟨_, hs, d, l, 14, rfl, D2, by decide, fun H3 r K3 D3 _ r2 => q H3 r (K2.trans K3) D3 (r2 (by decide)).1 (by have := (r2 (by decide)).2; omega)⟩; exact q H2 40 K2 D2 (by decide) (by decide))))
      (pss_cons (ps_set (i := 3) sc_law.nd rfl (.inl rfl) (pe_call G_law_token_walk (hr.mono (by decide)) (by rfl) T.D_law_token_walk.G T.D_law_token_walk.F.kp T.D_law_token_walk.B .nil pass0 (pa_cons (pv 1) (pa_cons (pv 2) (pa_cons (pe_call G_law_pick (hr.mono (by decide)) (by rfl) T.D_law_pick.G T.D_law_pick.F.kp T.D_law_pick.B .nil pass0 (pa_cons (pv 1) (pa_cons (pe_lst (pa_cons pe_int (pa_cons pe_int (pa_cons pe_int pa_nil)))) pa_nil))) pa_nil)))))
      (pss_cons (ps_for PassesOwn.never rfl (pi_range1 (by rfl) T.n_range (pa_cons (pe_call G_law_pick (hr.mono (by decide)) (by rfl) T.D_law_pick.G T.D_law_pick.F.kp T.D_law_pick.B .nil pass0 (pa_cons (pv 1) (pa_cons (pe_lst (pa_cons pe_int (pa_cons pe_int (pa_cons pe_int (pa_cons pe_int pa_nil))))) pa_nil))) pa_nil)) (pg_name (i := 4) sc_law.nd rfl (.inl rfl)) (pss_one (ps_set (i := 3) sc_law.nd rfl (.inl rfl) (pe_call G_law_spoilt (hr.mono (by decide)) (by rfl) T.D_law_spoilt.G T.D_law_spoilt.F.kp T.D_law_spoilt.B .nil pass0 (pa_cons (pv 1) (pa_cons (pv 3) pa_nil))))))
      (pss_cons (ps_set (i := 5) sc_law.nd rfl (.inl rfl) (pe_call G_law_parts (hr.mono (by decide)) (by rfl) T.D_law_parts.G T.D_law_parts.F.kp T.D_law_parts.B .nil pass0 (pa_cons (pv 1) (pa_cons (pv 3) pa_nil))))
      (pss_cons (ps_set (i := 6) sc_law.nd rfl (.inl rfl) (pe_call G_law_first_bad (hr.mono (by decide)) (by rfl) T.D_law_first_bad.G T.D_law_first_bad.F.kp T.D_law_first_bad.B .nil pass0 (pa_cons (pv 3) (pa_cons pe_int pa_nil))))
      (pss_cons (ps_if (PW.pt (pw_or (pt_not (pt_val (pe_call G_law_reads (hr.mono (by decide)) (by rfl) T.D_law_reads.G T.D_law_reads.F.kp T.D_law_reads.B .nil pass0 (pa_cons (pe_join pe_str (pv 5)) (pa_cons (pv 3) pa_nil))))) (pw_or1 (pt_not (pt_val (pe_call G_law_cuts_read (hr.mono (by decide)) (by rfl) T.D_law_cuts_read.G T.D_law_cuts_read.F.kp T.D_law_cuts_read.B .nil pass0 (pa_cons (pv 5) (pa_cons (pv 3) (pa_cons (pv 6) pa_nil))))))))) (pss_one (ps_ret pe_bl)) pss_nil)
      (Evl.pss_cut (ps_if (PW.pt (pw_and (pt_cmpR op_gt (pe_callB call_len_seq (by rfl) T.n_len PySem.boot_len (pa_cons (pv 3) pa_nil)) pe_int (nomark _)) (pw_and1 (pt_not (pt_val (pe_call G_law_short_reads (hr.mono (by decide)) (by rfl) T.D_law_short_reads.G T.D_law_short_reads.F.kp T.D_law_short_reads.B .nil pass0 (pa_cons (pv 5) (pa_cons (pv 3) (pa_cons (pe_call G_law_draw (hr.mono (by decide)) (by rfl) T.D_law_draw.G T.D_law_draw.F.kp T.D_law_draw.B .nil pass0 (pa_cons (pv 1) (pa_cons (pe_callB call_len_seq (by rfl) T.n_len PySem.boot_len (pa_cons (pv 3) pa_nil)) pa_nil))) pa_nil))))))))) (pss_one (ps_ret pe_bl)) pss_nil)
      (pss_one (ps_ret (pe_or (pe_cmpR op_lt (pv 6) pe_int (nomark _)) (pe_or (pe_cmpR op_eq (pv 6) (pe_callB call_len_seq (by rfl) T.n_len PySem.boot_len (pa_cons (pv 3) pa_nil)) (nomark _)) (pe_one (pe_call G_law_tails_read (hr.mono (by decide)) (by rfl) T.D_law_tails_read.G T.D_law_tails_read.F.kp T.D_law_tails_read.B .nil pass0 (pa_cons (pv 1) (pa_cons (pv 5) (pa_cons (pv 3) (pa_cons (pv 6) pa_nil)))))))))))))))))), ?_⟩
    refine ⟨_, rfl, a, ns, rfl, hS, hl, fun H1 d l s1 D1 => ?_⟩
    refine ⟨d, l, rfl, D1, fun H2 m K2 D2 m0 m1 => ?_⟩
    refine ⟨_, rfl, _, rfl, _, rfl, by show 3 ≤ sizeLine; decide, fun p np => ?_⟩
    refine ⟨d, l, _, _, rfl, D2.new np, .inl ⟨p, rfl, (D2.nd np).1, SqL.of upd_same⟩, by show 0 < 3; decide, by show 3 ≤ 1000; decide, fun H3 v K3 D3 hv => ?_⟩
    obtain ⟨most, rfl, h3, h30⟩ : ∃ most : Nat, v = .int (most : Int) ∧ 3 ≤ most ∧ most ≤ 20 := by
      simp only [List.mem_cons, List.not_mem_nil, or_false] at hv
      rcases hv with rfl | rfl | rfl
      · exact ⟨12, rfl, by decide, by decide⟩
      · exact ⟨12, rfl, by decide, by decide⟩
      · exact ⟨13, rfl, by decide, by decide⟩
    refine ⟨d, l, m, most, rfl, D3, m0, by omega, h3, by omega, fun H4 p1 ts1 K4 D4 n1 e1 w1 l1 => ?_⟩
    have p1d : p1 ≠ d := (D3.nd n1).1
    -- spoilt up to two times
    refine ⟨_, rfl, by show 4 ≤ sizeLine; decide, fun p0 n0 => ?_⟩
    refine ⟨d, l, _, _, rfl, D4.new n0, .inl ⟨p0, rfl, (D4.nd n0).1, SqL.of upd_same⟩, by show 0 < 4; decide, by show 4 ≤ 1000; decide, fun H5 v K5 D5 hv => ?_⟩
    have e1 := (((Kp.refl d H4).new n0).trans K5) _ _ p1d e1
    obtain ⟨many, rfl, hm⟩ : ∃ many : Nat, v = .int (many : Int) ∧ many ≤ 2 := by
      simp only [List.mem_cons, List.not_mem_nil, or_false] at hv
      rcases hv with rfl | rfl | rfl | rfl
      · exact ⟨0, rfl, by decide⟩
      · exact ⟨0, rfl, by decide⟩
      · exact ⟨1, rfl, by decide⟩
      · exact ⟨2, rfl, by decide⟩
    refine ⟨_, rfl, by omega, by omega, ?_⟩
    refine for_range (lo := 0) (n := ((many : Int)).toNat) (fun i σ' H' => ∃ (t : Addr) (ts : List (List Nat)) (x4 : Option V), σ' = [some (.ref a), some (.ref d), some (.int m), some (.ref t), x4, none, none] ∧ DI d l H' ∧ t ≠ d ∧ H' t = some (.lst (ts.map sV)) ∧ ts.length ≤ 1000 + i ∧ ∀ z ∈ ts, RTok z)
      ⟨p1, ts1, none, rfl, D5, p1d, e1, l1, w1.rtok⟩ ?_ ?_
    · rintro i σ' H' hi ⟨t, ts, x4, rfl, D', td, et, tl, tk⟩
      refine ⟨_, rfl, _, rfl, d, l, t, ts, rfl, D', td, et, by omega, tk, fun H7 p2 us K7 D7 n2 e2 ul ut => ?_⟩
      exact ⟨p2, us, _, rfl, D7, (D'.nd n2).1, e2, by omega, ut⟩
    rintro σ' H6 ⟨t, ts, x4, rfl, D6, td, et, tl, tk⟩
    have tl : ts.length ≤ 1010 := by omega
    -- the parts
    refine ⟨_, rfl, _, rfl, d, l, t, ts, rfl, D6, td, SqL.of et, by omega, fun z hz => ⟨(tk z hz).1.ne, by have := (tk z hz).2; omega⟩, fun H7 pp g0 gs K7 D7 nr e7 b0 l0 gl hgs => ?_⟩
    have pc : PC ts g0 gs := ⟨b0, l0, gl, hgs, by omega, tk⟩
    have ⟨t1, t2, t3⟩ := pc.text
    have ppd : pp ≠ d := (D6.nd nr).1
    have et7 := K7 _ _ td et
    have tkk : ∀ z ∈ ts, Tk z ∧ z.length ≤ 1000 := fun z hz => ⟨(tk z hz).1, by have := (tk z hz).2; omega⟩
    refine ⟨_, rfl, t, ts, 12, rfl, SqL.of et7, by omega, tkk, fun b hb0 => ?_⟩
    have hb := bad12 hb0
    -- the whole text, and cut
    refine ⟨⟨_, rfl⟩, _, rfl, _, pp, (g0 :: inter ts gs).map mkS, rfl, rfl, .inl (SqL.of (by rw [e7, map_sV])), ?_, ?_⟩
    · rw [sum_len, show (("" : Str)).length = 0 from by rw [empty_mk, mkS_len]; rfl]; omega
    rw [join_mk]
    refine ⟨_, rfl, (g0 :: inter ts gs).flatten, t, rfl, by rw [t1]; exact SqL.of et7, by omega, by rw [t1]; omega, by rw [t1]; exact tkk, fun H8 s8 => ?_⟩
    refine ⟨true, rfl, ?_⟩
    refine ⟨_, rfl, _, rfl, _, rfl, pp, t, ts, gs, g0, b, rfl, s8 _ _ e7, s8 _ _ et7, pc, hb, fun H9 s9 => ?_⟩
    refine ⟨true, rfl, ?_⟩
    have s89 := s8.trans s9
    have D9 := D7.keep s89
    refine ⟨fun σ' H' => σ' = [some (.ref a), some (.ref d), some (.int m), some (.ref t), x4, some (.ref pp), some (.int b)] ∧ Kp d H9 H' ∧ DI d l H', ?_, ?_⟩
    · have et9 := s89 _ _ et7
      refine ⟨_, rfl, t, _, rfl, .inl (SqL.of et9), _, _, rfl, rfl, _, rfl, ite2 (fun e => ?_) (fun _ => ⟨rfl, Kp.refl d _, D9⟩)⟩
      have e := of_decide_eq_true e
      rw [List.length_map] at e
      refine ⟨_, rfl, _, rfl, _, rfl, _, rfl, t, _, rfl, .inl (SqL.of et9), d, l, _, rfl, D9, by rw [List.length_map]; omega, fun H10 r K10 D10 r1 r2 => ?_⟩
      rw [List.length_map] at r1 r2
      obtain ⟨k, rfl, hk⟩ : ∃ k : Nat, r = (k : Int) ∧ k < ts.length := by
        by_cases h : (ts.length : Int) < 2
        · exact ⟨0, r1 h, by omega⟩
        · have := r2 (by omega)
          exact ⟨r.toNat, by omega, by omega⟩
      refine ⟨pp, t, ts, gs, g0, k, rfl, K10 _ _ ppd (s89 _ _ e7), K10 _ _ td et9, pc, hk, fun H11 s11 => ?_⟩
      exact ⟨true, rfl, rfl, K10.trans (fun b o _ e => s11 b o e), D10.keep s11⟩
    · rintro σ' H10 ⟨rfl, K10, D10⟩
      have et10 := K10 _ _ td (s89 _ _ et7)
      have ep10 := K10 _ _ ppd (s89 _ _ e7)
      rcases hb with ⟨rfl, _⟩ | ⟨k, rfl, hB⟩
      · exact ⟨_, rfl, _, _, rfl, rfl, true, bl_of (decide_eq_true (by decide)), q _⟩
      · refine ⟨_, rfl, _, _, rfl, rfl, false, bl_of (decide_eq_false (by omega)), ?_⟩
        refine ⟨_, rfl, _, rfl, t, _, rfl, .inl (SqL.of et10), rfl, decide (k = ts.length), ?_, ?_⟩
        · rw [List.length_map]; exact congrArg V.bl dec_len
        by_cases h : k = ts.length
        · rw [decide_eq_true h]
          exact q _
        · rw [decide_eq_false h]
          have hk : k < ts.length := by
            rcases hB with ⟨_, z, _, hz, _⟩ | ⟨e, _⟩
            · exact (List.getElem?_eq_some_iff.mp hz).1
            · exact absurd e h
          exact ⟨_, rfl, _, rfl, _, rfl, _, rfl, d, l, pp, t, ts, gs, g0, k, rfl, D10, ppd, td, ep10, et10, pc, hk, fun H' => q H'⟩
end
theorem all_mk {l : PySem.W.OpenLaw} {w : World} {K : PySem.W.Frag} {h : Heap} {mg : Str → Option Value} {fa : Addr} (X : K.In h) (G : h.Ns mainGlobals mg) (hfa : mg "law" = some (.ref fa))
    {f_is_word : Addr} {od_is_word an_is_word : Option Addr} {sl_is_word : Array (Option Value)} {oc_is_word kV_is_word dc_is_word pm_is_word cd_is_word ct_is_word : Value}
    (a_is_word : PySem.W.nsIn K mainGlobals "is_word" = some (some (.ref f_is_word))) (l_is_word : K.lookup f_is_word = some ⟨oc_is_word, od_is_word, .func (PySem.W.fnOf "is_word" "is_word" (defArgs s_is_word) (defBody s_is_word) (defScope s_is_word) .none kV_is_word dc_is_word pm_is_word an_is_word cd_is_word ct_is_word), sl_is_word⟩) (c_is_word : PySem.W.codeIn K cd_is_word "is_word" = true) (k_is_word : PySem.W.keepIn K (.ref f_is_word) = true)
    {f_is_name : Addr} {od_is_name an_is_name : Option Addr} {sl_is_name : Array (Option Value)} {oc_is_name kV_is_name dc_is_name pm_is_name cd_is_name ct_is_name : Value}
    (a_is_name : PySem.W.nsIn K mainGlobals "is_name" = some (some (.ref f_is_name))) (l_is_name : K.lookup f_is_name = some ⟨oc_is_name, od_is_name, .func (PySem.W.fnOf "is_name" "is_name" (defArgs s_is_name) (defBody s_is_name) (defScope s_is_name) .none kV_is_name dc_is_name pm_is_name an_is_name cd_is_name ct_is_name), sl_is_name⟩) (c_is_name : PySem.W.codeIn K cd_is_name "is_name" = true) (k_is_name : PySem.W.keepIn K (.ref f_is_name) = true)
    {f_consists_of : Addr} {od_consists_of an_consists_of : Option Addr} {sl_consists_of : Array (Option Value)} {oc_consists_of kV_consists_of dc_consists_of pm_consists_of cd_consists_of ct_consists_of : Value}
    (a_consists_of : PySem.W.nsIn K mainGlobals "consists_of" = some (some (.ref f_consists_of))) (l_consists_of : K.lookup f_consists_of = some ⟨oc_consists_of, od_consists_of, .func (PySem.W.fnOf "consists_of" "consists_of" (defArgs s_consists_of) (defBody s_consists_of) (defScope s_consists_of) .none kV_consists_of dc_consists_of pm_consists_of an_consists_of cd_consists_of ct_consists_of), sl_consists_of⟩) (c_consists_of : PySem.W.codeIn K cd_consists_of "consists_of" = true) (k_consists_of : PySem.W.keepIn K (.ref f_consists_of) = true)
    {f_tokens_of : Addr} {od_tokens_of an_tokens_of : Option Addr} {sl_tokens_of : Array (Option Value)} {oc_tokens_of kV_tokens_of dc_tokens_of pm_tokens_of cd_tokens_of ct_tokens_of : Value}
    (a_tokens_of : PySem.W.nsIn K mainGlobals "tokens_of" = some (some (.ref f_tokens_of))) (l_tokens_of : K.lookup f_tokens_of = some ⟨oc_tokens_of, od_tokens_of, .func (PySem.W.fnOf "tokens_of" "tokens_of" (defArgs s_tokens_of) (defBody s_tokens_of) (defScope s_tokens_of) .none kV_tokens_of dc_tokens_of pm_tokens_of an_tokens_of cd_tokens_of ct_tokens_of), sl_tokens_of⟩) (c_tokens_of : PySem.W.codeIn K cd_tokens_of "tokens_of" = true) (k_tokens_of : PySem.W.keepIn K (.ref f_tokens_of) = true)
    {f_token_end : Addr} {od_token_end an_token_end : Option Addr} {sl_token_end : Array (Option Value)} {oc_token_end kV_token_end dc_token_end pm_token_end cd_token_end ct_token_end : Value}
    (a_token_end : PySem.W.nsIn K mainGlobals "_token_end" = some (some (.ref f_token_end))) (l_token_end : K.lookup f_token_end = some ⟨oc_token_end, od_token_end, .func (PySem.W.fnOf "_token_end" "_token_end" (defArgs s_token_end) (defBody s_token_end) (defScope s_token_end) .none kV_token_end dc_token_end pm_token_end an_token_end cd_token_end ct_token_end), sl_token_end⟩) (c_token_end : PySem.W.codeIn K cd_token_end "_token_end" = true) (k_token_end : PySem.W.keepIn K (.ref f_token_end) = true)
    {f_run_end : Addr} {od_run_end an_run_end : Option Addr} {sl_run_end : Array (Option Value)} {oc_run_end kV_run_end dc_run_end pm_run_end cd_run_end ct_run_end : Value}
    (a_run_end : PySem.W.nsIn K mainGlobals "_run_end" = some (some (.ref f_run_end))) (l_run_end : K.lookup f_run_end = some ⟨oc_run_end, od_run_end, .func (PySem.W.fnOf "_run_end" "_run_end" (defArgs s_run_end) (defBody s_run_end) (defScope s_run_end) .none kV_run_end dc_run_end pm_run_end an_run_end cd_run_end ct_run_end), sl_run_end⟩) (c_run_end : PySem.W.codeIn K cd_run_end "_run_end" = true) (k_run_end : PySem.W.keepIn K (.ref f_run_end) = true)
    {f_read_tree : Addr} {od_read_tree an_read_tree : Option Addr} {sl_read_tree : Array (Option Value)} {oc_read_tree kV_read_tree dc_read_tree pm_read_tree cd_read_tree ct_read_tree : Value}
    (a_read_tree : PySem.W.nsIn K mainGlobals "read_tree" = some (some (.ref f_read_tree))) (l_read_tree : K.lookup f_read_tree = some ⟨oc_read_tree, od_read_tree, .func (PySem.W.fnOf "read_tree" "read_tree" (defArgs s_read_tree) (defBody s_read_tree) (defScope s_read_tree) .none kV_read_tree dc_read_tree pm_read_tree an_read_tree cd_read_tree ct_read_tree), sl_read_tree⟩) (c_read_tree : PySem.W.codeIn K cd_read_tree "read_tree" = true) (k_read_tree : PySem.W.keepIn K (.ref f_read_tree) = true)
    {f_fits : Addr} {od_fits an_fits : Option Addr} {sl_fits : Array (Option Value)} {oc_fits kV_fits dc_fits pm_fits cd_fits ct_fits : Value}
    (a_fits : PySem.W.nsIn K mainGlobals "_fits" = some (some (.ref f_fits))) (l_fits : K.lookup f_fits = some ⟨oc_fits, od_fits, .func (PySem.W.fnOf "_fits" "_fits" (defArgs s_fits) (defBody s_fits) (defScope s_fits) .none kV_fits dc_fits pm_fits an_fits cd_fits ct_fits), sl_fits⟩) (c_fits : PySem.W.codeIn K cd_fits "_fits" = true) (k_fits : PySem.W.keepIn K (.ref f_fits) = true)
    {f_take : Addr} {od_take an_take : Option Addr} {sl_take : Array (Option Value)} {oc_take kV_take dc_take pm_take cd_take ct_take : Value}
    (a_take : PySem.W.nsIn K mainGlobals "_take" = some (some (.ref f_take))) (l_take : K.lookup f_take = some ⟨oc_take, od_take, .func (PySem.W.fnOf "_take" "_take" (defArgs s_take) (defBody s_take) (defScope s_take) .none kV_take dc_take pm_take an_take cd_take ct_take), sl_take⟩) (c_take : PySem.W.codeIn K cd_take "_take" = true) (k_take : PySem.W.keepIn K (.ref f_take) = true)
    {f_tree_of : Addr} {od_tree_of an_tree_of : Option Addr} {sl_tree_of : Array (Option Value)} {oc_tree_of kV_tree_of dc_tree_of pm_tree_of cd_tree_of ct_tree_of : Value}
    (a_tree_of : PySem.W.nsIn K mainGlobals "_tree_of" = some (some (.ref f_tree_of))) (l_tree_of : K.lookup f_tree_of = some ⟨oc_tree_of, od_tree_of, .func (PySem.W.fnOf "_tree_of" "_tree_of" (defArgs s_tree_of) (defBody s_tree_of) (defScope s_tree_of) .none kV_tree_of dc_tree_of pm_tree_of an_tree_of cd_tree_of ct_tree_of), sl_tree_of⟩) (c_tree_of : PySem.W.codeIn K cd_tree_of "_tree_of" = true) (k_tree_of : PySem.W.keepIn K (.ref f_tree_of) = true)
    {f_node_of : Addr} {od_node_of an_node_of : Option Addr} {sl_node_of : Array (Option Value)} {oc_node_of kV_node_of dc_node_of pm_node_of cd_node_of ct_node_of : Value}
    (a_node_of : PySem.W.nsIn K mainGlobals "_node_of" = some (some (.ref f_node_of))) (l_node_of : K.lookup f_node_of = some ⟨oc_node_of, od_node_of, .func (PySem.W.fnOf "_node_of" "_node_of" (defArgs s_node_of) (defBody s_node_of) (defScope s_node_of) .none kV_node_of dc_node_of pm_node_of an_node_of cd_node_of ct_node_of), sl_node_of⟩) (c_node_of : PySem.W.codeIn K cd_node_of "_node_of" = true) (k_node_of : PySem.W.keepIn K (.ref f_node_of) = true)
    {f_law_begin : Addr} {od_law_begin an_law_begin : Option Addr} {sl_law_begin : Array (Option Value)} {oc_law_begin kV_law_begin dc_law_begin pm_law_begin cd_law_begin ct_law_begin : Value}
    (a_law_begin : PySem.W.nsIn K mainGlobals "_law_begin" = some (some (.ref f_law_begin))) (l_law_begin : K.lookup f_law_begin = some ⟨oc_law_begin, od_law_begin, .func (PySem.W.fnOf "_law_begin" "_law_begin" (defArgs s_law_begin) (defBody s_law_begin) (defScope s_law_begin) .none kV_law_begin dc_law_begin pm_law_begin an_law_begin cd_law_begin ct_law_begin), sl_law_begin⟩) (c_law_begin : PySem.W.codeIn K cd_law_begin "_law_begin" = true) (k_law_begin : PySem.W.keepIn K (.ref f_law_begin) = true)
    {f_law_draw : Addr} {od_law_draw an_law_draw : Option Addr} {sl_law_draw : Array (Option Value)} {oc_law_draw kV_law_draw dc_law_draw pm_law_draw cd_law_draw ct_law_draw : Value}
    (a_law_draw : PySem.W.nsIn K mainGlobals "_law_draw" = some (some (.ref f_law_draw))) (l_law_draw : K.lookup f_law_draw = some ⟨oc_law_draw, od_law_draw, .func (PySem.W.fnOf "_law_draw" "_law_draw" (defArgs s_law_draw) (defBody s_law_draw) (defScope s_law_draw) .none kV_law_draw dc_law_draw pm_law_draw an_law_draw cd_law_draw ct_law_draw), sl_law_draw⟩) (c_law_draw : PySem.W.codeIn K cd_law_draw "_law_draw" = true) (k_law_draw : PySem.W.keepIn K (.ref f_law_draw) = true)
    {f_law_pick : Addr} {od_law_pick an_law_pick : Option Addr} {sl_law_pick : Array (Option Value)} {oc_law_pick kV_law_pick dc_law_pick pm_law_pick cd_law_pick ct_law_pick : Value}
    (a_law_pick : PySem.W.nsIn K mainGlobals "_law_pick" = some (some (.ref f_law_pick))) (l_law_pick : K.lookup f_law_pick = some ⟨oc_law_pick, od_law_pick, .func (PySem.W.fnOf "_law_pick" "_law_pick" (defArgs s_law_pick) (defBody s_law_pick) (defScope s_law_pick) .none kV_law_pick dc_law_pick pm_law_pick an_law_pick cd_law_pick ct_law_pick), sl_law_pick⟩) (c_law_pick : PySem.W.codeIn K cd_law_pick "_law_pick" = true) (k_law_pick : PySem.W.keepIn K (.ref f_law_pick) = true)
    {f_law_rare : Addr} {od_law_rare an_law_rare : Option Addr} {sl_law_rare : Array (Option Value)} {oc_law_rare kV_law_rare dc_law_rare pm_law_rare cd_law_rare ct_law_rare : Value}
    (a_law_rare : PySem.W.nsIn K mainGlobals "_law_rare" = some (some (.ref f_law_rare))) (l_law_rare : K.lookup f_law_rare = some ⟨oc_law_rare, od_law_rare, .func (PySem.W.fnOf "_law_rare" "_law_rare" (defArgs s_law_rare) (defBody s_law_rare) (defScope s_law_rare) .none kV_law_rare dc_law_rare pm_law_rare an_law_rare cd_law_rare ct_law_rare), sl_law_rare⟩) (c_law_rare : PySem.W.codeIn K cd_law_rare "_law_rare" = true) (k_law_rare : PySem.W.keepIn K (.ref f_law_rare) = true)
    {f_law_word : Addr} {od_law_word an_law_word : Option Addr} {sl_law_word : Array (Option Value)} {oc_law_word kV_law_word dc_law_word pm_law_word cd_law_word ct_law_word : Value}
    (a_law_word : PySem.W.nsIn K mainGlobals "_law_word" = some (some (.ref f_law_word))) (l_law_word : K.lookup f_law_word = some ⟨oc_law_word, od_law_word, .func (PySem.W.fnOf "_law_word" "_law_word" (defArgs s_law_word) (defBody s_law_word) (defScope s_law_word) .none kV_law_word dc_law_word pm_law_word an_law_word cd_law_word ct_law_word), sl_law_word⟩) (c_law_word : PySem.W.codeIn K cd_law_word "_law_word" = true) (k_law_word : PySem.W.keepIn K (.ref f_law_word) = true)
    {f_law_exact : Addr} {od_law_exact an_law_exact : Option Addr} {sl_law_exact : Array (Option Value)} {oc_law_exact kV_law_exact dc_law_exact pm_law_exact cd_law_exact ct_law_exact : Value}
    (a_law_exact : PySem.W.nsIn K mainGlobals "_law_exact" = some (some (.ref f_law_exact))) (l_law_exact : K.lookup f_law_exact = some ⟨oc_law_exact, od_law_exact, .func (PySem.W.fnOf "_law_exact" "_law_exact" (defArgs s_law_exact) (defBody s_law_exact) (defScope s_law_exact) .none kV_law_exact dc_law_exact pm_law_exact an_law_exact cd_law_exact ct_law_exact), sl_law_exact⟩) (c_law_exact : PySem.W.codeIn K cd_law_exact "_law_exact" = true) (k_law_exact : PySem.W.keepIn K (.ref f_law_exact) = true)
    {f_law_told_error : Addr} {od_law_told_error an_law_told_error : Option Addr} {sl_law_told_error : Array (Option Value)} {oc_law_told_error kV_law_told_error dc_law_told_error pm_law_told_error cd_law_told_error ct_law_told_error : Value}
    (a_law_told_error : PySem.W.nsIn K mainGlobals "_law_told_error" = some (some (.ref f_law_told_error))) (l_law_told_error : K.lookup f_law_told_error = some ⟨oc_law_told_error, od_law_told_error, .func (PySem.W.fnOf "_law_told_error" "_law_told_error" (defArgs s_law_told_error) (defBody s_law_told_error) (defScope s_law_told_error) .none kV_law_told_error dc_law_told_error pm_law_told_error an_law_told_error cd_law_told_error ct_law_told_error), sl_law_told_error⟩) (c_law_told_error : PySem.W.codeIn K cd_law_told_error "_law_told_error" = true) (k_law_told_error : PySem.W.keepIn K (.ref f_law_told_error) = true)
    {f_law_word_signs : Addr} {od_law_word_signs an_law_word_signs : Option Addr} {sl_law_word_signs : Array (Option Value)} {oc_law_word_signs kV_law_word_signs dc_law_word_signs pm_law_word_signs cd_law_word_signs ct_law_word_signs : Value}
    (a_law_word_signs : PySem.W.nsIn K mainGlobals "_law_word_signs" = some (some (.ref f_law_word_signs))) (l_law_word_signs : K.lookup f_law_word_signs = some ⟨oc_law_word_signs, od_law_word_signs, .func (PySem.W.fnOf "_law_word_signs" "_law_word_signs" (defArgs s_law_word_signs) (defBody s_law_word_signs) (defScope s_law_word_signs) .none kV_law_word_signs dc_law_word_signs pm_law_word_signs an_law_word_signs cd_law_word_signs ct_law_word_signs), sl_law_word_signs⟩) (c_law_word_signs : PySem.W.codeIn K cd_law_word_signs "_law_word_signs" = true) (k_law_word_signs : PySem.W.keepIn K (.ref f_law_word_signs) = true)
    {f_law_run : Addr} {od_law_run an_law_run : Option Addr} {sl_law_run : Array (Option Value)} {oc_law_run kV_law_run dc_law_run pm_law_run cd_law_run ct_law_run : Value}
    (a_law_run : PySem.W.nsIn K mainGlobals "_law_run" = some (some (.ref f_law_run))) (l_law_run : K.lookup f_law_run = some ⟨oc_law_run, od_law_run, .func (PySem.W.fnOf "_law_run" "_law_run" (defArgs s_law_run) (defBody s_law_run) (defScope s_law_run) .none kV_law_run dc_law_run pm_law_run an_law_run cd_law_run ct_law_run), sl_law_run⟩) (c_law_run : PySem.W.codeIn K cd_law_run "_law_run" = true) (k_law_run : PySem.W.keepIn K (.ref f_law_run) = true)
    {f_law_some_word : Addr} {od_law_some_word an_law_some_word : Option Addr} {sl_law_some_word : Array (Option Value)} {oc_law_some_word kV_law_some_word dc_law_some_word pm_law_some_word cd_law_some_word ct_law_some_word : Value}
    (a_law_some_word : PySem.W.nsIn K mainGlobals "_law_some_word" = some (some (.ref f_law_some_word))) (l_law_some_word : K.lookup f_law_some_word = some ⟨oc_law_some_word, od_law_some_word, .func (PySem.W.fnOf "_law_some_word" "_law_some_word" (defArgs s_law_some_word) (defBody s_law_some_word) (defScope s_law_some_word) .none kV_law_some_word dc_law_some_word pm_law_some_word an_law_some_word cd_law_some_word ct_law_some_word), sl_law_some_word⟩) (c_law_some_word : PySem.W.codeIn K cd_law_some_word "_law_some_word" = true) (k_law_some_word : PySem.W.keepIn K (.ref f_law_some_word) = true)
    {f_law_some_name : Addr} {od_law_some_name an_law_some_name : Option Addr} {sl_law_some_name : Array (Option Value)} {oc_law_some_name kV_law_some_name dc_law_some_name pm_law_some_name cd_law_some_name ct_law_some_name : Value}
    (a_law_some_name : PySem.W.nsIn K mainGlobals "_law_some_name" = some (some (.ref f_law_some_name))) (l_law_some_name : K.lookup f_law_some_name = some ⟨oc_law_some_name, od_law_some_name, .func (PySem.W.fnOf "_law_some_name" "_law_some_name" (defArgs s_law_some_name) (defBody s_law_some_name) (defScope s_law_some_name) .none kV_law_some_name dc_law_some_name pm_law_some_name an_law_some_name cd_law_some_name ct_law_some_name), sl_law_some_name⟩) (c_law_some_name : PySem.W.codeIn K cd_law_some_name "_law_some_name" = true) (k_law_some_name : PySem.W.keepIn K (.ref f_law_some_name) = true)
    {f_law_runs_on : Addr} {od_law_runs_on an_law_runs_on : Option Addr} {sl_law_runs_on : Array (Option Value)} {oc_law_runs_on kV_law_runs_on dc_law_runs_on pm_law_runs_on cd_law_runs_on ct_law_runs_on : Value}
    (a_law_runs_on : PySem.W.nsIn K mainGlobals "_law_runs_on" = some (some (.ref f_law_runs_on))) (l_law_runs_on : K.lookup f_law_runs_on = some ⟨oc_law_runs_on, od_law_runs_on, .func (PySem.W.fnOf "_law_runs_on" "_law_runs_on" (defArgs s_law_runs_on) (defBody s_law_runs_on) (defScope s_law_runs_on) .none kV_law_runs_on dc_law_runs_on pm_law_runs_on an_law_runs_on cd_law_runs_on ct_law_runs_on), sl_law_runs_on⟩) (c_law_runs_on : PySem.W.codeIn K cd_law_runs_on "_law_runs_on" = true) (k_law_runs_on : PySem.W.keepIn K (.ref f_law_runs_on) = true)
    {f_law_gap : Addr} {od_law_gap an_law_gap : Option Addr} {sl_law_gap : Array (Option Value)} {oc_law_gap kV_law_gap dc_law_gap pm_law_gap cd_law_gap ct_law_gap : Value}
    (a_law_gap : PySem.W.nsIn K mainGlobals "_law_gap" = some (some (.ref f_law_gap))) (l_law_gap : K.lookup f_law_gap = some ⟨oc_law_gap, od_law_gap, .func (PySem.W.fnOf "_law_gap" "_law_gap" (defArgs s_law_gap) (defBody s_law_gap) (defScope s_law_gap) .none kV_law_gap dc_law_gap pm_law_gap an_law_gap cd_law_gap ct_law_gap), sl_law_gap⟩) (c_law_gap : PySem.W.codeIn K cd_law_gap "_law_gap" = true) (k_law_gap : PySem.W.keepIn K (.ref f_law_gap) = true)
    {f_law_parts : Addr} {od_law_parts an_law_parts : Option Addr} {sl_law_parts : Array (Option Value)} {oc_law_parts kV_law_parts dc_law_parts pm_law_parts cd_law_parts ct_law_parts : Value}
    (a_law_parts : PySem.W.nsIn K mainGlobals "_law_parts" = some (some (.ref f_law_parts))) (l_law_parts : K.lookup f_law_parts = some ⟨oc_law_parts, od_law_parts, .func (PySem.W.fnOf "_law_parts" "_law_parts" (defArgs s_law_parts) (defBody s_law_parts) (defScope s_law_parts) .none kV_law_parts dc_law_parts pm_law_parts an_law_parts cd_law_parts ct_law_parts), sl_law_parts⟩) (c_law_parts : PySem.W.codeIn K cd_law_parts "_law_parts" = true) (k_law_parts : PySem.W.keepIn K (.ref f_law_parts) = true)
    {f_law_token_walk : Addr} {od_law_token_walk an_law_token_walk : Option Addr} {sl_law_token_walk : Array (Option Value)} {oc_law_token_walk kV_law_token_walk dc_law_token_walk pm_law_token_walk cd_law_token_walk ct_law_token_walk : Value}
    (a_law_token_walk : PySem.W.nsIn K mainGlobals "_law_token_walk" = some (some (.ref f_law_token_walk))) (l_law_token_walk : K.lookup f_law_token_walk = some ⟨oc_law_token_walk, od_law_token_walk, .func (PySem.W.fnOf "_law_token_walk" "_law_token_walk" (defArgs s_law_token_walk) (defBody s_law_token_walk) (defScope s_law_token_walk) .none kV_law_token_walk dc_law_token_walk pm_law_token_walk an_law_token_walk cd_law_token_walk ct_law_token_walk), sl_law_token_walk⟩) (c_law_token_walk : PySem.W.codeIn K cd_law_token_walk "_law_token_walk" = true) (k_law_token_walk : PySem.W.keepIn K (.ref f_law_token_walk) = true)
    {f_law_odd_signs : Addr} {od_law_odd_signs an_law_odd_signs : Option Addr} {sl_law_odd_signs : Array (Option Value)} {oc_law_odd_signs kV_law_odd_signs dc_law_odd_signs pm_law_odd_signs cd_law_odd_signs ct_law_odd_signs : Value}
    (a_law_odd_signs : PySem.W.nsIn K mainGlobals "_law_odd_signs" = some (some (.ref f_law_odd_signs))) (l_law_odd_signs : K.lookup f_law_odd_signs = some ⟨oc_law_odd_signs, od_law_odd_signs, .func (PySem.W.fnOf "_law_odd_signs" "_law_odd_signs" (defArgs s_law_odd_signs) (defBody s_law_odd_signs) (defScope s_law_odd_signs) .none kV_law_odd_signs dc_law_odd_signs pm_law_odd_signs an_law_odd_signs cd_law_odd_signs ct_law_odd_signs), sl_law_odd_signs⟩) (c_law_odd_signs : PySem.W.codeIn K cd_law_odd_signs "_law_odd_signs" = true) (k_law_odd_signs : PySem.W.keepIn K (.ref f_law_odd_signs) = true)
    {f_law_odd_token : Addr} {od_law_odd_token an_law_odd_token : Option Addr} {sl_law_odd_token : Array (Option Value)} {oc_law_odd_token kV_law_odd_token dc_law_odd_token pm_law_odd_token cd_law_odd_token ct_law_odd_token : Value}
    (a_law_odd_token : PySem.W.nsIn K mainGlobals "_law_odd_token" = some (some (.ref f_law_odd_token))) (l_law_odd_token : K.lookup f_law_odd_token = some ⟨oc_law_odd_token, od_law_odd_token, .func (PySem.W.fnOf "_law_odd_token" "_law_odd_token" (defArgs s_law_odd_token) (defBody s_law_odd_token) (defScope s_law_odd_token) .none kV_law_odd_token dc_law_odd_token pm_law_odd_token an_law_odd_token cd_law_odd_token ct_law_odd_token), sl_law_odd_token⟩) (c_law_odd_token : PySem.W.codeIn K cd_law_odd_token "_law_odd_token" = true) (k_law_odd_token : PySem.W.keepIn K (.ref f_law_odd_token) = true)
    {f_law_spoilt : Addr} {od_law_spoilt an_law_spoilt : Option Addr} {sl_law_spoilt : Array (Option Value)} {oc_law_spoilt kV_law_spoilt dc_law_spoilt pm_law_spoilt cd_law_spoilt ct_law_spoilt : Value}
    (a_law_spoilt : PySem.W.nsIn K mainGlobals "_law_spoilt" = some (some (.ref f_law_spoilt))) (l_law_spoilt : K.lookup f_law_spoilt = some ⟨oc_law_spoilt, od_law_spoilt, .func (PySem.W.fnOf "_law_spoilt" "_law_spoilt" (defArgs s_law_spoilt) (defBody s_law_spoilt) (defScope s_law_spoilt) .none kV_law_spoilt dc_law_spoilt pm_law_spoilt an_law_spoilt cd_law_spoilt ct_law_spoilt), sl_law_spoilt⟩) (c_law_spoilt : PySem.W.codeIn K cd_law_spoilt "_law_spoilt" = true) (k_law_spoilt : PySem.W.keepIn K (.ref f_law_spoilt) = true)
    {f_law_first_bad : Addr} {od_law_first_bad an_law_first_bad : Option Addr} {sl_law_first_bad : Array (Option Value)} {oc_law_first_bad kV_law_first_bad dc_law_first_bad pm_law_first_bad cd_law_first_bad ct_law_first_bad : Value}
    (a_law_first_bad : PySem.W.nsIn K mainGlobals "_law_first_bad" = some (some (.ref f_law_first_bad))) (l_law_first_bad : K.lookup f_law_first_bad = some ⟨oc_law_first_bad, od_law_first_bad, .func (PySem.W.fnOf "_law_first_bad" "_law_first_bad" (defArgs s_law_first_bad) (defBody s_law_first_bad) (defScope s_law_first_bad) .none kV_law_first_bad dc_law_first_bad pm_law_first_bad an_law_first_bad cd_law_first_bad ct_law_first_bad), sl_law_first_bad⟩) (c_law_first_bad : PySem.W.codeIn K cd_law_first_bad "_law_first_bad" = true) (k_law_first_bad : PySem.W.keepIn K (.ref f_law_first_bad) = true)
    {f_law_tree_of : Addr} {od_law_tree_of an_law_tree_of : Option Addr} {sl_law_tree_of : Array (Option Value)} {oc_law_tree_of kV_law_tree_of dc_law_tree_of pm_law_tree_of cd_law_tree_of ct_law_tree_of : Value}
    (a_law_tree_of : PySem.W.nsIn K mainGlobals "_law_tree_of" = some (some (.ref f_law_tree_of))) (l_law_tree_of : K.lookup f_law_tree_of = some ⟨oc_law_tree_of, od_law_tree_of, .func (PySem.W.fnOf "_law_tree_of" "_law_tree_of" (defArgs s_law_tree_of) (defBody s_law_tree_of) (defScope s_law_tree_of) .none kV_law_tree_of dc_law_tree_of pm_law_tree_of an_law_tree_of cd_law_tree_of ct_law_tree_of), sl_law_tree_of⟩) (c_law_tree_of : PySem.W.codeIn K cd_law_tree_of "_law_tree_of" = true) (k_law_tree_of : PySem.W.keepIn K (.ref f_law_tree_of) = true)
    {f_law_reads : Addr} {od_law_reads an_law_reads : Option Addr} {sl_law_reads : Array (Option Value)} {oc_law_reads kV_law_reads dc_law_reads pm_law_reads cd_law_reads ct_law_reads : Value}
    (a_law_reads : PySem.W.nsIn K mainGlobals "_law_reads" = some (some (.ref f_law_reads))) (l_law_reads : K.lookup f_law_reads = some ⟨oc_law_reads, od_law_reads, .func (PySem.W.fnOf "_law_reads" "_law_reads" (defArgs s_law_reads) (defBody s_law_reads) (defScope s_law_reads) .none kV_law_reads dc_law_reads pm_law_reads an_law_reads cd_law_reads ct_law_reads), sl_law_reads⟩) (c_law_reads : PySem.W.codeIn K cd_law_reads "_law_reads" = true) (k_law_reads : PySem.W.keepIn K (.ref f_law_reads) = true)
    {f_law_cuts_read : Addr} {od_law_cuts_read an_law_cuts_read : Option Addr} {sl_law_cuts_read : Array (Option Value)} {oc_law_cuts_read kV_law_cuts_read dc_law_cuts_read pm_law_cuts_read cd_law_cuts_read ct_law_cuts_read : Value}
    (a_law_cuts_read : PySem.W.nsIn K mainGlobals "_law_cuts_read" = some (some (.ref f_law_cuts_read))) (l_law_cuts_read : K.lookup f_law_cuts_read = some ⟨oc_law_cuts_read, od_law_cuts_read, .func (PySem.W.fnOf "_law_cuts_read" "_law_cuts_read" (defArgs s_law_cuts_read) (defBody s_law_cuts_read) (defScope s_law_cuts_read) .none kV_law_cuts_read dc_law_cuts_read pm_law_cuts_read an_law_cuts_read cd_law_cuts_read ct_law_cuts_read), sl_law_cuts_read⟩) (c_law_cuts_read : PySem.W.codeIn K cd_law_cuts_read "_law_cuts_read" = true) (k_law_cuts_read : PySem.W.keepIn K (.ref f_law_cuts_read) = true)
    {f_law_short_reads : Addr} {od_law_short_reads an_law_short_reads : Option Addr} {sl_law_short_reads : Array (Option Value)} {oc_law_short_reads kV_law_short_reads dc_law_short_reads pm_law_short_reads cd_law_short_reads ct_law_short_reads : Value}
    (a_law_short_reads : PySem.W.nsIn K mainGlobals "_law_short_reads" = some (some (.ref f_law_short_reads))) (l_law_short_reads : K.lookup f_law_short_reads = some ⟨oc_law_short_reads, od_law_short_reads, .func (PySem.W.fnOf "_law_short_reads" "_law_short_reads" (defArgs s_law_short_reads) (defBody s_law_short_reads) (defScope s_law_short_reads) .none kV_law_short_reads dc_law_short_reads pm_law_short_reads an_law_short_reads cd_law_short_reads ct_law_short_reads), sl_law_short_reads⟩) (c_law_short_reads : PySem.W.codeIn K cd_law_short_reads "_law_short_reads" = true) (k_law_short_reads : PySem.W.keepIn K (.ref f_law_short_reads) = true)
    {f_law_tails_read : Addr} {od_law_tails_read an_law_tails_read : Option Addr} {sl_law_tails_read : Array (Option Value)} {oc_law_tails_read kV_law_tails_read dc_law_tails_read pm_law_tails_read cd_law_tails_read ct_law_tails_read : Value}
    (a_law_tails_read : PySem.W.nsIn K mainGlobals "_law_tails_read" = some (some (.ref f_law_tails_read))) (l_law_tails_read : K.lookup f_law_tails_read = some ⟨oc_law_tails_read, od_law_tails_read, .func (PySem.W.fnOf "_law_tails_read" "_law_tails_read" (defArgs s_law_tails_read) (defBody s_law_tails_read) (defScope s_law_tails_read) .none kV_law_tails_read dc_law_tails_read pm_law_tails_read an_law_tails_read cd_law_tails_read ct_law_tails_read), sl_law_tails_read⟩) (c_law_tails_read : PySem.W.codeIn K cd_law_tails_read "_law_tails_read" = true) (k_law_tails_read : PySem.W.keepIn K (.ref f_law_tails_read) = true)
    {f_law : Addr} {od_law an_law : Option Addr} {sl_law : Array (Option Value)} {oc_law kV_law dc_law pm_law cd_law ct_law : Value}
    (a_law : PySem.W.nsIn K mainGlobals "law" = some (some (.ref f_law))) (l_law : K.lookup f_law = some ⟨oc_law, od_law, .func (PySem.W.fnOf "law" "law" (defArgs s_law) (defBody s_law) (defScope s_law) .none kV_law dc_law pm_law an_law cd_law ct_law), sl_law⟩) (c_law : PySem.W.codeIn K cd_law "law" = true) (k_law : PySem.W.keepIn K (.ref f_law) = true)
    {t_LETTERS : Tok} (m_LETTERS : PySem.W.nsIn K mainGlobals "LETTERS" = some (some (.str "abcdefghijklmnopqrstuvwxyz" t_LETTERS)))
    {t_WORD_CHARACTERS : Tok} (m_WORD_CHARACTERS : PySem.W.nsIn K mainGlobals "WORD_CHARACTERS" = some (some (.str "abcdefghijklmnopqrstuvwxyz0123456789.,:;!?'()+=<>*/" t_WORD_CHARACTERS)))
    {t_BLANKS : Tok} (m_BLANKS : PySem.W.nsIn K mainGlobals "BLANKS" = some (some (.str " \n" t_BLANKS)))
    {t_LONGEST_WORD : Tok} (m_LONGEST_WORD : PySem.W.nsIn K mainGlobals "LONGEST_WORD" = some (some (.int 16 t_LONGEST_WORD)))
    {t_LONGEST_NAME : Tok} (m_LONGEST_NAME : PySem.W.nsIn K mainGlobals "LONGEST_NAME" = some (some (.int 8 t_LONGEST_NAME)))
    {t_MOST_OPEN : Tok} (m_MOST_OPEN : PySem.W.nsIn K mainGlobals "MOST_OPEN" = some (some (.int 12 t_MOST_OPEN)))
    (n_ValueError : PySem.W.nsIn K mainGlobals "ValueError" = some none)
    (n_bool : PySem.W.nsIn K mainGlobals "bool" = some none)
    (n_enumerate : PySem.W.nsIn K mainGlobals "enumerate" = some none)
    (n_int : PySem.W.nsIn K mainGlobals "int" = some none)
    (n_isinstance : PySem.W.nsIn K mainGlobals "isinstance" = some none)
    (n_len : PySem.W.nsIn K mainGlobals "len" = some none)
    (n_list : PySem.W.nsIn K mainGlobals "list" = some none)
    (n_range : PySem.W.nsIn K mainGlobals "range" = some none)
    (n_str : PySem.W.nsIn K mainGlobals "str" = some none)
    (n_tuple : PySem.W.nsIn K mainGlobals "tuple" = some none)
    {cc_PagesError : Addr} (g_PagesError : PySem.W.nsIn K mainGlobals "PagesError" = some (some (.ref cc_PagesError))) (ic_PagesError : PySem.W.isClsIn K cc_PagesError = true) (ty_PagesError : PySem.W.typeIn K (.ref cc_PagesError) = some (.type "type"))
    {cc_RecordError : Addr} (g_RecordError : PySem.W.nsIn K mainGlobals "RecordError" = some (some (.ref cc_RecordError))) (ic_RecordError : PySem.W.isClsIn K cc_RecordError = true) (ty_RecordError : PySem.W.typeIn K (.ref cc_RecordError) = some (.type "type"))
    {cc_LimitError : Addr} (g_LimitError : PySem.W.nsIn K mainGlobals "LimitError" = some (some (.ref cc_LimitError))) (ic_LimitError : PySem.W.isClsIn K cc_LimitError = true) (ty_LimitError : PySem.W.typeIn K (.ref cc_LimitError) = some (.type "type"))
    {cc_GivenError : Addr} (g_GivenError : PySem.W.nsIn K mainGlobals "GivenError" = some (some (.ref cc_GivenError))) (ic_GivenError : PySem.W.isClsIn K cc_GivenError = true) (ty_GivenError : PySem.W.typeIn K (.ref cc_GivenError) = some (.type "type"))
    {cc_BadText : Addr} (g_BadText : PySem.W.nsIn K mainGlobals "BadText" = some (some (.ref cc_BadText))) (ic_BadText : PySem.W.isClsIn K cc_BadText = true) (ty_BadText : PySem.W.typeIn K (.ref cc_BadText) = some (.type "type"))
    {cc_BadCall : Addr} (g_BadCall : PySem.W.nsIn K mainGlobals "BadCall" = some (some (.ref cc_BadCall))) (ic_BadCall : PySem.W.isClsIn K cc_BadCall = true) (ty_BadCall : PySem.W.typeIn K (.ref cc_BadCall) = some (.type "type"))
    {cc_Misplaced : Addr} (g_Misplaced : PySem.W.nsIn K mainGlobals "Misplaced" = some (some (.ref cc_Misplaced))) (ic_Misplaced : PySem.W.isClsIn K cc_Misplaced = true) (ty_Misplaced : PySem.W.typeIn K (.ref cc_Misplaced) = some (.type "type"))
    {cc_Unknown : Addr} (g_Unknown : PySem.W.nsIn K mainGlobals "Unknown" = some (some (.ref cc_Unknown))) (ic_Unknown : PySem.W.isClsIn K cc_Unknown = true) (ty_Unknown : PySem.W.typeIn K (.ref cc_Unknown) = some (.type "type"))
    {cc_Twice : Addr} (g_Twice : PySem.W.nsIn K mainGlobals "Twice" = some (some (.ref cc_Twice))) (ic_Twice : PySem.W.isClsIn K cc_Twice = true) (ty_Twice : PySem.W.typeIn K (.ref cc_Twice) = some (.type "type"))
    {cc_TooLong : Addr} (g_TooLong : PySem.W.nsIn K mainGlobals "TooLong" = some (some (.ref cc_TooLong))) (ic_TooLong : PySem.W.isClsIn K cc_TooLong = true) (ty_TooLong : PySem.W.typeIn K (.ref cc_TooLong) = some (.type "type"))
    {cc_TooLarge : Addr} (g_TooLarge : PySem.W.nsIn K mainGlobals "TooLarge" = some (some (.ref cc_TooLarge))) (ic_TooLarge : PySem.W.isClsIn K cc_TooLarge = true) (ty_TooLarge : PySem.W.typeIn K (.ref cc_TooLarge) = some (.type "type"))
    {cc_TooMany : Addr} (g_TooMany : PySem.W.nsIn K mainGlobals "TooMany" = some (some (.ref cc_TooMany))) (ic_TooMany : PySem.W.isClsIn K cc_TooMany = true) (ty_TooMany : PySem.W.typeIn K (.ref cc_TooMany) = some (.type "type"))
    {cc_TooWide : Addr} (g_TooWide : PySem.W.nsIn K mainGlobals "TooWide" = some (some (.ref cc_TooWide))) (ic_TooWide : PySem.W.isClsIn K cc_TooWide = true) (ty_TooWide : PySem.W.typeIn K (.ref cc_TooWide) = some (.type "type"))
    {cc_TooTall : Addr} (g_TooTall : PySem.W.nsIn K mainGlobals "TooTall" = some (some (.ref cc_TooTall))) (ic_TooTall : PySem.W.isClsIn K cc_TooTall = true) (ty_TooTall : PySem.W.typeIn K (.ref cc_TooTall) = some (.type "type"))
    {cc_BadStyle : Addr} (g_BadStyle : PySem.W.nsIn K mainGlobals "BadStyle" = some (some (.ref cc_BadStyle))) (ic_BadStyle : PySem.W.isClsIn K cc_BadStyle = true) (ty_BadStyle : PySem.W.typeIn K (.ref cc_BadStyle) = some (.type "type"))
    {cc_BadSecret : Addr} (g_BadSecret : PySem.W.nsIn K mainGlobals "BadSecret" = some (some (.ref cc_BadSecret))) (ic_BadSecret : PySem.W.isClsIn K cc_BadSecret = true) (ty_BadSecret : PySem.W.typeIn K (.ref cc_BadSecret) = some (.type "type"))
    {cc_BadEnding : Addr} (g_BadEnding : PySem.W.nsIn K mainGlobals "BadEnding" = some (some (.ref cc_BadEnding))) (ic_BadEnding : PySem.W.isClsIn K cc_BadEnding = true) (ty_BadEnding : PySem.W.typeIn K (.ref cc_BadEnding) = some (.type "type"))
    {cc_NoStem : Addr} (g_NoStem : PySem.W.nsIn K mainGlobals "NoStem" = some (some (.ref cc_NoStem))) (ic_NoStem : PySem.W.isClsIn K cc_NoStem = true) (ty_NoStem : PySem.W.typeIn K (.ref cc_NoStem) = some (.type "type"))
    {cc_Untrue : Addr} (g_Untrue : PySem.W.nsIn K mainGlobals "Untrue" = some (some (.ref cc_Untrue))) (ic_Untrue : PySem.W.isClsIn K cc_Untrue = true) (ty_Untrue : PySem.W.typeIn K (.ref cc_Untrue) = some (.type "type"))
    {cc_BadFile : Addr} (g_BadFile : PySem.W.nsIn K mainGlobals "BadFile" = some (some (.ref cc_BadFile))) (ic_BadFile : PySem.W.isClsIn K cc_BadFile = true) (ty_BadFile : PySem.W.typeIn K (.ref cc_BadFile) = some (.type "type"))
    {cc_BadStep : Addr} (g_BadStep : PySem.W.nsIn K mainGlobals "BadStep" = some (some (.ref cc_BadStep))) (ic_BadStep : PySem.W.isClsIn K cc_BadStep = true) (ty_BadStep : PySem.W.typeIn K (.ref cc_BadStep) = some (.type "type"))
    (bx_PagesError : PySem.W.subIn K (.ref cc_PagesError) (.type "BaseException") = some true)
    (o_hn : PySem.W.specialIn K (.builtin "object.__class__") "__get__" = some (some (.builtin "getset_descriptor.__get__"))) (o_ht : PySem.W.takesIn K (.builtin "object.__class__") = some true)
    {nm_BadText q_BadText : Str} {N_BadText : Addr} {bs_BadText bm_BadText : List Value} {sn_BadText : List Str} {sub_BadText : List Value} {ab_BadText : Bool} {col_BadText : Option Bool} {dd_BadText : Option Addr} {k0_BadText k1_BadText k2_BadText k3_BadText k5_BadText : Option Value}
    (xL_BadText : K.lookup cc_BadText = some (excClassObj nm_BadText q_BadText cc_BadText N_BadText bs_BadText bm_BadText true sn_BadText sub_BadText ab_BadText col_BadText dd_BadText k0_BadText k1_BadText k2_BadText k3_BadText k5_BadText "ValueError.__new__"))
    (rv_BadText : PySem.HandSPX.refsVE bm_BadText = true)
    (sa_BadText : PySem.W.findIn K (.ref cc_BadText) "__setattr__" = some (some (.builtin "object.__setattr__")))
    (ga_BadText : PySem.W.findIn K (.ref cc_BadText) "__getattribute__" = some (some (.builtin "BaseException.__getattribute__")))
    (gg_BadText : PySem.W.findIn K (.ref cc_BadText) "__getattr__" = some none)
    (ex_BadText : PySem.W.subIn K (.ref cc_BadText) (.type "BaseException") = some true)
    (kp_BadText : PySem.W.keepIn K (.ref cc_BadText) = true)
    (hd_BadText : PySem.W.hasDictIn K cc_BadText = true)
    (ha_BadText : PySem.W.findIn K (.ref cc_BadText) "__class__" = some (some (.builtin "object.__class__")))
    (hm_BadText : PySem.W.mroIn K cc_BadText (.type "object") = some true)
    (vs_BadText : PySem.W.subIn K (.ref cc_BadText) (.type "ValueError") = some true)
    (no_BadText_at : PySem.W.findIn K (.ref cc_BadText) "at" = some none)
    (sb_BadText_PagesError : PySem.W.subIn K (.ref cc_BadText) (.ref cc_PagesError) = some true)
    (sb_BadText_RecordError : PySem.W.subIn K (.ref cc_BadText) (.ref cc_RecordError) = some true)
    (sb_BadText_LimitError : PySem.W.subIn K (.ref cc_BadText) (.ref cc_LimitError) = some false)
    (sb_BadText_GivenError : PySem.W.subIn K (.ref cc_BadText) (.ref cc_GivenError) = some false)
    (sb_BadText_BadText : PySem.W.subIn K (.ref cc_BadText) (.ref cc_BadText) = some true)
    (sb_BadText_BadCall : PySem.W.subIn K (.ref cc_BadText) (.ref cc_BadCall) = some false)
    (sb_BadText_Misplaced : PySem.W.subIn K (.ref cc_BadText) (.ref cc_Misplaced) = some false)
    (sb_BadText_Unknown : PySem.W.subIn K (.ref cc_BadText) (.ref cc_Unknown) = some false)
    (sb_BadText_Twice : PySem.W.subIn K (.ref cc_BadText) (.ref cc_Twice) = some false)
    (sb_BadText_TooLong : PySem.W.subIn K (.ref cc_BadText) (.ref cc_TooLong) = some false)
    (sb_BadText_TooLarge : PySem.W.subIn K (.ref cc_BadText) (.ref cc_TooLarge) = some false)
    (sb_BadText_TooMany : PySem.W.subIn K (.ref cc_BadText) (.ref cc_TooMany) = some false)
    (sb_BadText_TooWide : PySem.W.subIn K (.ref cc_BadText) (.ref cc_TooWide) = some false)
    (sb_BadText_TooTall : PySem.W.subIn K (.ref cc_BadText) (.ref cc_TooTall) = some false)
    (sb_BadText_BadStyle : PySem.W.subIn K (.ref cc_BadText) (.ref cc_BadStyle) = some false)
    (sb_BadText_BadSecret : PySem.W.subIn K (.ref cc_BadText) (.ref cc_BadSecret) = some false)
    (sb_BadText_BadEnding : PySem.W.subIn K (.ref cc_BadText) (.ref cc_BadEnding) = some false)
    (sb_BadText_NoStem : PySem.W.subIn K (.ref cc_BadText) (.ref cc_NoStem) = some false)
    (sb_BadText_Untrue : PySem.W.subIn K (.ref cc_BadText) (.ref cc_Untrue) = some false)
    (sb_BadText_BadFile : PySem.W.subIn K (.ref cc_BadText) (.ref cc_BadFile) = some false)
    (sb_BadText_BadStep : PySem.W.subIn K (.ref cc_BadText) (.ref cc_BadStep) = some false)
    {fi_BadText : Addr} {odi_BadText ani_BadText : Option Addr} {sli_BadText : Array (Option Value)} {oci_BadText kVi_BadText dci_BadText pmi_BadText cdi_BadText cti_BadText : Value}
    (ii_BadText : PySem.W.findIn K (.ref cc_BadText) "__init__" = some (some (.ref fi_BadText))) (ti_BadText : PySem.W.typeIn K (.ref fi_BadText) = some (.type "function")) (li_BadText : K.lookup fi_BadText = some ⟨oci_BadText, odi_BadText, .func (PySem.W.fnOf "__init__" "BadText.__init__" (defArgs s_BadText_init) (defBody s_BadText_init) (defScope s_BadText_init) .none kVi_BadText dci_BadText pmi_BadText ani_BadText cdi_BadText cti_BadText), sli_BadText⟩) (ci_BadText : PySem.W.codeIn K cdi_BadText "BadText.__init__" = true) (ki_BadText : PySem.W.keepIn K (.ref fi_BadText) = true)
    : ∃ fd : FuncData, (∀ (s : Shared) (v : Value), BindsTo s fd ⟨[v], []⟩ [("_law_script", v)]) ∧ ∀ base : Heap, K.In base → base.Ns mainGlobals mg → FnOk l.prog w K mg base CX0 45 fa fd ["_law_script"] (spLaw K) := by
  have e := hfa.symm.trans (PySem.W.mg_of X G a_law)
  cases e
  have F_is_word := fun_mk (st := s_is_word) l_is_word c_is_word k_is_word
  have b_is_word := F_is_word.binds (ps := ["run"]) fun _ _ _ _ _ _ us hl => match us, hl with | [_], _ => rfl
  have F_is_name := fun_mk (st := s_is_name) l_is_name c_is_name k_is_name
  have b_is_name := F_is_name.binds (ps := ["run"]) fun _ _ _ _ _ _ us hl => match us, hl with | [_], _ => rfl
  have F_consists_of := fun_mk (st := s_consists_of) l_consists_of c_consists_of k_consists_of
  have b_consists_of := F_consists_of.binds (ps := ["run", "allowed"]) fun _ _ _ _ _ _ us hl => match us, hl with | [_, _], _ => rfl
  have F_tokens_of := fun_mk (st := s_tokens_of) l_tokens_of c_tokens_of k_tokens_of
  have b_tokens_of := F_tokens_of.binds (ps := ["text"]) fun _ _ _ _ _ _ us hl => match us, hl with | [_], _ => rfl
  have F_token_end := fun_mk (st := s_token_end) l_token_end c_token_end k_token_end
  have b_token_end := F_token_end.binds (ps := ["text", "at"]) fun _ _ _ _ _ _ us hl => match us, hl with | [_, _], _ => rfl
  have F_run_end := fun_mk (st := s_run_end) l_run_end c_run_end k_run_end
  have b_run_end := F_run_end.binds (ps := ["text", "at", "allowed"]) fun _ _ _ _ _ _ us hl => match us, hl with | [_, _, _], _ => rfl
  have F_read_tree := fun_mk (st := s_read_tree) l_read_tree c_read_tree k_read_tree
  have b_read_tree := F_read_tree.binds (ps := ["text"]) fun _ _ _ _ _ _ us hl => match us, hl with | [_], _ => rfl
  have F_fits := fun_mk (st := s_fits) l_fits c_fits k_fits
  have b_fits := F_fits.binds (ps := ["token", "many", "behind_call"]) fun _ _ _ _ _ _ us hl => match us, hl with | [_, _, _], _ => rfl
  have F_take := fun_mk (st := s_take) l_take c_take k_take
  have b_take := F_take.binds (ps := ["token", "levels"]) fun _ _ _ _ _ _ us hl => match us, hl with | [_, _], _ => rfl
  have F_tree_of := fun_mk (st := s_tree_of) l_tree_of c_tree_of k_tree_of
  have b_tree_of := F_tree_of.binds (ps := ["nodes"]) fun _ _ _ _ _ _ us hl => match us, hl with | [_], _ => rfl
  have F_node_of := fun_mk (st := s_node_of) l_node_of c_node_of k_node_of
  have b_node_of := F_node_of.binds (ps := ["node"]) fun _ _ _ _ _ _ us hl => match us, hl with | [_], _ => rfl
  have F_law_begin := fun_mk (st := s_law_begin) l_law_begin c_law_begin k_law_begin
  have b_law_begin := F_law_begin.binds (ps := ["_law_script"]) fun _ _ _ _ _ _ us hl => match us, hl with | [_], _ => rfl
  have F_law_draw := fun_mk (st := s_law_draw) l_law_draw c_law_draw k_law_draw
  have b_law_draw := F_law_draw.binds (ps := ["_law_d", "_law_many"]) fun _ _ _ _ _ _ us hl => match us, hl with | [_, _], _ => rfl
  have F_law_pick := fun_mk (st := s_law_pick) l_law_pick c_law_pick k_law_pick
  have b_law_pick := F_law_pick.binds (ps := ["_law_d", "_law_row"]) fun _ _ _ _ _ _ us hl => match us, hl with | [_, _], _ => rfl
  have F_law_rare := fun_mk (st := s_law_rare) l_law_rare c_law_rare k_law_rare
  have b_law_rare := F_law_rare.binds (ps := ["_law_d", "_law_many"]) fun _ _ _ _ _ _ us hl => match us, hl with | [_, _], _ => rfl
  have F_law_word := fun_mk (st := s_law_word) l_law_word c_law_word k_law_word
  have b_law_word := F_law_word.binds (ps := ["_law_d", "_law_low", "_law_high"]) fun _ _ _ _ _ _ us hl => match us, hl with | [_, _, _], _ => rfl
  have F_law_exact := fun_mk (st := s_law_exact) l_law_exact c_law_exact k_law_exact
  have b_law_exact := F_law_exact.binds (ps := ["_law_told", "_law_due"]) fun _ _ _ _ _ _ us hl => match us, hl with | [_, _], _ => rfl
  have F_law_told_error := fun_mk (st := s_law_told_error) l_law_told_error c_law_told_error k_law_told_error
  have b_law_told_error := F_law_told_error.binds (ps := ["_law_e"]) fun _ _ _ _ _ _ us hl => match us, hl with | [_], _ => rfl
  have F_law_word_signs := fun_mk (st := s_law_word_signs) l_law_word_signs c_law_word_signs k_law_word_signs
  have b_law_word_signs := F_law_word_signs.binds (ps := []) fun _ _ _ _ _ _ us hl => match us, hl with | [], _ => rfl
  have F_law_run := fun_mk (st := s_law_run) l_law_run c_law_run k_law_run
  have b_law_run := F_law_run.binds (ps := ["_law_d", "_law_signs", "_law_size"]) fun _ _ _ _ _ _ us hl => match us, hl with | [_, _, _], _ => rfl
  have F_law_some_word := fun_mk (st := s_law_some_word) l_law_some_word c_law_some_word k_law_some_word
  have b_law_some_word := F_law_some_word.binds (ps := ["_law_d"]) fun _ _ _ _ _ _ us hl => match us, hl with | [_], _ => rfl
  have F_law_some_name := fun_mk (st := s_law_some_name) l_law_some_name c_law_some_name k_law_some_name
  have b_law_some_name := F_law_some_name.binds (ps := ["_law_d"]) fun _ _ _ _ _ _ us hl => match us, hl with | [_], _ => rfl
  have F_law_runs_on := fun_mk (st := s_law_runs_on) l_law_runs_on c_law_runs_on k_law_runs_on
  have b_law_runs_on := F_law_runs_on.binds (ps := ["_law_one", "_law_two"]) fun _ _ _ _ _ _ us hl => match us, hl with | [_, _], _ => rfl
  have F_law_gap := fun_mk (st := s_law_gap) l_law_gap c_law_gap k_law_gap
  have b_law_gap := F_law_gap.binds (ps := ["_law_d", "_law_needed"]) fun _ _ _ _ _ _ us hl => match us, hl with | [_, _], _ => rfl
  have F_law_parts := fun_mk (st := s_law_parts) l_law_parts c_law_parts k_law_parts
  have b_law_parts := F_law_parts.binds (ps := ["_law_d", "_law_tokens"]) fun _ _ _ _ _ _ us hl => match us, hl with | [_, _], _ => rfl
  have F_law_token_walk := fun_mk (st := s_law_token_walk) l_law_token_walk c_law_token_walk k_law_token_walk
  have b_law_token_walk := F_law_token_walk.binds (ps := ["_law_d", "_law_many", "_law_most"]) fun _ _ _ _ _ _ us hl => match us, hl with | [_, _, _], _ => rfl
  have F_law_odd_signs := fun_mk (st := s_law_odd_signs) l_law_odd_signs c_law_odd_signs k_law_odd_signs
  have b_law_odd_signs := F_law_odd_signs.binds (ps := []) fun _ _ _ _ _ _ us hl => match us, hl with | [], _ => rfl
  have F_law_odd_token := fun_mk (st := s_law_odd_token) l_law_odd_token c_law_odd_token k_law_odd_token
  have b_law_odd_token := F_law_odd_token.binds (ps := ["_law_d"]) fun _ _ _ _ _ _ us hl => match us, hl with | [_], _ => rfl
  have F_law_spoilt := fun_mk (st := s_law_spoilt) l_law_spoilt c_law_spoilt k_law_spoilt
  have b_law_spoilt := F_law_spoilt.binds (ps := ["_law_d", "_law_tokens"]) fun _ _ _ _ _ _ us hl => match us, hl with | [_, _], _ => rfl
  have F_law_first_bad := fun_mk (st := s_law_first_bad) l_law_first_bad c_law_first_bad k_law_first_bad
  have b_law_first_bad := F_law_first_bad.binds (ps := ["_law_tokens", "_law_most"]) fun _ _ _ _ _ _ us hl => match us, hl with | [_, _], _ => rfl
  have F_law_tree_of := fun_mk (st := s_law_tree_of) l_law_tree_of c_law_tree_of k_law_tree_of
  have b_law_tree_of := F_law_tree_of.binds (ps := ["_law_tokens"]) fun _ _ _ _ _ _ us hl => match us, hl with | [_], _ => rfl
  have F_law_reads := fun_mk (st := s_law_reads) l_law_reads c_law_reads k_law_reads
  have b_law_reads := F_law_reads.binds (ps := ["_law_text", "_law_tokens"]) fun _ _ _ _ _ _ us hl => match us, hl with | [_, _], _ => rfl
  have F_law_cuts_read := fun_mk (st := s_law_cuts_read) l_law_cuts_read c_law_cuts_read k_law_cuts_read
  have b_law_cuts_read := F_law_cuts_read.binds (ps := ["_law_parts_here", "_law_tokens", "_law_bad"]) fun _ _ _ _ _ _ us hl => match us, hl with | [_, _, _], _ => rfl
  have F_law_short_reads := fun_mk (st := s_law_short_reads) l_law_short_reads c_law_short_reads k_law_short_reads
  have b_law_short_reads := F_law_short_reads.binds (ps := ["_law_parts_here", "_law_tokens", "_law_at"]) fun _ _ _ _ _ _ us hl => match us, hl with | [_, _, _], _ => rfl
  have F_law_tails_read := fun_mk (st := s_law_tails_read) l_law_tails_read c_law_tails_read k_law_tails_read
  have b_law_tails_read := F_law_tails_read.binds (ps := ["_law_d", "_law_parts_here", "_law_tokens", "_law_bad"]) fun _ _ _ _ _ _ us hl => match us, hl with | [_, _, _, _], _ => rfl
  have F_law := fun_mk (st := s_law) l_law c_law k_law
  have b_law := F_law.binds (ps := ["_law_script"]) fun _ _ _ _ _ _ us hl => match us, hl with | [_], _ => rfl
  have Fi_BadText := fun_mk (st := s_BadText_init) li_BadText ci_BadText ki_BadText
  have bi_BadText := Fi_BadText.binds (ps := ["self", "at"]) fun _ _ _ _ _ _ us hl => match us, hl with | [_, _], _ => rfl
  exact ⟨PySem.W.fnOf "law" "law" (defArgs s_law) (defBody s_law) (defScope s_law) .none kV_law dc_law pm_law an_law cd_law ct_law, fun s v => .of_eq rfl, fun base _ _ => ok_law (T := {
    a_is_word := _,
    d_is_word := _,
    D_is_word := ⟨F_is_word, PySem.W.mg_of X G a_is_word, b_is_word, ⟨_, _, _, _, _, _, rfl⟩⟩,
    a_is_name := _,
    d_is_name := _,
    D_is_name := ⟨F_is_name, PySem.W.mg_of X G a_is_name, b_is_name, ⟨_, _, _, _, _, _, rfl⟩⟩,
    a_consists_of := _,
    d_consists_of := _,
    D_consists_of := ⟨F_consists_of, PySem.W.mg_of X G a_consists_of, b_consists_of, ⟨_, _, _, _, _, _, rfl⟩⟩,
    a_tokens_of := _,
    d_tokens_of := _,
    D_tokens_of := ⟨F_tokens_of, PySem.W.mg_of X G a_tokens_of, b_tokens_of, ⟨_, _, _, _, _, _, rfl⟩⟩,
    a_token_end := _,
    d_token_end := _,
    D_token_end := ⟨F_token_end, PySem.W.mg_of X G a_token_end, b_token_end, ⟨_, _, _, _, _, _, rfl⟩⟩,
    a_run_end := _,
    d_run_end := _,
    D_run_end := ⟨F_run_end, PySem.W.mg_of X G a_run_end, b_run_end, ⟨_, _, _, _, _, _, rfl⟩⟩,
    a_read_tree := _,
    d_read_tree := _,
    D_read_tree := ⟨F_read_tree, PySem.W.mg_of X G a_read_tree, b_read_tree, ⟨_, _, _, _, _, _, rfl⟩⟩,
    a_fits := _,
    d_fits := _,
    D_fits := ⟨F_fits, PySem.W.mg_of X G a_fits, b_fits, ⟨_, _, _, _, _, _, rfl⟩⟩,
    a_take := _,
    d_take := _,
    D_take := ⟨F_take, PySem.W.mg_of X G a_take, b_take, ⟨_, _, _, _, _, _, rfl⟩⟩,
    a_tree_of := _,
    d_tree_of := _,
    D_tree_of := ⟨F_tree_of, PySem.W.mg_of X G a_tree_of, b_tree_of, ⟨_, _, _, _, _, _, rfl⟩⟩,
    a_node_of := _,
    d_node_of := _,
    D_node_of := ⟨F_node_of, PySem.W.mg_of X G a_node_of, b_node_of, ⟨_, _, _, _, _, _, rfl⟩⟩,
    a_law_begin := _,
    d_law_begin := _,
    D_law_begin := ⟨F_law_begin, PySem.W.mg_of X G a_law_begin, b_law_begin, ⟨_, _, _, _, _, _, rfl⟩⟩,
    a_law_draw := _,
    d_law_draw := _,
    D_law_draw := ⟨F_law_draw, PySem.W.mg_of X G a_law_draw, b_law_draw, ⟨_, _, _, _, _, _, rfl⟩⟩,
    a_law_pick := _,
    d_law_pick := _,
    D_law_pick := ⟨F_law_pick, PySem.W.mg_of X G a_law_pick, b_law_pick, ⟨_, _, _, _, _, _, rfl⟩⟩,
    a_law_rare := _,
    d_law_rare := _,
    D_law_rare := ⟨F_law_rare, PySem.W.mg_of X G a_law_rare, b_law_rare, ⟨_, _, _, _, _, _, rfl⟩⟩,
    a_law_word := _,
    d_law_word := _,
    D_law_word := ⟨F_law_word, PySem.W.mg_of X G a_law_word, b_law_word, ⟨_, _, _, _, _, _, rfl⟩⟩,
    a_law_exact := _,
    d_law_exact := _,
    D_law_exact := ⟨F_law_exact, PySem.W.mg_of X G a_law_exact, b_law_exact, ⟨_, _, _, _, _, _, rfl⟩⟩,
    a_law_told_error := _,
    d_law_told_error := _,
    D_law_told_error := ⟨F_law_told_error, PySem.W.mg_of X G a_law_told_error, b_law_told_error, ⟨_, _, _, _, _, _, rfl⟩⟩,
    a_law_word_signs := _,
    d_law_word_signs := _,
    D_law_word_signs := ⟨F_law_word_signs, PySem.W.mg_of X G a_law_word_signs, b_law_word_signs, ⟨_, _, _, _, _, _, rfl⟩⟩,
    a_law_run := _,
    d_law_run := _,
    D_law_run := ⟨F_law_run, PySem.W.mg_of X G a_law_run, b_law_run, ⟨_, _, _, _, _, _, rfl⟩⟩,
    a_law_some_word := _,
    d_law_some_word := _,
    D_law_some_word := ⟨F_law_some_word, PySem.W.mg_of X G a_law_some_word, b_law_some_word, ⟨_, _, _, _, _, _, rfl⟩⟩,
    a_law_some_name := _,
    d_law_some_name := _,
    D_law_some_name := ⟨F_law_some_name, PySem.W.mg_of X G a_law_some_name, b_law_some_name, ⟨_, _, _, _, _, _, rfl⟩⟩,
    a_law_runs_on := _,
    d_law_runs_on := _,
    D_law_runs_on := ⟨F_law_runs_on, PySem.W.mg_of X G a_law_runs_on, b_law_runs_on, ⟨_, _, _, _, _, _, rfl⟩⟩,
    a_law_gap := _,
    d_law_gap := _,
    D_law_gap := ⟨F_law_gap, PySem.W.mg_of X G a_law_gap, b_law_gap, ⟨_, _, _, _, _, _, rfl⟩⟩,
    a_law_parts := _,
    d_law_parts := _,
    D_law_parts := ⟨F_law_parts, PySem.W.mg_of X G a_law_parts, b_law_parts, ⟨_, _, _, _, _, _, rfl⟩⟩,
    a_law_token_walk := _,
    d_law_token_walk := _,
    D_law_token_walk := ⟨F_law_token_walk, PySem.W.mg_of X G a_law_token_walk, b_law_token_walk, ⟨_, _, _, _, _, _, rfl⟩⟩,
    a_law_odd_signs := _,
    d_law_odd_signs := _,
    D_law_odd_signs := ⟨F_law_odd_signs, PySem.W.mg_of X G a_law_odd_signs, b_law_odd_signs, ⟨_, _, _, _, _, _, rfl⟩⟩,
    a_law_odd_token := _,
    d_law_odd_token := _,
    D_law_odd_token := ⟨F_law_odd_token, PySem.W.mg_of X G a_law_odd_token, b_law_odd_token, ⟨_, _, _, _, _, _, rfl⟩⟩,
    a_law_spoilt := _,
    d_law_spoilt := _,
    D_law_spoilt := ⟨F_law_spoilt, PySem.W.mg_of X G a_law_spoilt, b_law_spoilt, ⟨_, _, _, _, _, _, rfl⟩⟩,
    a_law_first_bad := _,
    d_law_first_bad := _,
    D_law_first_bad := ⟨F_law_first_bad, PySem.W.mg_of X G a_law_first_bad, b_law_first_bad, ⟨_, _, _, _, _, _, rfl⟩⟩,
    a_law_tree_of := _,
    d_law_tree_of := _,
    D_law_tree_of := ⟨F_law_tree_of, PySem.W.mg_of X G a_law_tree_of, b_law_tree_of, ⟨_, _, _, _, _, _, rfl⟩⟩,
    a_law_reads := _,
    d_law_reads := _,
    D_law_reads := ⟨F_law_reads, PySem.W.mg_of X G a_law_reads, b_law_reads, ⟨_, _, _, _, _, _, rfl⟩⟩,
    a_law_cuts_read := _,
    d_law_cuts_read := _,
    D_law_cuts_read := ⟨F_law_cuts_read, PySem.W.mg_of X G a_law_cuts_read, b_law_cuts_read, ⟨_, _, _, _, _, _, rfl⟩⟩,
    a_law_short_reads := _,
    d_law_short_reads := _,
    D_law_short_reads := ⟨F_law_short_reads, PySem.W.mg_of X G a_law_short_reads, b_law_short_reads, ⟨_, _, _, _, _, _, rfl⟩⟩,
    a_law_tails_read := _,
    d_law_tails_read := _,
    D_law_tails_read := ⟨F_law_tails_read, PySem.W.mg_of X G a_law_tails_read, b_law_tails_read, ⟨_, _, _, _, _, _, rfl⟩⟩,
    a_law := _,
    d_law := _,
    D_law := ⟨F_law, PySem.W.mg_of X G a_law, b_law, ⟨_, _, _, _, _, _, rfl⟩⟩,
    t_LETTERS := _,
    m_LETTERS := PySem.W.mg_of X G m_LETTERS,
    t_WORD_CHARACTERS := _,
    m_WORD_CHARACTERS := PySem.W.mg_of X G m_WORD_CHARACTERS,
    t_BLANKS := _,
    m_BLANKS := PySem.W.mg_of X G m_BLANKS,
    t_LONGEST_WORD := _,
    m_LONGEST_WORD := PySem.W.mg_of X G m_LONGEST_WORD,
    t_LONGEST_NAME := _,
    m_LONGEST_NAME := PySem.W.mg_of X G m_LONGEST_NAME,
    t_MOST_OPEN := _,
    m_MOST_OPEN := PySem.W.mg_of X G m_MOST_OPEN,
    n_ValueError := PySem.W.mg_none_of X G n_ValueError,
    n_bool := PySem.W.mg_none_of X G n_bool,
    n_enumerate := PySem.W.mg_none_of X G n_enumerate,
    n_int := PySem.W.mg_none_of X G n_int,
    n_isinstance := PySem.W.mg_none_of X G n_isinstance,
    n_len := PySem.W.mg_none_of X G n_len,
    n_list := PySem.W.mg_none_of X G n_list,
    n_range := PySem.W.mg_none_of X G n_range,
    n_str := PySem.W.mg_none_of X G n_str,
    n_tuple := PySem.W.mg_none_of X G n_tuple,
    c_PagesError := _,
    C_PagesError := ⟨PySem.W.mg_of X G g_PagesError, ic_PagesError, ty_PagesError⟩,
    c_RecordError := _,
    C_RecordError := ⟨PySem.W.mg_of X G g_RecordError, ic_RecordError, ty_RecordError⟩,
    c_LimitError := _,
    C_LimitError := ⟨PySem.W.mg_of X G g_LimitError, ic_LimitError, ty_LimitError⟩,
    c_GivenError := _,
    C_GivenError := ⟨PySem.W.mg_of X G g_GivenError, ic_GivenError, ty_GivenError⟩,
    c_BadText := _,
    C_BadText := ⟨PySem.W.mg_of X G g_BadText, ic_BadText, ty_BadText⟩,
    c_BadCall := _,
    C_BadCall := ⟨PySem.W.mg_of X G g_BadCall, ic_BadCall, ty_BadCall⟩,
    c_Misplaced := _,
    C_Misplaced := ⟨PySem.W.mg_of X G g_Misplaced, ic_Misplaced, ty_Misplaced⟩,
    c_Unknown := _,
    C_Unknown := ⟨PySem.W.mg_of X G g_Unknown, ic_Unknown, ty_Unknown⟩,
    c_Twice := _,
    C_Twice := ⟨PySem.W.mg_of X G g_Twice, ic_Twice, ty_Twice⟩,
    c_TooLong := _,
    C_TooLong := ⟨PySem.W.mg_of X G g_TooLong, ic_TooLong, ty_TooLong⟩,
    c_TooLarge := _,
    C_TooLarge := ⟨PySem.W.mg_of X G g_TooLarge, ic_TooLarge, ty_TooLarge⟩,
    c_TooMany := _,
    C_TooMany := ⟨PySem.W.mg_of X G g_TooMany, ic_TooMany, ty_TooMany⟩,
    c_TooWide := _,
    C_TooWide := ⟨PySem.W.mg_of X G g_TooWide, ic_TooWide, ty_TooWide⟩,
    c_TooTall := _,
    C_TooTall := ⟨PySem.W.mg_of X G g_TooTall, ic_TooTall, ty_TooTall⟩,
    c_BadStyle := _,
    C_BadStyle := ⟨PySem.W.mg_of X G g_BadStyle, ic_BadStyle, ty_BadStyle⟩,
    c_BadSecret := _,
    C_BadSecret := ⟨PySem.W.mg_of X G g_BadSecret, ic_BadSecret, ty_BadSecret⟩,
    c_BadEnding := _,
    C_BadEnding := ⟨PySem.W.mg_of X G g_BadEnding, ic_BadEnding, ty_BadEnding⟩,
    c_NoStem := _,
    C_NoStem := ⟨PySem.W.mg_of X G g_NoStem, ic_NoStem, ty_NoStem⟩,
    c_Untrue := _,
    C_Untrue := ⟨PySem.W.mg_of X G g_Untrue, ic_Untrue, ty_Untrue⟩,
    c_BadFile := _,
    C_BadFile := ⟨PySem.W.mg_of X G g_BadFile, ic_BadFile, ty_BadFile⟩,
    c_BadStep := _,
    C_BadStep := ⟨PySem.W.mg_of X G g_BadStep, ic_BadStep, ty_BadStep⟩,
    i_BadText := _,
    d_BadText := _,
    E_BadText := ⟨PySem.W.mg_of X G g_BadText, ⟨⟨_, _, _, _, _, _, _, _, _, _, _, _, _, _, _, xL_BadText, rv_BadText⟩, sa_BadText, ex_BadText, ty_BadText, kp_BadText⟩, ⟨ga_BadText, gg_BadText, ex_BadText, hd_BadText, ha_BadText, o_hn, o_ht, hm_BadText⟩, ⟨ga_BadText, gg_BadText, ex_BadText, hd_BadText⟩, ii_BadText, ti_BadText, Fi_BadText, bi_BadText, fun f hf => by simp only [List.mem_cons, List.not_mem_nil, or_false] at hf; subst hf; exact no_BadText_at⟩,
    k_BadText_PagesError := kit_ref sb_BadText_BadText ic_PagesError ty_PagesError sb_BadText_PagesError,
    k_BadText_RecordError := kit_ref sb_BadText_BadText ic_RecordError ty_RecordError sb_BadText_RecordError,
    k_BadText_LimitError := kit_ref sb_BadText_BadText ic_LimitError ty_LimitError sb_BadText_LimitError,
    k_BadText_GivenError := kit_ref sb_BadText_BadText ic_GivenError ty_GivenError sb_BadText_GivenError,
    k_BadText_BadText := kit_ref sb_BadText_BadText ic_BadText ty_BadText sb_BadText_BadText,
    k_BadText_BadCall := kit_ref sb_BadText_BadText ic_BadCall ty_BadCall sb_BadText_BadCall,
    k_BadText_Misplaced := kit_ref sb_BadText_BadText ic_Misplaced ty_Misplaced sb_BadText_Misplaced,
    k_BadText_Unknown := kit_ref sb_BadText_BadText ic_Unknown ty_Unknown sb_BadText_Unknown,
    k_BadText_Twice := kit_ref sb_BadText_BadText ic_Twice ty_Twice sb_BadText_Twice,
    k_BadText_TooLong := kit_ref sb_BadText_BadText ic_TooLong ty_TooLong sb_BadText_TooLong,
    k_BadText_TooLarge := kit_ref sb_BadText_BadText ic_TooLarge ty_TooLarge sb_BadText_TooLarge,
    k_BadText_TooMany := kit_ref sb_BadText_BadText ic_TooMany ty_TooMany sb_BadText_TooMany,
    k_BadText_TooWide := kit_ref sb_BadText_BadText ic_TooWide ty_TooWide sb_BadText_TooWide,
    k_BadText_TooTall := kit_ref sb_BadText_BadText ic_TooTall ty_TooTall sb_BadText_TooTall,
    k_BadText_BadStyle := kit_ref sb_BadText_BadText ic_BadStyle ty_BadStyle sb_BadText_BadStyle,
    k_BadText_BadSecret := kit_ref sb_BadText_BadText ic_BadSecret ty_BadSecret sb_BadText_BadSecret,
    k_BadText_BadEnding := kit_ref sb_BadText_BadText ic_BadEnding ty_BadEnding sb_BadText_BadEnding,
    k_BadText_NoStem := kit_ref sb_BadText_BadText ic_NoStem ty_NoStem sb_BadText_NoStem,
    k_BadText_Untrue := kit_ref sb_BadText_BadText ic_Untrue ty_Untrue sb_BadText_Untrue,
    k_BadText_BadFile := kit_ref sb_BadText_BadText ic_BadFile ty_BadFile sb_BadText_BadFile,
    k_BadText_BadStep := kit_ref sb_BadText_BadText ic_BadStep ty_BadStep sb_BadText_BadStep,
    v_BadText := kit_typ vs_BadText,
    x_BadText := exm_ref bx_PagesError ic_PagesError ty_PagesError sb_BadText_PagesError })⟩
end Vf
open PySem PySem.W PyProof.Rows
set_option maxHeartbeats 0 in
theorem PySem.Challenge.cw_hushedpages_k09_whole_cut_texts_holds : PySem.Challenge.rw_hushedpages_k09_whole_cut_texts.Holds := by
  w_on; o_law; k_head; (case hw => w_witness2)
  k_fill
  refine L2.walk_of (l := PySem.Challenge.rw_hushedpages_k09_whole_cut_texts) (n := 63) (k := 45) (x := "_law_script") (CX := fun _ => L2.CX0) (sp := fun w => Vf.spLaw _) rfl (by decide) rfl ⟨rfl, by decide, by decide⟩ (fun w h Y => PySem.W.kIn_of Y) ?F (fun _ _ a ns hl _ hS => ⟨a, ns, rfl, hS, hl, fun _ => rfl⟩) (fun _ _ _ _ _ h => h)
  case F =>
    intro w mg fa h KX G hmg
    refine' Vf.all_mk KX G hmg ?a_is_word ?l_is_word ?c_is_word ?k_is_word ?a_is_name ?l_is_name ?c_is_name ?k_is_name ?a_consists_of ?l_consists_of ?c_consists_of ?k_consists_of ?a_tokens_of ?l_tokens_of ?c_tokens_of ?k_tokens_of ?a_token_end ?l_token_end ?c_token_end ?k_token_end ?a_run_end ?l_run_end ?c_run_end ?k_run_end ?a_read_tree ?l_read_tree ?c_read_tree ?k_read_tree ?a_fits ?l_fits ?c_fits ?k_fits ?a_take ?l_take ?c_take ?k_take ?a_tree_of ?l_tree_of ?c_tree_of ?k_tree_of ?a_node_of ?l_node_of ?c_node_of ?k_node_of ?a_law_begin ?l_law_begin ?c_law_begin ?k_law_begin ?a_law_draw ?l_law_draw ?c_law_draw ?k_law_draw ?a_law_pick ?l_law_pick ?c_law_pick ?k_law_pick ?a_law_rare ?l_law_rare ?c_law_rare ?k_law_rare ?a_law_word ?l_law_word ?c_law_word ?k_law_word ?a_law_exact ?l_law_exact ?c_law_exact ?k_law_exact ?a_law_told_error ?l_law_told_error ?c_law_told_error ?k_law_told_error ?a_law_word_signs ?l_law_word_signs ?c_law_word_signs ?k_law_word_signs ?a_law_run ?l_law_run ?c_law_run ?k_law_run ?a_law_some_word ?l_law_some_word ?c_law_some_word ?k_law_some_word ?a_law_some_name ?l_law_some_name ?c_law_some_name ?k_law_some_name ?a_law_runs_on ?l_law_runs_on ?c_law_runs_on ?k_law_runs_on ?a_law_gap ?l_law_gap ?c_law_gap ?k_law_gap ?a_law_parts ?l_law_parts ?c_law_parts ?k_law_parts ?a_law_token_walk ?l_law_token_walk ?c_law_token_walk ?k_law_token_walk ?a_law_odd_signs ?l_law_odd_signs ?c_law_odd_signs ?k_law_odd_signs ?a_law_odd_token ?l_law_odd_token ?c_law_odd_token ?k_law_odd_token ?a_law_spoilt ?l_law_spoilt ?c_law_spoilt ?k_law_spoilt ?a_law_first_bad ?l_law_first_bad ?c_law_first_bad ?k_law_first_bad ?a_law_tree_of ?l_law_tree_of ?c_law_tree_of ?k_law_tree_of ?a_law_reads ?l_law_reads ?c_law_reads ?k_law_reads ?a_law_cuts_read ?l_law_cuts_read ?c_law_cuts_read ?k_law_cuts_read ?a_law_short_reads ?l_law_short_reads ?c_law_short_reads ?k_law_short_reads ?a_law_tails_read ?l_law_tails_read ?c_law_tails_read ?k_law_tails_read ?a_law ?l_law ?c_law ?k_law ?m_LETTERS ?m_WORD_CHARACTERS ?m_BLANKS ?m_LONGEST_WORD ?m_LONGEST_NAME ?m_MOST_OPEN ?n_ValueError ?n_bool ?n_enumerate ?n_int ?n_isinstance ?n_len ?n_list ?n_range ?n_str ?n_tuple ?g_PagesError ?ic_PagesError ?ty_PagesError ?g_RecordError ?ic_RecordError ?ty_RecordError ?g_LimitError ?ic_LimitError ?ty_LimitError ?g_GivenError ?ic_GivenError ?ty_GivenError ?g_BadText ?ic_BadText ?ty_BadText ?g_BadCall ?ic_BadCall ?ty_BadCall ?g_Misplaced ?ic_Misplaced ?ty_Misplaced ?g_Unknown ?ic_Unknown ?ty_Unknown ?g_Twice ?ic_Twice ?ty_Twice ?g_TooLong ?ic_TooLong ?ty_TooLong ?g_TooLarge ?ic_TooLarge ?ty_TooLarge ?g_TooMany ?ic_TooMany ?ty_TooMany ?g_TooWide ?ic_TooWide ?ty_TooWide ?g_TooTall ?ic_TooTall ?ty_TooTall ?g_BadStyle ?ic_BadStyle ?ty_BadStyle ?g_BadSecret ?ic_BadSecret ?ty_BadSecret ?g_BadEnding ?ic_BadEnding ?ty_BadEnding ?g_NoStem ?ic_NoStem ?ty_NoStem ?g_Untrue ?ic_Untrue ?ty_Untrue ?g_BadFile ?ic_BadFile ?ty_BadFile ?g_BadStep ?ic_BadStep ?ty_BadStep ?bx_PagesError ?o_hn ?o_ht ?xL_BadText ?rv_BadText ?sa_BadText ?ga_BadText ?gg_BadText ?ex_BadText ?kp_BadText ?hd_BadText ?ha_BadText ?hm_BadText ?vs_BadText ?no_BadText_at ?sb_BadText_PagesError ?sb_BadText_RecordError ?sb_BadText_LimitError ?sb_BadText_GivenError ?sb_BadText_BadText ?sb_BadText_BadCall ?sb_BadText_Misplaced ?sb_BadText_Unknown ?sb_BadText_Twice ?sb_BadText_TooLong ?sb_BadText_TooLarge ?sb_BadText_TooMany ?sb_BadText_TooWide ?sb_BadText_TooTall ?sb_BadText_BadStyle ?sb_BadText_BadSecret ?sb_BadText_BadEnding ?sb_BadText_NoStem ?sb_BadText_Untrue ?sb_BadText_BadFile ?sb_BadText_BadStep ?ii_BadText ?ti_BadText ?li_BadText ?ci_BadText ?ki_BadText
    (case a_is_word => k_is)
    (case l_is_word => k_is)
    (case c_is_word => k_is)
    (case k_is_word => k_is)
    (case a_is_name => k_is)
    (case l_is_name => k_is)
    (case c_is_name => k_is)
    (case k_is_name => k_is)
    (case a_consists_of => k_is)
    (case l_consists_of => k_is)
    (case c_consists_of => k_is)
    (case k_consists_of => k_is)
    (case a_tokens_of => k_is)
    (case l_tokens_of => k_is)
    (case c_tokens_of => k_is)
    (case k_tokens_of => k_is)
    (case a_token_end => k_is)
    (case l_token_end => k_is)
    (case c_token_end => k_is)
    (case k_token_end => k_is)
    (case a_run_end => k_is)
    (case l_run_end => k_is)
    (case c_run_end => k_is)
    (case k_run_end => k_is)
    (case a_read_tree => k_is)
    (case l_read_tree => k_is)
    (case c_read_tree => k_is)
    (case k_read_tree => k_is)
    (case a_fits => k_is)
    (case l_fits => k_is)
    (case c_fits => k_is)
    (case k_fits => k_is)
    (case a_take => k_is)
    (case l_take => k_is)
    (case c_take => k_is)
    (case k_take => k_is)
    (case a_tree_of => k_is)
    (case l_tree_of => k_is)
    (case c_tree_of => k_is)
    (case k_tree_of => k_is)
    (case a_node_of => k_is)
    (case l_node_of => k_is)
    (case c_node_of => k_is)
    (case k_node_of => k_is)
    (case a_law_begin => k_is)
    (case l_law_begin => k_is)
    (case c_law_begin => k_is)
    (case k_law_begin => k_is)
    (case a_law_draw => k_is)
    (case l_law_draw => k_is)
    (case c_law_draw => k_is)
    (case k_law_draw => k_is)
    (case a_law_pick => k_is)
    (case l_law_pick => k_is)
    (case c_law_pick => k_is)
    (case k_law_pick => k_is)
    (case a_law_rare => k_is)
    (case l_law_rare => k_is)
    (case c_law_rare => k_is)
    (case k_law_rare => k_is)
    (case a_law_word => k_is)
    (case l_law_word => k_is)
    (case c_law_word => k_is)
    (case k_law_word => k_is)
    (case a_law_exact => k_is)
    (case l_law_exact => k_is)
    (case c_law_exact => k_is)
    (case k_law_exact => k_is)
    (case a_law_told_error => k_is)
    (case l_law_told_error => k_is)
    (case c_law_told_error => k_is)
    (case k_law_told_error => k_is)
    (case a_law_word_signs => k_is)
    (case l_law_word_signs => k_is)
    (case c_law_word_signs => k_is)
    (case k_law_word_signs => k_is)
    (case a_law_run => k_is)
    (case l_law_run => k_is)
    (case c_law_run => k_is)
    (case k_law_run => k_is)
    (case a_law_some_word => k_is)
    (case l_law_some_word => k_is)
    (case c_law_some_word => k_is)
    (case k_law_some_word => k_is)
    (case a_law_some_name => k_is)
    (case l_law_some_name => k_is)
    (case c_law_some_name => k_is)
    (case k_law_some_name => k_is)
    (case a_law_runs_on => k_is)
    (case l_law_runs_on => k_is)
    (case c_law_runs_on => k_is)
    (case k_law_runs_on => k_is)
    (case a_law_gap => k_is)
    (case l_law_gap => k_is)
    (case c_law_gap => k_is)
    (case k_law_gap => k_is)
    (case a_law_parts => k_is)
    (case l_law_parts => k_is)
    (case c_law_parts => k_is)
    (case k_law_parts => k_is)
    (case a_law_token_walk => k_is)
    (case l_law_token_walk => k_is)
    (case c_law_token_walk => k_is)
    (case k_law_token_walk => k_is)
    (case a_law_odd_signs => k_is)
    (case l_law_odd_signs => k_is)
    (case c_law_odd_signs => k_is)
    (case k_law_odd_signs => k_is)
    (case a_law_odd_token => k_is)
    (case l_law_odd_token => k_is)
    (case c_law_odd_token => k_is)
    (case k_law_odd_token => k_is)
    (case a_law_spoilt => k_is)
    (case l_law_spoilt => k_is)
    (case c_law_spoilt => k_is)
    (case k_law_spoilt => k_is)
    (case a_law_first_bad => k_is)
    (case l_law_first_bad => k_is)
    (case c_law_first_bad => k_is)
    (case k_law_first_bad => k_is)
    (case a_law_tree_of => k_is)
    (case l_law_tree_of => k_is)
    (case c_law_tree_of => k_is)
    (case k_law_tree_of => k_is)
    (case a_law_reads => k_is)
    (case l_law_reads => k_is)
    (case c_law_reads => k_is)
    (case k_law_reads => k_is)
    (case a_law_cuts_read => k_is)
    (case l_law_cuts_read => k_is)
    (case c_law_cuts_read => k_is)
    (case k_law_cuts_read => k_is)
    (case a_law_short_reads => k_is)
    (case l_law_short_reads => k_is)
    (case c_law_short_reads => k_is)
    (case k_law_short_reads => k_is)
    (case a_law_tails_read => k_is)
    (case l_law_tails_read => k_is)
    (case c_law_tails_read => k_is)
    (case k_law_tails_read => k_is)
    (case a_law => k_is)
    (case l_law => k_is)
    (case c_law => k_is)
    (case k_law => k_is)
    (case m_LETTERS => k_is)
    (case m_WORD_CHARACTERS => k_is)
    (case m_BLANKS => k_is)
    (case m_LONGEST_WORD => k_is)
    (case m_LONGEST_NAME => k_is)
    (case m_MOST_OPEN => k_is)
    (case n_ValueError => k_is)
    (case n_bool => k_is)
    (case n_enumerate => k_is)
    (case n_int => k_is)
    (case n_isinstance => k_is)
    (case n_len => k_is)
    (case n_list => k_is)
    (case n_range => k_is)
    (case n_str => k_is)
    (case n_tuple => k_is)
    (case g_PagesError => k_is)
    (case ic_PagesError => k_is)
    (case ty_PagesError => k_is)
    (case g_RecordError => k_is)
    (case ic_RecordError => k_is)
    (case ty_RecordError => k_is)
    (case g_LimitError => k_is)
    (case ic_LimitError => k_is)
    (case ty_LimitError => k_is)
    (case g_GivenError => k_is)
    (case ic_GivenError => k_is)
    (case ty_GivenError => k_is)
    (case g_BadText => k_is)
    (case ic_BadText => k_is)
    (case ty_BadText => k_is)
    (case g_BadCall => k_is)
    (case ic_BadCall => k_is)
    (case ty_BadCall => k_is)
    (case g_Misplaced => k_is)
    (case ic_Misplaced => k_is)
    (case ty_Misplaced => k_is)
    (case g_Unknown => k_is)
    (case ic_Unknown => k_is)
    (case ty_Unknown => k_is)
    (case g_Twice => k_is)
    (case ic_Twice => k_is)
    (case ty_Twice => k_is)
    (case g_TooLong => k_is)
    (case ic_TooLong => k_is)
    (case ty_TooLong => k_is)
    (case g_TooLarge => k_is)
    (case ic_TooLarge => k_is)
    (case ty_TooLarge => k_is)
    (case g_TooMany => k_is)
    (case ic_TooMany => k_is)
    (case ty_TooMany => k_is)
    (case g_TooWide => k_is)
    (case ic_TooWide => k_is)
    (case ty_TooWide => k_is)
    (case g_TooTall => k_is)
    (case ic_TooTall => k_is)
    (case ty_TooTall => k_is)
    (case g_BadStyle => k_is)
    (case ic_BadStyle => k_is)
    (case ty_BadStyle => k_is)
    (case g_BadSecret => k_is)
    (case ic_BadSecret => k_is)
    (case ty_BadSecret => k_is)
    (case g_BadEnding => k_is)
    (case ic_BadEnding => k_is)
    (case ty_BadEnding => k_is)
    (case g_NoStem => k_is)
    (case ic_NoStem => k_is)
    (case ty_NoStem => k_is)
    (case g_Untrue => k_is)
    (case ic_Untrue => k_is)
    (case ty_Untrue => k_is)
    (case g_BadFile => k_is)
    (case ic_BadFile => k_is)
    (case ty_BadFile => k_is)
    (case g_BadStep => k_is)
    (case ic_BadStep => k_is)
    (case ty_BadStep => k_is)
    (case bx_PagesError => k_is)
    (case o_hn => k_is)
    (case o_ht => k_is)
    (case xL_BadText => k_is)
    (case rv_BadText => first | rfl | decide +kernel)
    (case sa_BadText => k_is)
    (case ga_BadText => k_is)
    (case gg_BadText => k_is)
    (case ex_BadText => k_is)
    (case kp_BadText => k_is)
    (case hd_BadText => k_is)
    (case ha_BadText => k_is)
    (case hm_BadText => k_is)
    (case vs_BadText => k_is)
    (case no_BadText_at => k_is)
    (case sb_BadText_PagesError => k_is)
    (case sb_BadText_RecordError => k_is)
    (case sb_BadText_LimitError => k_is)
    (case sb_BadText_GivenError => k_is)
    (case sb_BadText_BadText => k_is)
    (case sb_BadText_BadCall => k_is)
    (case sb_BadText_Misplaced => k_is)
    (case sb_BadText_Unknown => k_is)
    (case sb_BadText_Twice => k_is)
    (case sb_BadText_TooLong => k_is)
    (case sb_BadText_TooLarge => k_is)
    (case sb_BadText_TooMany => k_is)
    (case sb_BadText_TooWide => k_is)
    (case sb_BadText_TooTall => k_is)
    (case sb_BadText_BadStyle => k_is)
    (case sb_BadText_BadSecret => k_is)
    (case sb_BadText_BadEnding => k_is)
    (case sb_BadText_NoStem => k_is)
    (case sb_BadText_Untrue => k_is)
    (case sb_BadText_BadFile => k_is)
    (case sb_BadText_BadStep => k_is)
    (case ii_BadText => k_is)
    (case ti_BadText => k_is)
    (case li_BadText => k_is)
    (case ci_BadText => k_is)
    (case ki_BadText => k_is)
