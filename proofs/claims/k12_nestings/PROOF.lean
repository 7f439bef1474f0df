import PyProof.Rows.All
import Wide.All
import OpenK.AllK
import Wide.FinOn
import HandS.ForMost
import HandS.IsInst
import HandS.Conv
import HandS.Evl
import PyProof.StrBlock2
import HandS.ExcInit
import HandS.ExcIs
import HandS.ExcField
import HandS.Wide
import HandS.TupAny
import HandS.ForExc
import HandS.HotCalls
import HandS.WordsExc
import HandS.ExcCtx
import HandS.Strs
import HandS.Walk
import HandS.Zip
import KE.GoesMore
import PyProof.SeqIndex
import HandS.TupMul
import PySem.Challenge.RW_hushedpages_k12_nestings
set_option Elab.async false
set_option linter.all false
set_option maxRecDepth 100000
set_option maxHeartbeats 4000000
namespace Vf
open PySem PySem.Spec PyProof.Rows L2
def topS (i : Nat) : Stmt := PySem.Challenge.pw_hushedpages_k12_nestings.main.body.getD i (.Pass ⟨0, 0, 0, 0⟩)
abbrev s_is_name : Stmt := topS 18
theorem sc_is_name : FnScope ["run"] ["run"] (defScope s_is_name) := ⟨rfl, rfl, rfl, by decide +kernel, rfl, by decide +kernel, by decide +kernel⟩
abbrev s_consists_of : Stmt := topS 19
theorem sc_consists_of : FnScope ["run", "allowed"] ["run", "allowed"] (defScope s_consists_of) := ⟨rfl, rfl, rfl, by decide +kernel, rfl, by decide +kernel, by decide +kernel⟩
abbrev s_run_end : Stmt := topS 20
theorem sc_run_end : FnScope ["text", "at", "allowed"] ["text", "at", "allowed"] (defScope s_run_end) := ⟨rfl, rfl, rfl, by decide +kernel, rfl, by decide +kernel, by decide +kernel⟩
abbrev s_check_macros : Stmt := topS 25
theorem sc_check_macros : FnScope ["tree", "known", "node"] ["tree"] (defScope s_check_macros) := ⟨rfl, rfl, rfl, by decide +kernel, rfl, by decide +kernel, by decide +kernel⟩
abbrev s_nesting_of : Stmt := topS 26
theorem sc_nesting_of : FnScope ["tree"] ["tree"] (defScope s_nesting_of) := ⟨rfl, rfl, rfl, by decide +kernel, rfl, by decide +kernel, by decide +kernel⟩
abbrev s_is_definition : Stmt := topS 27
theorem sc_is_definition : FnScope ["node"] ["node"] (defScope s_is_definition) := ⟨rfl, rfl, rfl, by decide +kernel, rfl, by decide +kernel, by decide +kernel⟩
abbrev s_without_definitions : Stmt := topS 28
theorem sc_without_definitions : FnScope ["tree", "node"] ["tree"] (defScope s_without_definitions) := ⟨rfl, rfl, rfl, by decide +kernel, rfl, by decide +kernel, by decide +kernel⟩
abbrev s_check_definition : Stmt := topS 29
theorem sc_check_definition : FnScope ["node", "known", "names", "inner"] ["node", "known"] (defScope s_check_definition) := ⟨rfl, rfl, rfl, by decide +kernel, rfl, by decide +kernel, by decide +kernel⟩
abbrev s_names_of : Stmt := topS 30
theorem sc_names_of : FnScope ["given", "names", "node"] ["given"] (defScope s_names_of) := ⟨rfl, rfl, rfl, by decide +kernel, rfl, by decide +kernel, by decide +kernel⟩
abbrev s_may_name : Stmt := topS 31
theorem sc_may_name : FnScope ["node"] ["node"] (defScope s_may_name) := ⟨rfl, rfl, rfl, by decide +kernel, rfl, by decide +kernel, by decide +kernel⟩
abbrev s_check_node : Stmt := topS 32
theorem sc_check_node : FnScope ["node", "params", "known", "name", "given", "argument", "inner"] ["node", "params", "known"] (defScope s_check_node) := ⟨rfl, rfl, rfl, by decide +kernel, rfl, by decide +kernel, by decide +kernel⟩
abbrev s_macros_of : Stmt := topS 33
theorem sc_macros_of : FnScope ["tree", "macros", "node", "names"] ["tree"] (defScope s_macros_of) := ⟨rfl, rfl, rfl, by decide +kernel, rfl, by decide +kernel, by decide +kernel⟩
abbrev s_expansion_size : Stmt := topS 34
theorem sc_expansion_size : FnScope ["tree", "sizes"] ["tree", "sizes"] (defScope s_expansion_size) := ⟨rfl, rfl, rfl, by decide +kernel, rfl, by decide +kernel, by decide +kernel⟩
abbrev s_sizes_of : Stmt := topS 35
theorem sc_sizes_of : FnScope ["macros", "sizes", "name", "params", "body"] ["macros"] (defScope s_sizes_of) := ⟨rfl, rfl, rfl, by decide +kernel, rfl, by decide +kernel, by decide +kernel⟩
abbrev s_size : Stmt := topS 36
theorem sc_size : FnScope ["tree", "params", "sizes", "total", "node"] ["tree", "params", "sizes"] (defScope s_size) := ⟨rfl, rfl, rfl, by decide +kernel, rfl, by decide +kernel, by decide +kernel⟩
abbrev s_node_size : Stmt := topS 37
theorem sc_node_size : FnScope ["node", "params", "sizes", "nothing", "name", "given", "whole", "total", "place", "argument", "param"] ["node", "params", "sizes"] (defScope s_node_size) := ⟨rfl, rfl, rfl, by decide +kernel, rfl, by decide +kernel, by decide +kernel⟩
abbrev s_built_in_size : Stmt := topS 38
theorem sc_built_in_size : FnScope ["many"] ["many"] (defScope s_built_in_size) := ⟨rfl, rfl, rfl, by decide +kernel, rfl, by decide +kernel, by decide +kernel⟩
abbrev s_put_at : Stmt := topS 39
theorem sc_put_at : FnScope ["place", "size", "times", "depth", "many", "deep"] ["place", "size"] (defScope s_put_at) := ⟨rfl, rfl, rfl, by decide +kernel, rfl, by decide +kernel, by decide +kernel⟩
abbrev s_beside : Stmt := topS 40
theorem sc_beside : FnScope ["size", "other", "many", "deep", "more", "deeper"] ["size", "other"] (defScope s_beside) := ⟨rfl, rfl, rfl, by decide +kernel, rfl, by decide +kernel, by decide +kernel⟩
abbrev s_law_begin : Stmt := topS 42
theorem sc_law_begin : FnScope ["_law_script"] ["_law_script"] (defScope s_law_begin) := ⟨rfl, rfl, rfl, by decide +kernel, rfl, by decide +kernel, by decide +kernel⟩
abbrev s_law_draw : Stmt := topS 43
theorem sc_law_draw : FnScope ["_law_d", "_law_many", "_law_cell", "_law_found"] ["_law_d", "_law_many"] (defScope s_law_draw) := ⟨rfl, rfl, rfl, by decide +kernel, rfl, by decide +kernel, by decide +kernel⟩
abbrev s_law_pick : Stmt := topS 44
theorem sc_law_pick : FnScope ["_law_d", "_law_row"] ["_law_d", "_law_row"] (defScope s_law_pick) := ⟨rfl, rfl, rfl, by decide +kernel, rfl, by decide +kernel, by decide +kernel⟩
abbrev s_law_rare : Stmt := topS 45
theorem sc_law_rare : FnScope ["_law_d", "_law_many"] ["_law_d", "_law_many"] (defScope s_law_rare) := ⟨rfl, rfl, rfl, by decide +kernel, rfl, by decide +kernel, by decide +kernel⟩
abbrev s_law_shuffled : Stmt := topS 46
theorem sc_law_shuffled : FnScope ["_law_d", "_law_row", "_law_left", "_law_found"] ["_law_d", "_law_row"] (defScope s_law_shuffled) := ⟨rfl, rfl, rfl, by decide +kernel, rfl, by decide +kernel, by decide +kernel⟩
abbrev s_law_names : Stmt := topS 47
theorem sc_law_names : FnScope ["_law_d", "_law_many", "_law_pool"] ["_law_d", "_law_many"] (defScope s_law_names) := ⟨rfl, rfl, rfl, by decide +kernel, rfl, by decide +kernel, by decide +kernel⟩
abbrev s_law_word : Stmt := topS 48
theorem sc_law_word : FnScope ["_law_d", "_law_low", "_law_high", "_law_long", "_law_signs", "_law_k"] ["_law_d", "_law_low", "_law_high"] (defScope s_law_word) := ⟨rfl, rfl, rfl, by decide +kernel, rfl, by decide +kernel, by decide +kernel⟩
abbrev s_law_built : Stmt := topS 49
theorem sc_law_built : FnScope ["_law_text"] [] (defScope s_law_built) := ⟨rfl, rfl, rfl, by decide +kernel, rfl, by decide +kernel, by decide +kernel⟩
abbrev s_law_is_name : Stmt := topS 50
theorem sc_law_is_name : FnScope ["_law_word_here", "_law_sign"] ["_law_word_here"] (defScope s_law_is_name) := ⟨rfl, rfl, rfl, by decide +kernel, rfl, by decide +kernel, by decide +kernel⟩
abbrev s_law_call_faults : Stmt := topS 51
theorem sc_law_call_faults : FnScope ["_law_node_here", "_law_params", "_law_known", "_law_built_here", "_law_name", "_law_found", "_law_part", "_law_inner"] ["_law_node_here", "_law_params", "_law_known", "_law_built_here"] (defScope s_law_call_faults) := ⟨rfl, rfl, rfl, by decide +kernel, rfl, by decide +kernel, by decide +kernel⟩
abbrev s_law_bad_let : Stmt := topS 52
theorem sc_law_bad_let : FnScope ["_law_node_here", "_law_built_here", "_law_seen", "_law_part"] ["_law_node_here", "_law_built_here"] (defScope s_law_bad_let) := ⟨rfl, rfl, rfl, by decide +kernel, rfl, by decide +kernel, by decide +kernel⟩
abbrev s_law_fault : Stmt := topS 53
theorem sc_law_fault : FnScope ["_law_tree_here", "_law_built_here", "_law_known", "_law_lets", "_law_node_here", "_law_found", "_law_names_here", "_law_inner", "_law_part"] ["_law_tree_here"] (defScope s_law_fault) := ⟨rfl, rfl, rfl, by decide +kernel, rfl, by decide +kernel, by decide +kernel⟩
abbrev s_law_tree : Stmt := topS 54
theorem sc_law_tree : FnScope ["_law_d", "_law_many", "_law_scope", "_law_pool", "_law_deep_here", "_law_odd", "_law_k"] ["_law_d", "_law_many", "_law_scope", "_law_pool", "_law_deep_here", "_law_odd"] (defScope s_law_tree) := ⟨rfl, rfl, rfl, by decide +kernel, rfl, by decide +kernel, by decide +kernel⟩
abbrev s_law_node : Stmt := topS 55
theorem sc_law_node : FnScope ["_law_d", "_law_scope", "_law_pool", "_law_deep_here", "_law_odd", "_law_kind", "_law_name", "_law_many", "_law_parts", "_law_k"] ["_law_d", "_law_scope", "_law_pool", "_law_deep_here", "_law_odd"] (defScope s_law_node) := ⟨rfl, rfl, rfl, by decide +kernel, rfl, by decide +kernel, by decide +kernel⟩
abbrev s_law_bent : Stmt := topS 56
theorem sc_law_bent : FnScope ["_law_d", "_law_names_here", "_law_body", "_law_scope", "_law_kind", "_law_words", "_law_place", "_law_name"] ["_law_d", "_law_names_here", "_law_body", "_law_scope"] (defScope s_law_bent) := ⟨rfl, rfl, rfl, by decide +kernel, rfl, by decide +kernel, by decide +kernel⟩
abbrev s_law_let : Stmt := topS 57
theorem sc_law_let : FnScope ["_law_d", "_law_scope", "_law_pool", "_law_deep_here", "_law_odd", "_law_used", "_law_name", "_law_others", "_law_start", "_law_params", "_law_inner", "_law_body", "_law_parts", "_law_row", "_law_one"] ["_law_d", "_law_scope", "_law_pool", "_law_deep_here", "_law_odd"] (defScope s_law_let) := ⟨rfl, rfl, rfl, by decide +kernel, rfl, by decide +kernel, by decide +kernel⟩
abbrev s_law_world : Stmt := topS 58
theorem sc_law_world : FnScope ["_law_d", "_law_many", "_law_pool", "_law_deep_here", "_law_odd", "_law_scope", "_law_tree_here", "_law_k", "_law_node_here", "_law_row"] ["_law_d", "_law_many", "_law_pool", "_law_deep_here", "_law_odd"] (defScope s_law_world) := ⟨rfl, rfl, rfl, by decide +kernel, rfl, by decide +kernel, by decide +kernel⟩
abbrev s_law_title : Stmt := topS 59
theorem sc_law_title : FnScope ["_law_k"] ["_law_k"] (defScope s_law_title) := ⟨rfl, rfl, rfl, by decide +kernel, rfl, by decide +kernel, by decide +kernel⟩
abbrev s_law_form : Stmt := topS 60
theorem sc_law_form : FnScope ["_law_names_here", "_law_body", "_law_forms", "_law_sizes", "_law_one", "_law_form_here"] ["_law_names_here", "_law_body", "_law_forms"] (defScope s_law_form) := ⟨rfl, rfl, rfl, by decide +kernel, rfl, by decide +kernel, by decide +kernel⟩
abbrev s_law_size : Stmt := topS 61
theorem sc_law_size : FnScope ["_law_tree_here", "_law_sizes", "_law_forms", "_law_total", "_law_node_here", "_law_inner", "_law_form_here", "_law_k", "_law_part"] ["_law_tree_here", "_law_sizes", "_law_forms"] (defScope s_law_size) := ⟨rfl, rfl, rfl, by decide +kernel, rfl, by decide +kernel, by decide +kernel⟩
abbrev s_law_menu : Stmt := topS 62
theorem sc_law_menu : FnScope ["_law_params", "_law_word_here", "_law_calls", "_law_one"] ["_law_params", "_law_word_here"] (defScope s_law_menu) := ⟨rfl, rfl, rfl, by decide +kernel, rfl, by decide +kernel, by decide +kernel⟩
abbrev s_law_wrapped : Stmt := topS 63
theorem sc_law_wrapped : FnScope ["_law_d", "_law_tree_here", "_law_kind"] ["_law_d", "_law_tree_here"] (defScope s_law_wrapped) := ⟨rfl, rfl, rfl, by decide +kernel, rfl, by decide +kernel, by decide +kernel⟩
abbrev s_law_link : Stmt := topS 64
theorem sc_law_link : FnScope ["_law_d", "_law_kind", "_law_last", "_law_params", "_law_word_here", "_law_menu_here", "_law_call", "_law_twice", "_law_one"] ["_law_d", "_law_kind", "_law_last", "_law_params", "_law_word_here"] (defScope s_law_link) := ⟨rfl, rfl, rfl, by decide +kernel, rfl, by decide +kernel, by decide +kernel⟩
abbrev s_law_chain : Stmt := topS 65
theorem sc_law_chain : FnScope ["_law_d", "_law_many", "_law_params", "_law_word_here", "_law_menu_here", "_law_fixed", "_law_forms", "_law_tree_here", "_law_k", "_law_body", "_law_kind", "_law_names_here", "_law_one", "_law_parts", "_law_name"] ["_law_d", "_law_many"] (defScope s_law_chain) := ⟨rfl, rfl, rfl, by decide +kernel, rfl, by decide +kernel, by decide +kernel⟩
abbrev s_law_deep : Stmt := topS 66
theorem sc_law_deep : FnScope ["_law_tree_here", "_law_deeps", "_law_reaches", "_law_found", "_law_node_here", "_law_inner", "_law_reach_here", "_law_k", "_law_part"] ["_law_tree_here", "_law_deeps", "_law_reaches"] (defScope s_law_deep) := ⟨rfl, rfl, rfl, by decide +kernel, rfl, by decide +kernel, by decide +kernel⟩
abbrev s_law_reach : Stmt := topS 67
theorem sc_law_reach : FnScope ["_law_names_here", "_law_body", "_law_reaches", "_law_deeps", "_law_one", "_law_reach_here"] ["_law_names_here", "_law_body", "_law_reaches"] (defScope s_law_reach) := ⟨rfl, rfl, rfl, by decide +kernel, rfl, by decide +kernel, by decide +kernel⟩
abbrev s_law_nesting : Stmt := topS 68
theorem sc_law_nesting : FnScope ["_law_tree_here", "_law_reaches", "_law_found", "_law_node_here", "_law_names_here", "_law_part"] ["_law_tree_here"] (defScope s_law_nesting) := ⟨rfl, rfl, rfl, by decide +kernel, rfl, by decide +kernel, by decide +kernel⟩
abbrev s_law_told : Stmt := topS 69
theorem sc_law_told : FnScope ["_law_tree_here", "_law_told_here", "e", "_law_kinds", "_law_rows", "_law_limits", "_law_name"] ["_law_tree_here"] (defScope s_law_told) := ⟨rfl, rfl, rfl, by decide +kernel, rfl, by decide +kernel, by decide +kernel⟩
abbrev s_law : Stmt := topS 70
theorem sc_law : FnScope ["_law_script", "_law_d", "_law_pool", "_law_trees", "_law_turn", "_law_odd", "_law_tree_here", "_law_due"] ["_law_script"] (defScope s_law) := ⟨rfl, rfl, rfl, by decide +kernel, rfl, by decide +kernel, by decide +kernel⟩
abbrev s_BadCall_init : Stmt := inClass (topS 6) 0
theorem sc_BadCall_init : FnScope ["self", "name"] ["self", "name"] (defScope s_BadCall_init) := ⟨rfl, rfl, rfl, by decide +kernel, rfl, by decide +kernel, by decide +kernel⟩
abbrev s_Unknown_init : Stmt := inClass (topS 8) 0
theorem sc_Unknown_init : FnScope ["self", "name"] ["self", "name"] (defScope s_Unknown_init) := ⟨rfl, rfl, rfl, by decide +kernel, rfl, by decide +kernel, by decide +kernel⟩
abbrev s_Twice_init : Stmt := inClass (topS 9) 0
theorem sc_Twice_init : FnScope ["self", "name"] ["self", "name"] (defScope s_Twice_init) := ⟨rfl, rfl, rfl, by decide +kernel, rfl, by decide +kernel, by decide +kernel⟩
abbrev s_TooLarge_init : Stmt := inClass (topS 11) 0
theorem sc_TooLarge_init : FnScope ["self", "part"] ["self", "part"] (defScope s_TooLarge_init) := ⟨rfl, rfl, rfl, by decide +kernel, rfl, by decide +kernel, by decide +kernel⟩
/-- a class of the text -/
structure ClsAt (K : PySem.W.Frag) (mg : Str → Option Value) (x : Str) (C : Addr) : Prop where
  G : mg x = some (.ref C)
  ic : PySem.W.isClsIn K C = true
  ty : PySem.W.typeIn K (.ref C) = some (.type "type")
/-- an own error's class with its __init__ -/
structure ErrAt (K : PySem.W.Frag) (mg : Str → Option Value) (x qi : Str) (C fI : Addr) (fd : FuncData) (st : Stmt) (ps fs : List Str) : Prop where
  G : mg x = some (.ref C)
  O : OexC K C
  EC : ExcC K C
  XC : XfC K C
  I : PySem.W.findIn K (.ref C) "__init__" = some (some (.ref fI))
  TI : PySem.W.typeIn K (.ref fI) = some (.type "function")
  F : Fun K "__init__" qi st fI fd
  B : Binds K fd ps []
  no : ∀ f ∈ fs, PySem.W.findIn K (.ref C) f = some none
section
variable {K : PySem.W.Frag} {D C : Addr} {b : Bool}
theorem kitCls_ref (ic : PySem.W.isClsIn K C = true) (ty : PySem.W.typeIn K (.ref C) = some (.type "type")) (sb : PySem.W.subIn K (.ref D) (.ref C) = some b) : PySem.W.kitCls K (.ref D) (.ref C) = some b := by
  have h : ((PySem.W.clsIn K C).isSome && PySem.W.typeIn K (.ref C) == some (.type "type")) = true := by
    have ic2 : (PySem.W.clsIn K C).isSome = true := ic
    rw [ic2, ty] <;> rfl
  show (if ((PySem.W.clsIn K C).isSome && PySem.W.typeIn K (.ref C) == some (.type "type")) = true then PySem.W.subIn K (.ref D) (.ref C) else none) = some b
  rw [if_pos h]; exact sb
theorem kit_ref (dd : PySem.W.subIn K (.ref D) (.ref D) = some true) (ic : PySem.W.isClsIn K C = true) (ty : PySem.W.typeIn K (.ref C) = some (.type "type")) (sb : PySem.W.subIn K (.ref D) (.ref C) = some b) : PySem.W.kitOne K (.ref D) (.ref C) = some b := by
  unfold PySem.W.kitOne
  by_cases h : (Value.ref D == Value.ref C) = true
  · rw [if_pos h]
    have e : Value.ref D = Value.ref C := beq_iff_eq.mp h
    rw [← e, dd] at sb
    exact sb
  · rw [if_neg h]; exact kitCls_ref ic ty sb
theorem kit_typ (sb : PySem.W.subIn K (.ref D) (.type "ValueError") = some true) : PySem.W.kitOne K (.ref D) (.type "ValueError") = some true := by
  have h : (Value.ref D == Value.type "ValueError") = false := beq_eq_false_iff_ne.mpr (fun e => by cases e)
  unfold PySem.W.kitOne
  rw [h, if_neg Bool.false_ne_true]
  show (if PySem.W.kitMeta "ValueError" = true then PySem.W.subIn K (.ref D) (.type "ValueError") else none) = some true
  rw [if_pos (by decide +kernel)]; exact sb
theorem exm_ref (bx : PySem.W.subIn K (.ref C) (.type "BaseException") = some true) (ic : PySem.W.isClsIn K C = true) (ty : PySem.W.typeIn K (.ref C) = some (.type "type")) (sb : PySem.W.subIn K (.ref D) (.ref C) = some b) : PySem.W.exmOne K (.ref D) (.ref C) = some b := by
  have h : (PySem.W.subIn K (.ref C) (.type "BaseException") == some true) = true := by rw [bx] <;> rfl
  show (if (PySem.W.subIn K (.ref C) (.type "BaseException") == some true) = true then PySem.W.kitCls K (.ref D) (.ref C) else none) = some b
  rw [if_pos h]; exact kitCls_ref ic ty sb
end
structure DefAt (K : PySem.W.Frag) (mg : Str → Option Value) (x : Str) (st : Stmt) (ps : List Str) (f : Addr) (fd : FuncData) : Prop where
  F : Fun K x x st f fd
  G : mg x = some (.ref f)
  B : Binds K fd ps []
  E : ∃ kV doc pm an cdv ct, fd = PySem.W.fnOf x x (defArgs st) (defBody st) (defScope st) .none kV doc pm an cdv ct
structure Txt (K : PySem.W.Frag) (mg : Str → Option Value) where
  a_is_name : Addr
  d_is_name : FuncData
  D_is_name : DefAt K mg "is_name" s_is_name ["run"] a_is_name d_is_name
  a_consists_of : Addr
  d_consists_of : FuncData
  D_consists_of : DefAt K mg "consists_of" s_consists_of ["run", "allowed"] a_consists_of d_consists_of
  a_run_end : Addr
  d_run_end : FuncData
  D_run_end : DefAt K mg "_run_end" s_run_end ["text", "at", "allowed"] a_run_end d_run_end
  a_check_macros : Addr
  d_check_macros : FuncData
  D_check_macros : DefAt K mg "check_macros" s_check_macros ["tree"] a_check_macros d_check_macros
  a_nesting_of : Addr
  d_nesting_of : FuncData
  D_nesting_of : DefAt K mg "nesting_of" s_nesting_of ["tree"] a_nesting_of d_nesting_of
  a_is_definition : Addr
  d_is_definition : FuncData
  D_is_definition : DefAt K mg "_is_definition" s_is_definition ["node"] a_is_definition d_is_definition
  a_without_definitions : Addr
  d_without_definitions : FuncData
  D_without_definitions : DefAt K mg "_without_definitions" s_without_definitions ["tree"] a_without_definitions d_without_definitions
  a_check_definition : Addr
  d_check_definition : FuncData
  D_check_definition : DefAt K mg "_check_definition" s_check_definition ["node", "known"] a_check_definition d_check_definition
  a_names_of : Addr
  d_names_of : FuncData
  D_names_of : DefAt K mg "_names_of" s_names_of ["given"] a_names_of d_names_of
  a_may_name : Addr
  d_may_name : FuncData
  D_may_name : DefAt K mg "_may_name" s_may_name ["node"] a_may_name d_may_name
  a_check_node : Addr
  d_check_node : FuncData
  D_check_node : DefAt K mg "_check_node" s_check_node ["node", "params", "known"] a_check_node d_check_node
  a_macros_of : Addr
  d_macros_of : FuncData
  D_macros_of : DefAt K mg "_macros_of" s_macros_of ["tree"] a_macros_of d_macros_of
  a_expansion_size : Addr
  d_expansion_size : FuncData
  D_expansion_size : DefAt K mg "_expansion_size" s_expansion_size ["tree", "sizes"] a_expansion_size d_expansion_size
  a_sizes_of : Addr
  d_sizes_of : FuncData
  D_sizes_of : DefAt K mg "_sizes_of" s_sizes_of ["macros"] a_sizes_of d_sizes_of
  a_size : Addr
  d_size : FuncData
  D_size : DefAt K mg "_size" s_size ["tree", "params", "sizes"] a_size d_size
  a_node_size : Addr
  d_node_size : FuncData
  D_node_size : DefAt K mg "_node_size" s_node_size ["node", "params", "sizes"] a_node_size d_node_size
  a_built_in_size : Addr
  d_built_in_size : FuncData
  D_built_in_size : DefAt K mg "_built_in_size" s_built_in_size ["many"] a_built_in_size d_built_in_size
  a_put_at : Addr
  d_put_at : FuncData
  D_put_at : DefAt K mg "_put_at" s_put_at ["place", "size"] a_put_at d_put_at
  a_beside : Addr
  d_beside : FuncData
  D_beside : DefAt K mg "_beside" s_beside ["size", "other"] a_beside d_beside
  a_law_begin : Addr
  d_law_begin : FuncData
  D_law_begin : DefAt K mg "_law_begin" s_law_begin ["_law_script"] a_law_begin d_law_begin
  a_law_draw : Addr
  d_law_draw : FuncData
  D_law_draw : DefAt K mg "_law_draw" s_law_draw ["_law_d", "_law_many"] a_law_draw d_law_draw
  a_law_pick : Addr
  d_law_pick : FuncData
  D_law_pick : DefAt K mg "_law_pick" s_law_pick ["_law_d", "_law_row"] a_law_pick d_law_pick
  a_law_rare : Addr
  d_law_rare : FuncData
  D_law_rare : DefAt K mg "_law_rare" s_law_rare ["_law_d", "_law_many"] a_law_rare d_law_rare
  a_law_shuffled : Addr
  d_law_shuffled : FuncData
  D_law_shuffled : DefAt K mg "_law_shuffled" s_law_shuffled ["_law_d", "_law_row"] a_law_shuffled d_law_shuffled
  a_law_names : Addr
  d_law_names : FuncData
  D_law_names : DefAt K mg "_law_names" s_law_names ["_law_d", "_law_many"] a_law_names d_law_names
  a_law_word : Addr
  d_law_word : FuncData
  D_law_word : DefAt K mg "_law_word" s_law_word ["_law_d", "_law_low", "_law_high"] a_law_word d_law_word
  a_law_built : Addr
  d_law_built : FuncData
  D_law_built : DefAt K mg "_law_built" s_law_built [] a_law_built d_law_built
  a_law_is_name : Addr
  d_law_is_name : FuncData
  D_law_is_name : DefAt K mg "_law_is_name" s_law_is_name ["_law_word_here"] a_law_is_name d_law_is_name
  a_law_call_faults : Addr
  d_law_call_faults : FuncData
  D_law_call_faults : DefAt K mg "_law_call_faults" s_law_call_faults ["_law_node_here", "_law_params", "_law_known", "_law_built_here"] a_law_call_faults d_law_call_faults
  a_law_bad_let : Addr
  d_law_bad_let : FuncData
  D_law_bad_let : DefAt K mg "_law_bad_let" s_law_bad_let ["_law_node_here", "_law_built_here"] a_law_bad_let d_law_bad_let
  a_law_fault : Addr
  d_law_fault : FuncData
  D_law_fault : DefAt K mg "_law_fault" s_law_fault ["_law_tree_here"] a_law_fault d_law_fault
  a_law_tree : Addr
  d_law_tree : FuncData
  D_law_tree : DefAt K mg "_law_tree" s_law_tree ["_law_d", "_law_many", "_law_scope", "_law_pool", "_law_deep_here", "_law_odd"] a_law_tree d_law_tree
  a_law_node : Addr
  d_law_node : FuncData
  D_law_node : DefAt K mg "_law_node" s_law_node ["_law_d", "_law_scope", "_law_pool", "_law_deep_here", "_law_odd"] a_law_node d_law_node
  a_law_bent : Addr
  d_law_bent : FuncData
  D_law_bent : DefAt K mg "_law_bent" s_law_bent ["_law_d", "_law_names_here", "_law_body", "_law_scope"] a_law_bent d_law_bent
  a_law_let : Addr
  d_law_let : FuncData
  D_law_let : DefAt K mg "_law_let" s_law_let ["_law_d", "_law_scope", "_law_pool", "_law_deep_here", "_law_odd"] a_law_let d_law_let
  a_law_world : Addr
  d_law_world : FuncData
  D_law_world : DefAt K mg "_law_world" s_law_world ["_law_d", "_law_many", "_law_pool", "_law_deep_here", "_law_odd"] a_law_world d_law_world
  a_law_title : Addr
  d_law_title : FuncData
  D_law_title : DefAt K mg "_law_title" s_law_title ["_law_k"] a_law_title d_law_title
  a_law_form : Addr
  d_law_form : FuncData
  D_law_form : DefAt K mg "_law_form" s_law_form ["_law_names_here", "_law_body", "_law_forms"] a_law_form d_law_form
  a_law_size : Addr
  d_law_size : FuncData
  D_law_size : DefAt K mg "_law_size" s_law_size ["_law_tree_here", "_law_sizes", "_law_forms"] a_law_size d_law_size
  a_law_menu : Addr
  d_law_menu : FuncData
  D_law_menu : DefAt K mg "_law_menu" s_law_menu ["_law_params", "_law_word_here"] a_law_menu d_law_menu
  a_law_wrapped : Addr
  d_law_wrapped : FuncData
  D_law_wrapped : DefAt K mg "_law_wrapped" s_law_wrapped ["_law_d", "_law_tree_here"] a_law_wrapped d_law_wrapped
  a_law_link : Addr
  d_law_link : FuncData
  D_law_link : DefAt K mg "_law_link" s_law_link ["_law_d", "_law_kind", "_law_last", "_law_params", "_law_word_here"] a_law_link d_law_link
  a_law_chain : Addr
  d_law_chain : FuncData
  D_law_chain : DefAt K mg "_law_chain" s_law_chain ["_law_d", "_law_many"] a_law_chain d_law_chain
  a_law_deep : Addr
  d_law_deep : FuncData
  D_law_deep : DefAt K mg "_law_deep" s_law_deep ["_law_tree_here", "_law_deeps", "_law_reaches"] a_law_deep d_law_deep
  a_law_reach : Addr
  d_law_reach : FuncData
  D_law_reach : DefAt K mg "_law_reach" s_law_reach ["_law_names_here", "_law_body", "_law_reaches"] a_law_reach d_law_reach
  a_law_nesting : Addr
  d_law_nesting : FuncData
  D_law_nesting : DefAt K mg "_law_nesting" s_law_nesting ["_law_tree_here"] a_law_nesting d_law_nesting
  a_law_told : Addr
  d_law_told : FuncData
  D_law_told : DefAt K mg "_law_told" s_law_told ["_law_tree_here"] a_law_told d_law_told
  a_law : Addr
  d_law : FuncData
  D_law : DefAt K mg "law" s_law ["_law_script"] a_law d_law
  t_LETTERS : Tok
  m_LETTERS : mg "LETTERS" = some (.str "abcdefghijklmnopqrstuvwxyz" t_LETTERS)
  t_LONGEST_NAME : Tok
  m_LONGEST_NAME : mg "LONGEST_NAME" = some (.int 8 t_LONGEST_NAME)
  t_BUILT_IN : Addr
  m_BUILT_IN : mg "BUILT_IN" = some (.ref t_BUILT_IN)
  s_BUILT_IN : ∀ H : Hp, SqT K H t_BUILT_IN [V.str "let", V.str "hole", V.str "page", V.str "note", V.str "key", V.str "head", V.str "par", V.str "list", V.str "item", V.str "table", V.str "row", V.str "cell", V.str "show", V.str "over", V.str "up", V.str "low", V.str "fence", V.str "grid", V.str "line", V.str "figure", V.str "label", V.str "contents", V.str "index"]
  t_MOST_MACROS : Tok
  m_MOST_MACROS : mg "MOST_MACROS" = some (.int 40 t_MOST_MACROS)
  t_MOST_NAMES : Tok
  m_MOST_NAMES : mg "MOST_NAMES" = some (.int 4 t_MOST_NAMES)
  n_ValueError : mg "ValueError" = none
  n_bool : mg "bool" = none
  n_int : mg "int" = none
  n_isinstance : mg "isinstance" = none
  n_len : mg "len" = none
  n_list : mg "list" = none
  n_max : mg "max" = none
  n_min : mg "min" = none
  n_range : mg "range" = none
  n_set : mg "set" = none
  n_tuple : mg "tuple" = none
  n_zip : mg "zip" = none
  c_PagesError : Addr
  C_PagesError : ClsAt K mg "PagesError" c_PagesError
  c_RecordError : Addr
  C_RecordError : ClsAt K mg "RecordError" c_RecordError
  c_LimitError : Addr
  C_LimitError : ClsAt K mg "LimitError" c_LimitError
  c_GivenError : Addr
  C_GivenError : ClsAt K mg "GivenError" c_GivenError
  c_BadText : Addr
  C_BadText : ClsAt K mg "BadText" c_BadText
  c_BadCall : Addr
  C_BadCall : ClsAt K mg "BadCall" c_BadCall
  c_Misplaced : Addr
  C_Misplaced : ClsAt K mg "Misplaced" c_Misplaced
  c_Unknown : Addr
  C_Unknown : ClsAt K mg "Unknown" c_Unknown
  c_Twice : Addr
  C_Twice : ClsAt K mg "Twice" c_Twice
  c_TooLong : Addr
  C_TooLong : ClsAt K mg "TooLong" c_TooLong
  c_TooLarge : Addr
  C_TooLarge : ClsAt K mg "TooLarge" c_TooLarge
  c_TooMany : Addr
  C_TooMany : ClsAt K mg "TooMany" c_TooMany
  c_TooWide : Addr
  C_TooWide : ClsAt K mg "TooWide" c_TooWide
  c_TooTall : Addr
  C_TooTall : ClsAt K mg "TooTall" c_TooTall
  i_BadCall : Addr
  d_BadCall : FuncData
  E_BadCall : ErrAt K mg "BadCall" "BadCall.__init__" c_BadCall i_BadCall d_BadCall s_BadCall_init ["self", "name"] ["name"]
  k_BadCall_PagesError : PySem.W.kitOne K (.ref c_BadCall) (.ref c_PagesError) = some true
  k_BadCall_RecordError : PySem.W.kitOne K (.ref c_BadCall) (.ref c_RecordError) = some true
  k_BadCall_LimitError : PySem.W.kitOne K (.ref c_BadCall) (.ref c_LimitError) = some false
  k_BadCall_GivenError : PySem.W.kitOne K (.ref c_BadCall) (.ref c_GivenError) = some false
  k_BadCall_BadText : PySem.W.kitOne K (.ref c_BadCall) (.ref c_BadText) = some false
  k_BadCall_BadCall : PySem.W.kitOne K (.ref c_BadCall) (.ref c_BadCall) = some true
  k_BadCall_Misplaced : PySem.W.kitOne K (.ref c_BadCall) (.ref c_Misplaced) = some false
  k_BadCall_Unknown : PySem.W.kitOne K (.ref c_BadCall) (.ref c_Unknown) = some false
  k_BadCall_Twice : PySem.W.kitOne K (.ref c_BadCall) (.ref c_Twice) = some false
  k_BadCall_TooLong : PySem.W.kitOne K (.ref c_BadCall) (.ref c_TooLong) = some false
  k_BadCall_TooLarge : PySem.W.kitOne K (.ref c_BadCall) (.ref c_TooLarge) = some false
  k_BadCall_TooMany : PySem.W.kitOne K (.ref c_BadCall) (.ref c_TooMany) = some false
  k_BadCall_TooWide : PySem.W.kitOne K (.ref c_BadCall) (.ref c_TooWide) = some false
  k_BadCall_TooTall : PySem.W.kitOne K (.ref c_BadCall) (.ref c_TooTall) = some false
  v_BadCall : PySem.W.kitOne K (.ref c_BadCall) (.type "ValueError") = some true
  x_BadCall : PySem.W.exmOne K (.ref c_BadCall) (.ref c_PagesError) = some true
  i_Unknown : Addr
  d_Unknown : FuncData
  E_Unknown : ErrAt K mg "Unknown" "Unknown.__init__" c_Unknown i_Unknown d_Unknown s_Unknown_init ["self", "name"] ["name"]
  k_Unknown_PagesError : PySem.W.kitOne K (.ref c_Unknown) (.ref c_PagesError) = some true
  k_Unknown_RecordError : PySem.W.kitOne K (.ref c_Unknown) (.ref c_RecordError) = some true
  k_Unknown_LimitError : PySem.W.kitOne K (.ref c_Unknown) (.ref c_LimitError) = some false
  k_Unknown_GivenError : PySem.W.kitOne K (.ref c_Unknown) (.ref c_GivenError) = some false
  k_Unknown_BadText : PySem.W.kitOne K (.ref c_Unknown) (.ref c_BadText) = some false
  k_Unknown_BadCall : PySem.W.kitOne K (.ref c_Unknown) (.ref c_BadCall) = some false
  k_Unknown_Misplaced : PySem.W.kitOne K (.ref c_Unknown) (.ref c_Misplaced) = some false
  k_Unknown_Unknown : PySem.W.kitOne K (.ref c_Unknown) (.ref c_Unknown) = some true
  k_Unknown_Twice : PySem.W.kitOne K (.ref c_Unknown) (.ref c_Twice) = some false
  k_Unknown_TooLong : PySem.W.kitOne K (.ref c_Unknown) (.ref c_TooLong) = some false
  k_Unknown_TooLarge : PySem.W.kitOne K (.ref c_Unknown) (.ref c_TooLarge) = some false
  k_Unknown_TooMany : PySem.W.kitOne K (.ref c_Unknown) (.ref c_TooMany) = some false
  k_Unknown_TooWide : PySem.W.kitOne K (.ref c_Unknown) (.ref c_TooWide) = some false
  k_Unknown_TooTall : PySem.W.kitOne K (.ref c_Unknown) (.ref c_TooTall) = some false
  v_Unknown : PySem.W.kitOne K (.ref c_Unknown) (.type "ValueError") = some true
  x_Unknown : PySem.W.exmOne K (.ref c_Unknown) (.ref c_PagesError) = some true
  i_Twice : Addr
  d_Twice : FuncData
  E_Twice : ErrAt K mg "Twice" "Twice.__init__" c_Twice i_Twice d_Twice s_Twice_init ["self", "name"] ["name"]
  k_Twice_PagesError : PySem.W.kitOne K (.ref c_Twice) (.ref c_PagesError) = some true
  k_Twice_RecordError : PySem.W.kitOne K (.ref c_Twice) (.ref c_RecordError) = some true
  k_Twice_LimitError : PySem.W.kitOne K (.ref c_Twice) (.ref c_LimitError) = some false
  k_Twice_GivenError : PySem.W.kitOne K (.ref c_Twice) (.ref c_GivenError) = some false
  k_Twice_BadText : PySem.W.kitOne K (.ref c_Twice) (.ref c_BadText) = some false
  k_Twice_BadCall : PySem.W.kitOne K (.ref c_Twice) (.ref c_BadCall) = some false
  k_Twice_Misplaced : PySem.W.kitOne K (.ref c_Twice) (.ref c_Misplaced) = some false
  k_Twice_Unknown : PySem.W.kitOne K (.ref c_Twice) (.ref c_Unknown) = some false
  k_Twice_Twice : PySem.W.kitOne K (.ref c_Twice) (.ref c_Twice) = some true
  k_Twice_TooLong : PySem.W.kitOne K (.ref c_Twice) (.ref c_TooLong) = some false
  k_Twice_TooLarge : PySem.W.kitOne K (.ref c_Twice) (.ref c_TooLarge) = some false
  k_Twice_TooMany : PySem.W.kitOne K (.ref c_Twice) (.ref c_TooMany) = some false
  k_Twice_TooWide : PySem.W.kitOne K (.ref c_Twice) (.ref c_TooWide) = some false
  k_Twice_TooTall : PySem.W.kitOne K (.ref c_Twice) (.ref c_TooTall) = some false
  v_Twice : PySem.W.kitOne K (.ref c_Twice) (.type "ValueError") = some true
  x_Twice : PySem.W.exmOne K (.ref c_Twice) (.ref c_PagesError) = some true
  i_TooLarge : Addr
  d_TooLarge : FuncData
  E_TooLarge : ErrAt K mg "TooLarge" "TooLarge.__init__" c_TooLarge i_TooLarge d_TooLarge s_TooLarge_init ["self", "part"] ["part"]
  k_TooLarge_PagesError : PySem.W.kitOne K (.ref c_TooLarge) (.ref c_PagesError) = some true
  k_TooLarge_RecordError : PySem.W.kitOne K (.ref c_TooLarge) (.ref c_RecordError) = some false
  k_TooLarge_LimitError : PySem.W.kitOne K (.ref c_TooLarge) (.ref c_LimitError) = some true
  k_TooLarge_GivenError : PySem.W.kitOne K (.ref c_TooLarge) (.ref c_GivenError) = some false
  k_TooLarge_BadText : PySem.W.kitOne K (.ref c_TooLarge) (.ref c_BadText) = some false
  k_TooLarge_BadCall : PySem.W.kitOne K (.ref c_TooLarge) (.ref c_BadCall) = some false
  k_TooLarge_Misplaced : PySem.W.kitOne K (.ref c_TooLarge) (.ref c_Misplaced) = some false
  k_TooLarge_Unknown : PySem.W.kitOne K (.ref c_TooLarge) (.ref c_Unknown) = some false
  k_TooLarge_Twice : PySem.W.kitOne K (.ref c_TooLarge) (.ref c_Twice) = some false
  k_TooLarge_TooLong : PySem.W.kitOne K (.ref c_TooLarge) (.ref c_TooLong) = some false
  k_TooLarge_TooLarge : PySem.W.kitOne K (.ref c_TooLarge) (.ref c_TooLarge) = some true
  k_TooLarge_TooMany : PySem.W.kitOne K (.ref c_TooLarge) (.ref c_TooMany) = some false
  k_TooLarge_TooWide : PySem.W.kitOne K (.ref c_TooLarge) (.ref c_TooWide) = some false
  k_TooLarge_TooTall : PySem.W.kitOne K (.ref c_TooLarge) (.ref c_TooTall) = some false
  v_TooLarge : PySem.W.kitOne K (.ref c_TooLarge) (.type "ValueError") = some true
  x_TooLarge : PySem.W.exmOne K (.ref c_TooLarge) (.ref c_PagesError) = some true
/-! ### the dice -/
/-- at d the dice, at l the script's copy -/
structure DI (d l : Addr) (H : Hp) : Prop where
  ne : l ≠ d
  sc : ∃ ns : List Int, H l = some (.lst (ns.map V.int))
  st : ∃ i b s c : Int, 0 ≤ i ∧ H d = some (.lst [.ref l, .int i, .int b, .int s, .int c])
/-- all but the dice stands -/
def Kp (d : Addr) (H H' : Hp) : Prop := ∀ b o, b ≠ d → H b = some o → H' b = some o
theorem Kp.refl (d : Addr) (H : Hp) : Kp d H H := fun _ _ _ h => h
theorem Kp.trans {d : Addr} {H H1 H2 : Hp} (a : Kp d H H1) (b : Kp d H1 H2) : Kp d H H2 := fun x o n h => b x o n (a x o n h)
theorem Kp.upd {d : Addr} {H H' : Hp} {o : HO} (a : Kp d H H') : Kp d H (upd H' d o) := fun x u n h => by
  rw [upd_ne n]; exact a x u n h
theorem Kp.new {d p : Addr} {H H' : Hp} {o : HO} (a : Kp d H H') (hp : H' p = none) : Kp d H (L2.upd H' p o) := fun x u n h => by
  have h2 := a x u n h
  rw [upd_ne (ne_of_none h2 hp)]; exact h2
theorem Kp.mut {d p : Addr} {H H' : Hp} {o : HO} (a : Kp d H H') (hp : H p = none) : Kp d H (L2.upd H' p o) := fun x u n h => by
  rw [upd_ne (ne_of_none h hp)]; exact a x u n h
theorem Kp.sq {K : PySem.W.Frag} {d a : Addr} {H H' : Hp} {xs : List V} (k : Kp d H H') (n : a ≠ d) (h : SqL K H a xs) : SqL K H' a xs := by
  rcases h with (h | ⟨o, h⟩) | h
  · exact .inl (.inl (k _ _ n h))
  · exact .inl (.inr ⟨o, k _ _ n h⟩)
  · exact .inr h
theorem DI.keep {d l : Addr} {H H' : Hp} (h : DI d l H) (e : ∀ b o, H b = some o → H' b = some o) : DI d l H' := by
  obtain ⟨n, ⟨ns, h1⟩, i, b, s, c, h0, h2⟩ := h
  exact ⟨n, ⟨ns, e _ _ h1⟩, i, b, s, c, h0, e _ _ h2⟩
theorem DI.at {d l p : Addr} {H : Hp} {o : HO} (h : DI d l H) (n1 : p ≠ d) (n2 : p ≠ l) : DI d l (upd H p o) := by
  obtain ⟨n, ⟨ns, h1⟩, i, b, s, c, h0, h2⟩ := h
  exact ⟨n, ⟨ns, by rw [upd_ne n2.symm]; exact h1⟩, i, b, s, c, h0, by rw [upd_ne n1.symm]; exact h2⟩
theorem DI.new {d l p : Addr} {H : Hp} {o : HO} (h : DI d l H) (hp : H p = none) : DI d l (upd H p o) :=
  h.keep fun b u e => by rw [upd_ne (ne_of_none e hp)]; exact e
theorem DI.nd {d l p : Addr} {H : Hp} (h : DI d l H) (hp : H p = none) : p ≠ d ∧ p ≠ l := by
  obtain ⟨n, ⟨ns, h1⟩, i, b, s, c, h0, h2⟩ := h
  exact ⟨fun e => (by rw [e, h2] at hp; cases hp), fun e => (by rw [e, h1] at hp; cases hp)⟩
theorem DI.set {d l : Addr} {H : Hp} {i b s c : Int} (h : DI d l H) (h0 : 0 ≤ i) : DI d l (upd H d (.lst [.ref l, .int i, .int b, .int s, .int c])) := by
  obtain ⟨n, ⟨ns, h1⟩, _⟩ := h
  exact ⟨n, ⟨ns, by rw [upd_ne n]; exact h1⟩, i, b, s, c, h0, upd_same⟩
section
variable {P : Program} {w : World} {K : PySem.W.Frag} {mg : Str → Option Value} {base : Heap}
/-! ### begin -/
def spBegin (K : PySem.W.Frag) : Sp := fun vs H Q _ => ∃ (a : Addr) (ns : List Int), vs = [.ref a] ∧ SqL K H a (ns.map V.int) ∧ ns.length ≤ 63 ∧
  ∀ H' d l, Same H H' → DI d l H' → Q (.ref d) H'
theorem ok_begin (T : Txt K mg) : FnOk P w K mg base CX0 1 T.a_law_begin T.d_law_begin ["_law_script"] (spBegin K) := by
  refine T.D_law_begin.F.ok sc_law_begin (fun vs H Q E h => ?_) (fun cdv A outer s H vs Q E hr h => ?_)
  · obtain ⟨a, ns, rfl, _⟩ := h
    rfl
  · obtain ⟨a, ns, rfl, hS, hl, q⟩ := h
    refine ⟨_, (pss_one (ps_ret (pe_lst (pa_cons (pe_callTy call_list_of (by rfl) T.n_list (by decide +kernel) (pa_cons (pv 0) pa_nil)) (pa_cons pe_int (pa_cons pe_int (pa_cons pe_int (pa_cons pe_int pa_nil)))))))), ?_⟩
    refine ⟨_, rfl, a, _, rfl, .inl hS, fun l nl => ?_⟩
    refine ⟨by show 5 ≤ sizeLine; decide, fun d nd => ?_⟩
    refine q _ d l (fun b o e => ?_) ?_
    · have n1 : b ≠ l := ne_of_none e nl
      have e1 : upd H l (.lst (ns.map V.int)) b = some o := by rw [upd_ne n1]; exact e
      rw [upd_ne (ne_of_none e1 nd)]
      exact e1
    · have e1 : upd H l (.lst (ns.map V.int)) l = some (.lst (ns.map V.int)) := upd_same
      have n1 : l ≠ d := ne_of_none e1 nd
      exact ⟨n1, ⟨ns, by rw [upd_ne n1]; exact e1⟩, 0, 0, 7, 0, by decide, upd_same⟩
/-! ### draw -/
def spDraw : Sp := fun vs H Q _ => ∃ (d l : Addr) (m : Int), vs = [.ref d, .int m] ∧ DI d l H ∧ m ≤ 1000000 ∧
  ∀ H' r, Kp d H H' → DI d l H' → (m < 2 → r = 0) → (2 ≤ m → 0 ≤ r ∧ r < m) → Q (.int r) H'
theorem ok_draw (T : Txt K mg) : FnOk P w K mg base CX0 1 T.a_law_draw T.d_law_draw ["_law_d", "_law_many"] spDraw := by
  refine T.D_law_draw.F.ok sc_law_draw (fun vs H Q E h => ?_) (fun cdv A outer s H vs Q E hr h => ?_)
  · obtain ⟨d, l, m, rfl, _⟩ := h
    rfl
  · obtain ⟨d, l, m, rfl, hD, hm, q⟩ := h
    refine ⟨_, (pss_cons (ps_if (pt_cmpR op_lt (pv 1) pe_int (nomark _)) (pss_one (ps_ret pe_int)) pss_nil)
      (pss_cons (ps_set (i := 2) sc_law_draw.nd rfl (.inl rfl) (pe_op op_add (pe_op op_mul (pe_ix ix_list (pv 0) pe_int (fun _ _ => rfl)) pe_int) pe_int))
      (Evl.pss_cut (ps_if (PW.pt (pw_and (pt_cmpR op_eq (pe_ix ix_list (pv 0) pe_int (fun _ _ => rfl)) pe_int (nomark _)) (pw_and1 (pt_cmpR op_lt (pe_ix ix_list (pv 0) pe_int (fun _ _ => rfl)) (pe_callB call_len_seq (by rfl) T.n_len PySem.boot_len (pa_cons (pe_ix ix_list (pv 0) pe_int (fun _ _ => rfl)) pa_nil)) (nomark _))))) (pss_cons (ps_set (i := 2) sc_law_draw.nd rfl (.inl rfl) (pe_ix ix_list (pe_ix ix_list (pv 0) pe_int (fun _ _ => rfl)) (pe_ix ix_list (pv 0) pe_int (fun _ _ => rfl)) (fun _ _ => rfl)))
      (pss_cons (ps_asg (pe_op op_add (pe_ix ix_list (pv 0) pe_int (fun _ _ => rfl)) pe_int) (pg_sub (pv 0) pe_int set_list))
      (Evl.pss_cut (ps_if (pt_cmpR op_lt (pv 2) pe_int (nomark _)) (pss_one (ps_set (i := 2) sc_law_draw.nd rfl (.inl rfl) (pe_op op_sub pe_int (pe_op op_mul pe_int (pv 2))))) pss_nil)
      (pss_one (ps_if (pt_cmpR op_ge (pv 2) pe_int (nomark _)) (pss_cons (ps_set (i := 2) sc_law_draw.nd rfl (.inl rfl) (pe_op op_and (pv 2) (pe_op op_sub (pe_op op_shl pe_int pe_int) pe_int)))
      (pss_one (ps_asg (pv 2) (pg_sub (pv 0) pe_int set_list)))) pss_nil))))) pss_nil)
      (pss_cons (ps_if (pt_cmpR op_gt (pe_ix ix_list (pv 0) pe_int (fun _ _ => rfl)) pe_int (nomark _)) (pss_cons (ps_set (i := 3) sc_law_draw.nd rfl (.inl rfl) (pe_op op_modN (pe_callTy call_int1 (by rfl) T.n_int (by decide +kernel) (pa_cons (pe_ix ix_list (pv 0) pe_int (fun _ _ => rfl)) pa_nil)) (pv 1)))
      (pss_cons (ps_asg (pe_op op_fdivN (pe_ix ix_list (pv 0) pe_int (fun _ _ => rfl)) (pv 1)) (pg_sub (pv 0) pe_int set_list))
      (pss_one (ps_ret (pv 3))))) pss_nil)
      (pss_cons (ps_asg (pe_op op_add (pe_ix ix_list (pv 0) pe_int (fun _ _ => rfl)) pe_int) (pg_sub (pv 0) pe_int set_list))
      (pss_cons (ps_asg (pe_op op_modN (pe_callTy call_int1 (by rfl) T.n_int (by decide +kernel) (pa_cons (pe_op op_add (pe_op op_add (pe_op op_mul (pe_ix ix_list (pv 0) pe_int (fun _ _ => rfl)) pe_int) (pe_op op_mul (pv 2) pe_int)) (pe_op op_mul (pe_ix ix_list (pv 0) pe_int (fun _ _ => rfl)) pe_int)) pa_nil)) pe_int) (pg_sub (pv 0) pe_int set_list))
      (pss_one (ps_ret (pe_op op_modN (pe_callTy call_int1 (by rfl) T.n_int (by decide +kernel) (pa_cons (pe_op op_modN (pe_callTy call_int1 (by rfl) T.n_int (by decide +kernel) (pa_cons (pe_op op_add (pe_op op_add (pe_op op_mul (pe_ix ix_list (pv 0) pe_int (fun _ _ => rfl)) pe_int) (pe_op op_mul (pe_ix ix_list (pv 0) pe_int (fun _ _ => rfl)) pe_int)) pe_int) pa_nil)) pe_int) pa_nil)) (pv 1)))))))))), ?_⟩
    refine ⟨_, rfl, _, _, rfl, rfl, _, rfl, ite2 (fun e => ?_) (fun e => ?_)⟩
    · have e := of_decide_eq_true e
      exact q H 0 (Kp.refl d H) hD (fun _ => rfl) (fun z => by omega)
    have hm2 : 2 ≤ m := by
      have e2 : ¬ m < 2 := fun z => e (decide_eq_true z)
      omega
    have hmN : m ≠ 0 := by omega
    have hmA : m.natAbs < 1073741824 := by omega
    have fm : ∀ z : Int, 0 ≤ z.fmod m ∧ z.fmod m < m := fun z => ⟨Int.fmod_nonneg_of_pos z (by omega), Int.fmod_lt_of_pos z (by omega)⟩
    obtain ⟨n, ⟨ns, h1⟩, i, b, s5, c, h0, h2⟩ := id hD
    -- cell = d[4] * 977 + 3
    refine ⟨_, rfl, _, _, _, _, rfl, rfl, SqL.of h2, rfl, _, _, rfl, rfl, .inr ⟨by decide, by decide⟩, _, _, rfl, rfl, ?_⟩
    refine ⟨fun σ' H' => ∃ (cell : Int) (x3 : Option V), σ' = [some (.ref d), some (.int m), some (.int cell), x3] ∧ Kp d H H' ∧ DI d l H', ?_, ?_⟩
    · -- the cell
      refine ⟨_, rfl, _, _, _, _, rfl, rfl, SqL.of h2, rfl, rfl, _, rfl, ite2 (fun e1 => ?_) (fun e1 => ?_)⟩
      · refine ⟨_, rfl, _, _, _, _, rfl, rfl, SqL.of h2, rfl, _, rfl, _, _, _, _, rfl, rfl, SqL.of h2, rfl, _, _, rfl, .inl (SqL.of h1), _, _, rfl, rfl, _, rfl, ite2 (fun e2 => ?_) (fun e2 => ?_)⟩
        · have e2 := of_decide_eq_true e2
          rw [List.length_map] at e2
          obtain ⟨j, rfl⟩ : ∃ j : Nat, i = (j : Int) := ⟨i.toNat, by omega⟩
          have hj : j < ns.length := by omega
          have gj : (ns.map V.int)[j]? = some (.int ns[j]) := by
            rw [List.getElem?_map, List.getElem?_eq_getElem hj]; rfl
          refine ⟨_, rfl, _, _, _, _, rfl, rfl, SqL.of h2, rfl, _, rfl, _, _, _, _, rfl, rfl, SqL.of h2, rfl, _, _, _, _, rfl, rfl, SqL.of h1, atI_nat gj, ?_⟩
          -- d[1] = d[1] + 1
          refine ⟨_, rfl, _, _, _, _, rfl, rfl, SqL.of h2, rfl, _, _, rfl, rfl, _, rfl, _, _, _, _, rfl, rfl, h2, rfl, ?_⟩
          have D1 := hD.set (i := (j : Int) + 1) (b := b) (s := s5) (c := c) (by omega)
          have K1 : Kp d H (upd H d (.lst [.ref l, .int ((j : Int) + 1), .int b, .int s5, .int c])) := (Kp.refl d H).upd
          refine ⟨fun σ' H' => ∃ (cell : Int) (x3 : Option V), σ' = [some (.ref d), some (.int m), some (.int cell), x3] ∧ H' = upd H d (.lst [.ref l, .int ((j : Int) + 1), .int b, .int s5, .int c]), ?_, ?_⟩
          · refine ⟨_, rfl, _, _, rfl, rfl, _, rfl, ite2 (fun _ => ?_) (fun _ => ?_)⟩
            · exact ⟨_, rfl, _, _, rfl, rfl, .inl ⟨by decide, by decide⟩, _, _, rfl, rfl, _, _, rfl, rfl⟩
            · exact ⟨_, _, rfl, rfl⟩
          · rintro σ' H' ⟨cell, x3, rfl, rfl⟩
            refine ⟨_, rfl, _, _, rfl, rfl, _, rfl, ite2 (fun _ => ?_) (fun _ => ?_)⟩
            · refine ⟨_, rfl, _, _, rfl, rfl, ⟨by decide, by decide, by decide⟩, _, _, rfl, rfl, _, _, rfl, rfl, ?_⟩
              refine ⟨_, rfl, _, rfl, _, _, _, _, rfl, rfl, upd_same, rfl, ?_⟩
              exact ⟨_, _, rfl, K1.upd, D1.set (by omega)⟩
            · exact ⟨_, _, rfl, K1, D1⟩
        · exact ⟨_, _, rfl, Kp.refl d H, hD⟩
      · exact ⟨_, _, rfl, Kp.refl d H, hD⟩
    · rintro σ' H1 ⟨cell, x3, rfl, K1, D1⟩
      obtain ⟨n, ⟨ns, h1⟩, i, b, s5, c, h0, h2⟩ := id D1
      refine ⟨_, rfl, _, _, _, _, rfl, rfl, SqL.of h2, rfl, _, _, rfl, rfl, _, rfl, ite2 (fun e1 => ?_) (fun e1 => ?_)⟩
      · refine ⟨_, rfl, _, _, _, _, rfl, rfl, SqL.of h2, rfl, .inl ⟨_, rfl, _, rfl, _, _, rfl, rfl, hmN, ?_⟩⟩
        refine ⟨_, rfl, _, _, _, _, rfl, rfl, SqL.of h2, rfl, _, rfl, _, _, rfl, rfl, ⟨hmN, hmA⟩, _, rfl, _, _, _, _, rfl, rfl, h2, rfl, ?_⟩
        exact ⟨_, rfl, q _ _ K1.upd (D1.set h0) (fun z => by omega) (fun _ => fm _)⟩
      · refine ⟨_, rfl, _, _, _, _, rfl, rfl, SqL.of h2, rfl, _, _, rfl, rfl, _, rfl, _, _, _, _, rfl, rfl, h2, rfl, ?_⟩
        refine ⟨_, rfl, _, _, _, _, rfl, rfl, SqL.of upd_same, rfl, _, _, rfl, rfl, .inr ⟨by decide, by decide⟩, _, rfl, _, _, rfl, rfl, .inr ⟨by decide, by decide⟩, _, _, rfl, rfl, _, rfl, _, _, _, _, rfl, rfl, SqL.of upd_same, rfl, _, _, rfl, rfl, .inr ⟨by decide, by decide⟩, _, _, rfl, rfl, .inl ⟨_, rfl, _, _, rfl, rfl, (by show (2147483647 : Int) ≠ 0; decide), _, rfl, _, _, _, _, rfl, rfl, upd_same, rfl, ?_⟩⟩
        refine ⟨_, rfl, _, _, _, _, rfl, rfl, SqL.of upd_same, rfl, _, _, rfl, rfl, .inr ⟨by decide, by decide⟩, _, rfl, _, _, _, _, rfl, rfl, SqL.of upd_same, rfl, _, _, rfl, rfl, .inr ⟨by decide, by decide⟩, _, _, rfl, rfl, _, _, rfl, rfl, .inl ⟨_, rfl, _, _, rfl, rfl, (by show (2147483399 : Int) ≠ 0; decide), .inl ⟨_, rfl, _, rfl, _, _, rfl, rfl, hmN, ?_⟩⟩⟩
        exact q _ _ K1.upd.upd ((D1.set h0).set h0) (fun z => by omega) (fun _ => fm _)
end
end Vf

set_option Elab.async false
set_option linter.all false
set_option maxRecDepth 100000
set_option maxHeartbeats 4000000
namespace Vf
open PySem PySem.Spec PyProof.Rows L2 TL
/-! ### the mathematics of tokens -/
def sW : Str := "abcdefghijklmnopqrstuvwxyz0123456789.,:;!?'()+=<>*/"
def sL : Str := "abcdefghijklmnopqrstuvwxyz"
def sB : Str := " \n"
def sOdd : Str := "\"#$&-ABCDEFGHIJKLMNOPQRSTUVWXYZ[\\]^_`|~"
def cW (c : Nat) : Bool := decide (c ∈ sW.cps.toList)
def cL (c : Nat) : Bool := decide (c ∈ sL.cps.toList)
def cB (c : Nat) : Bool := decide (c ∈ sB.cps.toList)
/-- the text of these signs -/
def mkS (zs : List Nat) : Str := ⟨zs.toArray⟩
def sV (zs : List Nat) : V := .str (mkS zs)
theorem mkS_cps (zs : List Nat) : (mkS zs).cps.toList = zs := rfl
theorem mkS_of (z : Str) : mkS z.cps.toList = z := rfl
theorem mkS_len (zs : List Nat) : (mkS zs).length = zs.length := by simp [mkS, Str.length]
theorem len_cps (z : Str) : z.length = z.cps.toList.length := by simp [Str.length]
theorem mkS_app (a b : List Nat) : mkS a ++ mkS b = mkS (a ++ b) := by
  have h : (mkS a ++ mkS b).cps.toList = a ++ b := by rw [Str.cps_append, Array.toList_append]; rfl
  rw [← h]
  rfl
theorem mkS_inj {a b : List Nat} (h : mkS a = mkS b) : a = b := by
  have h2 := congrArg (fun z : Str => z.cps.toList) h
  exact h2
theorem sW_list : sW.cps.toList = [97,98,99,100,101,102,103,104,105,106,107,108,109,110,111,112,113,114,115,116,117,118,119,120,121,122,48,49,50,51,52,53,54,55,56,57,46,44,58,59,33,63,39,40,41,43,61,60,62,42,47] := by decide +kernel
theorem sL_list : sL.cps.toList = [97,98,99,100,101,102,103,104,105,106,107,108,109,110,111,112,113,114,115,116,117,118,119,120,121,122] := by decide +kernel
theorem sB_list : sB.cps.toList = [32, 10] := by decide +kernel
theorem cL_W {c : Nat} (h : cL c = true) : cW c = true := by
  have h1 := of_decide_eq_true h
  refine decide_eq_true ?_
  rw [sL_list] at h1
  rw [sW_list]
  rw [show ([97,98,99,100,101,102,103,104,105,106,107,108,109,110,111,112,113,114,115,116,117,118,119,120,121,122,48,49,50,51,52,53,54,55,56,57,46,44,58,59,33,63,39,40,41,43,61,60,62,42,47] : List Nat) = [97,98,99,100,101,102,103,104,105,106,107,108,109,110,111,112,113,114,115,116,117,118,119,120,121,122] ++ [48,49,50,51,52,53,54,55,56,57,46,44,58,59,33,63,39,40,41,43,61,60,62,42,47] from rfl]
  exact List.mem_append_left _ h1
theorem cW_B {c : Nat} (h : cW c = true) : cB c = false := by
  refine decide_eq_false fun h2 => ?_
  rw [sB_list] at h2
  have h1 := of_decide_eq_true h
  rw [sW_list] at h1
  simp only [List.mem_cons, List.not_mem_nil, or_false] at h2
  rcases h2 with rfl | rfl
  · exact absurd h1 (by decide)
  · exact absurd h1 (by decide)
theorem cW_at : cW 64 = false := by
  unfold cW
  rw [sW_list]
  decide
theorem cB_at : cB 64 = false := by
  unfold cB
  rw [sB_list]
  decide
theorem cW_ne {c : Nat} (h : cW c = true) : c ≠ 64 := fun e => by
  rw [e, cW_at] at h
  cases h
theorem drop_le {α : Type} (p : α → Bool) : ∀ l : List α, (l.dropWhile p).length ≤ l.length
  | [] => Nat.le_refl _
  | c :: r => by
    rw [List.dropWhile_cons]
    split
    · exact Nat.le_trans (drop_le p r) (Nat.le_succ _)
    · exact Nat.le_refl _
/-- the tokens of a text -/
def tokF : Nat → List Nat → List (List Nat)
  | 0, _ => []
  | _ + 1, [] => []
  | n + 1, c :: r =>
    if cB c then tokF n r else if c = 64 then (c :: r.takeWhile cL) :: tokF n (r.dropWhile cL)
    else if cW c then (c :: r.takeWhile cW) :: tokF n (r.dropWhile cW) else [c] :: tokF n r
theorem tokF_more : ∀ (n m : Nat) (zs : List Nat), zs.length ≤ n → zs.length ≤ m → tokF n zs = tokF m zs
  | 0, 0, _, _, _ => rfl
  | 0, m + 1, zs, h, _ => by
    have e : zs = [] := List.length_eq_zero_iff.mp (Nat.le_zero.mp h)
    subst e
    rfl
  | n + 1, 0, zs, _, h => by
    have e : zs = [] := List.length_eq_zero_iff.mp (Nat.le_zero.mp h)
    subst e
    rfl
  | n + 1, m + 1, [], _, _ => rfl
  | n + 1, m + 1, c :: r, h1, h2 => by
    have a1 : r.length ≤ n := Nat.le_of_succ_le_succ h1
    have a2 : r.length ≤ m := Nat.le_of_succ_le_succ h2
    have d1 := drop_le cL r
    have d2 := drop_le cW r
    show (if cB c then tokF n r else if c = 64 then (c :: r.takeWhile cL) :: tokF n (r.dropWhile cL) else if cW c then (c :: r.takeWhile cW) :: tokF n (r.dropWhile cW) else [c] :: tokF n r) =
      (if cB c then tokF m r else if c = 64 then (c :: r.takeWhile cL) :: tokF m (r.dropWhile cL) else if cW c then (c :: r.takeWhile cW) :: tokF m (r.dropWhile cW) else [c] :: tokF m r)
    rw [tokF_more n m r a1 a2, tokF_more n m _ (Nat.le_trans d1 a1) (Nat.le_trans d1 a2), tokF_more n m _ (Nat.le_trans d2 a1) (Nat.le_trans d2 a2)]
def tok (zs : List Nat) : List (List Nat) := tokF zs.length zs
theorem tok_nil : tok [] = [] := rfl
theorem tok_cons (c : Nat) (r : List Nat) : tok (c :: r) = if cB c then tok r else if c = 64 then (c :: r.takeWhile cL) :: tok (r.dropWhile cL)
    else if cW c then (c :: r.takeWhile cW) :: tok (r.dropWhile cW) else [c] :: tok r := by
  show (if cB c then tokF r.length r else if c = 64 then (c :: r.takeWhile cL) :: tokF r.length (r.dropWhile cL) else if cW c then (c :: r.takeWhile cW) :: tokF r.length (r.dropWhile cW) else [c] :: tokF r.length r) = _
  rw [tokF_more r.length (r.dropWhile cL).length (r.dropWhile cL) (drop_le _ _) (Nat.le_refl _), tokF_more r.length (r.dropWhile cW).length (r.dropWhile cW) (drop_le _ _) (Nat.le_refl _)]
  rfl
/-! #### what the law's own walk has found, and how it goes on -/
def cont : Nat → List (List Nat) → List Nat → List (List Nat)
  | 1, f, r => f.dropLast ++ ((f.getLast?.getD []) ++ r.takeWhile cW) :: tok (r.dropWhile cW)
  | 2, f, r => f.dropLast ++ ((f.getLast?.getD []) ++ r.takeWhile cL) :: tok (r.dropWhile cL)
  | _, f, r => f ++ tok r
theorem cont0 (f : List (List Nat)) (r : List Nat) : cont 0 f r = f ++ tok r := rfl
theorem cont1 (g : List (List Nat)) (t r : List Nat) : cont 1 (g ++ [t]) r = g ++ (t ++ r.takeWhile cW) :: tok (r.dropWhile cW) := by
  show (g ++ [t]).dropLast ++ (((g ++ [t]).getLast?.getD []) ++ r.takeWhile cW) :: tok (r.dropWhile cW) = _
  rw [List.dropLast_concat, List.getLast?_concat]; rfl
theorem cont2 (g : List (List Nat)) (t r : List Nat) : cont 2 (g ++ [t]) r = g ++ (t ++ r.takeWhile cL) :: tok (r.dropWhile cL) := by
  show (g ++ [t]).dropLast ++ (((g ++ [t]).getLast?.getD []) ++ r.takeWhile cL) :: tok (r.dropWhile cL) = _
  rw [List.dropLast_concat, List.getLast?_concat]; rfl
/-- a sign that goes on -/
theorem cont1_on {c : Nat} (h : cW c = true) (g : List (List Nat)) (t r : List Nat) : cont 1 (g ++ [t]) (c :: r) = cont 1 (g ++ [t ++ [c]]) r := by
  rw [cont1, cont1, List.takeWhile_cons_of_pos h, List.dropWhile_cons_of_pos h, List.append_assoc]; rfl
theorem cont2_on {c : Nat} (h : cL c = true) (g : List (List Nat)) (t r : List Nat) : cont 2 (g ++ [t]) (c :: r) = cont 2 (g ++ [t ++ [c]]) r := by
  rw [cont2, cont2, List.takeWhile_cons_of_pos h, List.dropWhile_cons_of_pos h, List.append_assoc]; rfl
/-- a sign that doesn't -/
theorem cont1_off {c : Nat} (h : cW c = false) (g : List (List Nat)) (t r : List Nat) : cont 1 (g ++ [t]) (c :: r) = cont 0 (g ++ [t]) (c :: r) := by
  rw [cont1, cont0, List.takeWhile_cons_of_neg (by rw [h]; decide), List.dropWhile_cons_of_neg (by rw [h]; decide), List.append_nil, List.append_assoc]; rfl
theorem cont2_off {c : Nat} (h : cL c = false) (g : List (List Nat)) (t r : List Nat) : cont 2 (g ++ [t]) (c :: r) = cont 0 (g ++ [t]) (c :: r) := by
  rw [cont2, cont0, List.takeWhile_cons_of_neg (by rw [h]; decide), List.dropWhile_cons_of_neg (by rw [h]; decide), List.append_nil, List.append_assoc]; rfl
theorem cont_blank {c : Nat} (h : cB c = true) (f : List (List Nat)) (r : List Nat) : cont 0 f (c :: r) = cont 0 f r := by
  rw [cont0, cont0, tok_cons, if_pos h]
theorem cont_at (f : List (List Nat)) (r : List Nat) : cont 0 f (64 :: r) = cont 2 (f ++ [[64]]) r := by
  rw [cont0, cont2, tok_cons, if_neg (by rw [cB_at]; decide), if_pos rfl]; rfl
theorem cont_word {c : Nat} (h : cW c = true) (f : List (List Nat)) (r : List Nat) : cont 0 f (c :: r) = cont 1 (f ++ [[c]]) r := by
  rw [cont0, cont1, tok_cons, if_neg (by rw [cW_B h]; decide), if_neg (cW_ne h), if_pos h]; rfl
theorem cont_odd {c : Nat} (hb : cB c = false) (h : cW c = false) (ha : c ≠ 64) (f : List (List Nat)) (r : List Nat) : cont 0 f (c :: r) = cont 0 (f ++ [[c]]) r := by
  rw [cont0, cont0, tok_cons, if_neg (by rw [hb]; decide), if_neg ha, if_neg (by rw [h]; decide), List.append_assoc]; rfl
theorem cont_end1 (g : List (List Nat)) (t : List Nat) : cont 1 (g ++ [t]) [] = g ++ [t] := by
  rw [cont1]; show g ++ [t ++ []] = _; rw [List.append_nil]
theorem cont_end2 (g : List (List Nat)) (t : List Nat) : cont 2 (g ++ [t]) [] = g ++ [t] := by
  rw [cont2]; show g ++ [t ++ []] = _; rw [List.append_nil]
theorem cont_end0 (f : List (List Nat)) : cont 0 f [] = f := by
  rw [cont0, tok_nil, List.append_nil]
/-! #### tokens put together -/
/-- blanks and line feeds alone -/
def Bl (g : List Nat) : Prop := ∀ c ∈ g, cB c = true
/-- a token -/
def Tk (t : List Nat) : Prop := (∃ c, t = [c] ∧ cB c = false ∧ cW c = false ∧ c ≠ 64) ∨ (∃ r, t = 64 :: r ∧ ∀ c ∈ r, cL c = true) ∨ (t ≠ [] ∧ ∀ c ∈ t, cW c = true)
/-- the one runs on into the other -/
def runs (t u : List Nat) : Bool := if t.headD 0 = 64 then cL (u.headD 0) else cW (t.headD 0) && cW (u.headD 0)
theorem tok_gap : ∀ (g r : List Nat), Bl g → tok (g ++ r) = tok r
  | [], _, _ => rfl
  | c :: g, r, h => by
    rw [List.cons_append, tok_cons, if_pos (h c List.mem_cons_self)]
    exact tok_gap g r fun z hz => h z (List.mem_cons_of_mem _ hz)
theorem take_all {p : Nat → Bool} : ∀ (t r : List Nat), (∀ c ∈ t, p c = true) → (∀ c r', r = c :: r' → p c = false) → (t ++ r).takeWhile p = t ∧ (t ++ r).dropWhile p = r
  | [], [], _, _ => ⟨rfl, rfl⟩
  | [], c :: r, _, h => by
    have e := h c r rfl
    rw [List.nil_append, List.takeWhile_cons_of_neg (by rw [e]; decide), List.dropWhile_cons_of_neg (by rw [e]; decide)]
    exact ⟨rfl, rfl⟩
  | c :: t, r, ht, h => by
    have ⟨a, b⟩ := take_all t r (fun z hz => ht z (List.mem_cons_of_mem _ hz)) h
    rw [List.cons_append, List.takeWhile_cons_of_pos (ht c List.mem_cons_self), List.dropWhile_cons_of_pos (ht c List.mem_cons_self), a, b]
    exact ⟨rfl, rfl⟩
theorem tok_tok {t r : List Nat} (h : Tk t) (hr : r = [] ∨ runs t r = false) : tok (t ++ r) = t :: tok r := by
  rcases h with ⟨c, rfl, hb, hw, ha⟩ | ⟨u, rfl, hu⟩ | ⟨hn, hw⟩
  · show tok (c :: r) = _
    rw [tok_cons, if_neg (by rw [hb]; decide), if_neg ha, if_neg (by rw [hw]; decide)]
  · have hs : ∀ c r', r = c :: r' → cL c = false := by
      intro c r' e
      rcases hr with z | z
      · rw [z] at e; cases e
      · subst e; exact z
    have ⟨a, b⟩ := take_all u r hu hs
    rw [List.cons_append, tok_cons, if_neg (by rw [cB_at]; decide), if_pos rfl, a, b]
  · cases t with
    | nil => exact absurd rfl hn
    | cons c u =>
      have hc := hw c List.mem_cons_self
      have hs : ∀ x r', r = x :: r' → cW x = false := by
        intro x r' e
        rcases hr with z | z
        · rw [z] at e; cases e
        · subst e
          unfold runs at z
          rw [show (c :: u).headD 0 = c from rfl, if_neg (cW_ne hc), hc] at z
          exact z
      have ⟨a, b⟩ := take_all u r (fun z hz => hw z (List.mem_cons_of_mem _ hz)) hs
      rw [List.cons_append, tok_cons, if_neg (by rw [cW_B hc]; decide), if_neg (cW_ne hc), if_pos hc, a, b]
/-- tokens and the gaps behind them, put into one row -/
def mixed : List (List Nat) → List (List Nat) → List Nat
  | t :: ts, g :: gs => t ++ (g ++ mixed ts gs)
  | _, _ => []
/-- what is asked of a gap behind token k -/
def need (ts : List (List Nat)) (k : Nat) : Bool := match ts[k]?, ts[k + 1]? with
  | some t, some u => runs t u
  | _, _ => false
theorem runs_bl {t g r : List Nat} (hn : g ≠ []) (hg : Bl g) : runs t (g ++ r) = false := by
  cases g with
  | nil => exact absurd rfl hn
  | cons c g =>
    have hb := hg c List.mem_cons_self
    have hw : cW c = false := by
      cases e : cW c with
      | false => rfl
      | true => rw [cW_B e] at hb; cases hb
    have hl : cL c = false := by
      cases e : cL c with
      | false => rfl
      | true => rw [cL_W e] at hw; cases hw
    unfold runs
    rw [List.cons_append]
    show (if t.headD 0 = 64 then cL c else cW (t.headD 0) && cW c) = false
    rw [hl, hw, Bool.and_false]
    split <;> rfl
theorem runs_head {t u r : List Nat} (hu : u ≠ []) : runs t (u ++ r) = runs t u := by
  cases u with
  | nil => exact absurd rfl hu
  | cons c u => rfl
theorem Tk.ne {t : List Nat} (h : Tk t) : t ≠ [] := by
  rcases h with ⟨c, rfl, _⟩ | ⟨r, rfl, _⟩ | ⟨h, _⟩
  · exact fun e => by cases e
  · exact fun e => by cases e
  · exact h
theorem tok_mixed : ∀ (ts gs : List (List Nat)), (∀ t ∈ ts, Tk t) → gs.length = ts.length → (∀ k g, gs[k]? = some g → Bl g ∧ (need ts k = true → g ≠ [])) → tok (mixed ts gs) = ts
  | [], [], _, _, _ => rfl
  | [], _ :: _, _, h, _ => by cases h
  | _ :: _, [], _, h, _ => by cases h
  | t :: ts, g :: gs, ht, hl, hg => by
    have ih := tok_mixed ts gs (fun u hu => ht u (List.mem_cons_of_mem _ hu)) (Nat.succ.inj hl) (fun k g' e => by
      have := hg (k + 1) g' e
      exact this)
    obtain ⟨hb, hne⟩ := hg 0 g rfl
    show tok (t ++ (g ++ mixed ts gs)) = t :: ts
    rw [tok_tok (ht t List.mem_cons_self), tok_gap g _ hb, ih]
    by_cases e : g = []
    · subst e
      rw [List.nil_append]
      cases ts with
      | nil => exact .inl (by cases gs <;> rfl)
      | cons u us =>
        cases gs with
        | nil => cases hl
        | cons g2 gs2 =>
          refine .inr ?_
          show runs t (u ++ (g2 ++ mixed us gs2)) = false
          rw [runs_head (ht u (List.mem_cons_of_mem _ List.mem_cons_self)).ne]
          cases q : runs t u with
          | false => rfl
          | true => exact absurd rfl (hne q)
    · exact .inr (runs_bl e hb)
/-! #### small things -/
theorem take_succ' {α : Type} {l : List α} {i : Nat} {x : α} (h : l[i]? = some x) : l.take (i + 1) = l.take i ++ [x] := by
  rw [List.take_add_one, h]; rfl
theorem big_ok {n : Nat} (h : n ≤ 100000) : n ≤ sizeLine := Nat.le_trans h (by decide)
theorem get_sV {ts : List (List Nat)} {i : Nat} {t : List Nat} (h : ts[i]? = some t) : (ts.map sV)[i]? = some (sV t) := by
  rw [List.getElem?_map, h]; rfl
theorem drop_at {zs : List Nat} {i c : Nat} (h : zs[i]? = some c) : zs.drop i = c :: zs.drop (i + 1) := by
  have ⟨h1, h2⟩ := List.getElem?_eq_some_iff.mp h
  rw [List.drop_eq_getElem_cons h1, h2]
theorem same_mut {H H' : Hp} {p : Addr} {o : HO} (a : Same H H') (hp : H p = none) : Same H (upd H' p o) := fun x u h => by
  rw [upd_ne (ne_of_none h hp)]; exact a x u h
theorem same_upd {H H' : Hp} {p : Addr} {o : HO} (a : Same H H') (hp : H' p = none) : Same H (upd H' p o) := fun x u h => by
  have h2 := a x u h
  rw [upd_ne (ne_of_none h2 hp)]; exact h2
theorem dec_sign (c : Nat) (z : Str) (e : Nat) (hz : z = mkS [e]) : decide (V.str ⟨#[c]⟩ = V.str z) = decide (c = e) := by
  rw [hz]
  by_cases h : c = e
  · subst h; rw [decide_eq_true rfl]; exact decide_eq_true rfl
  · rw [decide_eq_false h]
    refine decide_eq_false fun q => h ?_
    have e2 : mkS [c] = mkS [e] := V.str.inj q
    have e3 := mkS_inj e2
    injection e3
theorem tf (b : Bool) : b = true ∨ b = false := by cases b <;> simp
theorem bl_of {p : Prop} [Decidable p] {b : Bool} (h : decide p = b) : V.bl (decide p) = V.bl b := congrArg V.bl h
theorem at_mk : (("@" : Str)) = mkS [64] := by decide +kernel
/-! ### texts put together -/
theorem empty_mk : (("" : Str)) = mkS [] := by decide +kernel
theorem map_sV (zss : List (List Nat)) : zss.map sV = (zss.map mkS).map V.str := by
  rw [List.map_map]; rfl
theorem sum_len : ∀ zss : List (List Nat), ((zss.map mkS).map (·.length)).sum = zss.flatten.length
  | [] => rfl
  | z :: r => by
    rw [List.map_cons, List.map_cons, List.sum_cons, sum_len r, List.flatten_cons, List.length_append, mkS_len]
theorem joinL_nil : ∀ zss : List (List Nat), joinL [] zss = zss.flatten
  | [] => rfl
  | [z] => by show z = z ++ []; rw [List.append_nil]
  | z :: y :: r => by
    show z ++ ([] ++ joinL [] (y :: r)) = z ++ (y :: r).flatten
    rw [List.nil_append, joinL_nil (y :: r)]
theorem join_mk (zss : List (List Nat)) : Txt.join ("" : Str) (zss.map mkS) = mkS zss.flatten := by
  have h : tl (Txt.join ("" : Str) (zss.map mkS)) = zss.flatten := by
    rw [join_eq, tl_join, show (zss.map mkS).map tl = zss from (by rw [List.map_map]; exact List.map_id'' (fun _ => rfl) zss), empty_mk]
    exact joinL_nil zss
  rw [← h]; rfl
theorem flat_len {B : Nat} : ∀ {zss : List (List Nat)}, (∀ z ∈ zss, z.length ≤ B) → zss.flatten.length ≤ zss.length * B
  | [], _ => Nat.zero_le _
  | z :: r, h => by
    have ih := flat_len (zss := r) fun y hy => h y (List.mem_cons_of_mem _ hy)
    have hz := h z List.mem_cons_self
    rw [List.flatten_cons, List.length_append, List.length_cons, Nat.succ_mul]
    omega
theorem flat_one : ∀ {zss : List (List Nat)}, (∀ z ∈ zss, z.length = 1) → zss.flatten.length = zss.length
  | [], _ => rfl
  | z :: r, h => by
    rw [List.flatten_cons, List.length_append, List.length_cons, flat_one fun y hy => h y (List.mem_cons_of_mem _ hy), h z List.mem_cons_self]
    omega
theorem blank_mk : ((" " : Str)) = mkS [32] := by decide +kernel
theorem feed_mk : (("\n" : Str)) = mkS [10] := by decide +kernel
end Vf

set_option Elab.async false
set_option linter.all false
set_option maxRecDepth 100000
set_option maxHeartbeats 4000000
namespace Vf
open PySem PySem.Spec PyProof.Rows L2 TL
/-- what the list of a comprehension holds: texts -/
def PvS (R : List Nat → Prop) (d l : Addr) (H : Hp) (D : Addr) (i : Nat) (H' : Hp) : Prop :=
  ∃ zss : List (List Nat), zss.length = i ∧ (∀ zs ∈ zss, R zs) ∧ Kp d H H' ∧ DI d l H' ∧ H' D = some (.lst (zss.map sV))
theorem PvS.start {R : List Nat → Prop} {d l D : Addr} {H : Hp} (hD : DI d l H) (nD : H D = none) : PvS R d l H D 0 (upd H D (.lst [])) :=
  ⟨[], rfl, (fun _ h => nomatch h), (Kp.refl d H).new nD, hD.new nD, upd_same⟩
theorem PvS.dice {R : List Nat → Prop} {d l D : Addr} {H H1 : Hp} {i : Nat} (p : PvS R d l H D i H1) : DI d l H1 := by
  obtain ⟨_, _, _, _, h, _⟩ := p
  exact h
theorem PvS.step {R : List Nat → Prop} {d l D : Addr} {H H1 H2 : Hp} {i : Nat} {zs : List Nat} (hD : DI d l H) (nD : H D = none) (p : PvS R d l H D i H1) (hi : i < 100000) (K2 : Kp d H1 H2) (D2 : DI d l H2) (r : R zs) :
    ∃ acc, H2 D = some (.lst acc) ∧ acc.length < sizeLine ∧ PvS R d l H D (i + 1) (upd H2 D (.lst (acc ++ [sV zs]))) := by
  obtain ⟨zss, hl, hR, K1, D1, e1⟩ := p
  have n1 := hD.nd nD
  have e2 : H2 D = some (.lst (zss.map sV)) := K2 _ _ n1.1 e1
  refine ⟨_, e2, ?_, zss ++ [zs], ?_, ?_, (K1.trans K2).mut nD, D2.at n1.1 n1.2, ?_⟩
  · rw [List.length_map, hl]
    exact Nat.lt_of_lt_of_le hi (by decide)
  · rw [List.length_append, hl]; rfl
  · intro z hz
    rcases List.mem_append.mp hz with h | h
    · exact hR z h
    · rw [List.mem_singleton.mp h]; exact r
  · rw [upd_same, List.map_append]; rfl
section
variable {P : Program} {w : World} {K : PySem.W.Frag} {mg : Str → Option Value} {base : Heap}
/-! ### pick, rare -/
/-- what is picked from -/
def Row (K : PySem.W.Frag) (H : Hp) (d : Addr) (row : V) (xs : List V) : Prop :=
  (∃ a, row = .ref a ∧ a ≠ d ∧ SqL K H a xs) ∨ ∃ zs, row = sV zs ∧ xs = zs.map fun c => sV [c]
def spPick (K : PySem.W.Frag) : Sp := fun vs H Q _ => ∃ (d l : Addr) (row : V) (xs : List V), vs = [.ref d, row] ∧ DI d l H ∧ Row K H d row xs ∧ 0 < xs.length ∧ xs.length ≤ 1000 ∧
  ∀ H' v, Kp d H H' → DI d l H' → v ∈ xs → Q v H'
theorem at_draw {xs : List V} {r : Int} (h : 0 < xs.length) (h1 : (xs.length : Int) < 2 → r = 0) (h2 : 2 ≤ (xs.length : Int) → 0 ≤ r ∧ r < (xs.length : Int)) :
    ∃ (j : Nat) (hj : j < xs.length), r = (j : Int) := by
  by_cases h3 : 2 ≤ (xs.length : Int)
  · have ⟨a, b⟩ := h2 h3
    exact ⟨r.toNat, by omega, by omega⟩
  · exact ⟨0, h, by rw [h1 (by omega)]; rfl⟩
theorem ok_pick (T : Txt K mg) : FnOk P w K mg base CX0 2 T.a_law_pick T.d_law_pick ["_law_d", "_law_row"] (spPick K) := by
  have G_law_draw : FnOk P w K mg base CX0 1 T.a_law_draw T.d_law_draw ["_law_d", "_law_many"] spDraw := ok_draw T
  refine T.D_law_pick.F.ok sc_law_pick (fun vs H Q E h => ?_) (fun cdv A outer s H vs Q E hr h => ?_)
  · obtain ⟨d, l, row, xs, rfl, _⟩ := h
    rfl
  · obtain ⟨d, l, row, xs, rfl, hD, hR, h0, hx, q⟩ := h
    refine ⟨_, (pss_one (ps_ret (pe_ix ix_seq (pv 1) (pe_call G_law_draw (hr.mono (by decide)) (by rfl) T.D_law_draw.G T.D_law_draw.F.kp T.D_law_draw.B .nil pass0 (pa_cons (pv 0) (pa_cons (pe_callB call_len (by rfl) T.n_len PySem.boot_len (pa_cons (pv 1) pa_nil)) pa_nil))) (fun _ _ => rfl)))), ?_⟩
    have hlen : LenV K row H xs.length := by
      rcases hR with ⟨a, rfl, _, hS⟩ | ⟨zs, rfl, rfl⟩
      · exact .inl ⟨_, hS, rfl⟩
      · rw [List.length_map] at hx ⊢
        refine ⟨?_, (mkS_len zs).symm⟩
        rw [mkS_len]
        exact Nat.le_trans hx (by decide)
    refine ⟨_, rfl, _, rfl, _, rfl, _, _, rfl, hlen, d, l, _, rfl, hD, by omega, fun H' r k D' e1 e2 => ?_⟩
    obtain ⟨j, hj, rfl⟩ := at_draw h0 e1 e2
    rcases hR with ⟨a, rfl, nd, hS⟩ | ⟨zs, rfl, rfl⟩
    · exact .inl ⟨a, xs, _, xs[j], rfl, rfl, k.sq nd hS, atI_nat (List.getElem?_eq_getElem hj), q H' _ k D' (List.getElem_mem hj)⟩
    · have hj2 : j < zs.length := by rw [List.length_map] at hj; exact hj
      refine .inr (.inr ⟨mkS zs, _, zs[j], rfl, rfl, ?_, ?_, q H' _ k D' (List.mem_map.mpr ⟨zs[j], List.getElem_mem hj2, rfl⟩)⟩)
      · rw [mkS_len]; rw [List.length_map] at hx; exact Nat.le_trans hx (by decide)
      · rw [mkS_cps]; exact atI_nat (List.getElem?_eq_getElem hj2)
def spRare : Sp := fun vs H Q _ => ∃ (d l : Addr) (m : Int), vs = [.ref d, .int m] ∧ DI d l H ∧ m ≤ 1000000 ∧ ∀ H' b, Kp d H H' → DI d l H' → Q (.bl b) H'
theorem ok_rare (T : Txt K mg) : FnOk P w K mg base CX0 2 T.a_law_rare T.d_law_rare ["_law_d", "_law_many"] spRare := by
  have G_law_draw : FnOk P w K mg base CX0 1 T.a_law_draw T.d_law_draw ["_law_d", "_law_many"] spDraw := ok_draw T
  refine T.D_law_rare.F.ok sc_law_rare (fun vs H Q E h => ?_) (fun cdv A outer s H vs Q E hr h => ?_)
  · obtain ⟨d, l, m, rfl, _⟩ := h
    rfl
  · obtain ⟨d, l, m, rfl, hD, hm, q⟩ := h
    refine ⟨_, (pss_one (ps_ret (pe_cmpR op_eq (pe_call G_law_draw (hr.mono (by decide)) (by rfl) T.D_law_draw.G T.D_law_draw.F.kp T.D_law_draw.B .nil pass0 (pa_cons (pv 0) (pa_cons (pv 1) pa_nil))) (pe_op op_fdivN (pe_op op_mul (pv 1) pe_int) pe_int) (nomark _)))), ?_⟩
    refine ⟨_, rfl, _, rfl, d, l, m, rfl, hD, hm, fun H' r k D' e1 e2 => ?_⟩
    exact ⟨_, rfl, _, _, rfl, rfl, .inr ⟨by decide, by decide⟩, _, _, rfl, rfl, ⟨by decide, by decide⟩, rfl, q H' _ k D'⟩
/-! ### run, word -/
def spRun : Sp := fun vs H Q _ => ∃ (d l : Addr) (cs : List Nat) (n : Int), vs = [.ref d, sV cs, .int n] ∧ DI d l H ∧ 0 < cs.length ∧ cs.length ≤ 1000 ∧ 0 ≤ n ∧ n ≤ 1000 ∧
  ∀ H' zs, Kp d H H' → DI d l H' → (zs.length : Int) = n → (∀ c ∈ zs, c ∈ cs) → Q (sV zs) H'
/-- texts of one sign each -/
def One (cs zs : List Nat) : Prop := ∃ c, zs = [c] ∧ c ∈ cs
theorem one_flat {cs : List Nat} : ∀ {zss : List (List Nat)}, (∀ z ∈ zss, One cs z) → zss.flatten.length = zss.length ∧ ∀ c ∈ zss.flatten, c ∈ cs
  | [], _ => ⟨rfl, fun _ h => nomatch h⟩
  | z :: r, h => by
    obtain ⟨c, rfl, hc⟩ := h z List.mem_cons_self
    have ⟨a, b⟩ := one_flat (zss := r) fun y hy => h y (List.mem_cons_of_mem _ hy)
    rw [List.flatten_cons]
    refine ⟨by rw [List.length_append, a]; show 1 + r.length = r.length + 1; omega, fun x hx => ?_⟩
    rcases List.mem_append.mp hx with e | e
    · rw [List.mem_singleton.mp e]; exact hc
    · exact b x e
theorem pick_one {d l : Addr} {cs : List Nat} {H : Hp} {Q : VK} (hD : DI d l H) (h0 : 0 < cs.length) (hx : cs.length ≤ 1000) (q : ∀ H' zs, Kp d H H' → DI d l H' → One cs zs → Q (sV zs) H') : spPick K [.ref d, sV cs] H Q E0 := by
  refine ⟨d, l, _, _, rfl, hD, .inr ⟨cs, rfl, rfl⟩, by rw [List.length_map]; exact h0, by rw [List.length_map]; exact hx, fun H' v k D' hv => ?_⟩
  obtain ⟨c, hc, rfl⟩ := List.mem_map.mp hv
  exact q H' _ k D' ⟨c, rfl, hc⟩
def spWord : Sp := fun vs H Q _ => ∃ (d l : Addr) (lo hi : Int), vs = [.ref d, .int lo, .int hi] ∧ DI d l H ∧ 0 ≤ lo ∧ lo ≤ hi ∧ hi ≤ 900 ∧
  ∀ H' zs, Kp d H H' → DI d l H' → lo ≤ (zs.length : Int) → (zs.length : Int) ≤ hi → (∀ c ∈ zs, cW c = true) → Q (sV zs) H'
theorem ok_word (T : Txt K mg) : FnOk P w K mg base CX0 3 T.a_law_word T.d_law_word ["_law_d", "_law_low", "_law_high"] spWord := by
  have G_law_draw : FnOk P w K mg base CX0 1 T.a_law_draw T.d_law_draw ["_law_d", "_law_many"] spDraw := ok_draw T
  have G_law_pick : FnOk P w K mg base CX0 2 T.a_law_pick T.d_law_pick ["_law_d", "_law_row"] (spPick K) := ok_pick T
  refine T.D_law_word.F.ok sc_law_word (fun vs H Q E h => ?_) (fun cdv A outer s H vs Q E hr h => ?_)
  · obtain ⟨d, l, lo, hi, rfl, _⟩ := h
    rfl
  · obtain ⟨d, l, lo, hi, rfl, hD, h0, hlo, hhi, q⟩ := h
    refine ⟨_, (pss_cons (ps_set (i := 3) sc_law_word.nd rfl (.inl rfl) (pe_op op_add (pv 1) (pe_call G_law_draw (hr.mono (by decide)) (by rfl) T.D_law_draw.G T.D_law_draw.F.kp T.D_law_draw.B .nil pass0 (pa_cons (pv 0) (pa_cons (pe_op op_add (pe_op op_sub (pv 2) (pv 1)) pe_int) pa_nil)))))
      (pss_cons (ps_set (i := 4) sc_law_word.nd rfl (.inr rfl) (pe_call G_law_pick (hr.mono (by decide)) (by rfl) T.D_law_pick.G T.D_law_pick.F.kp T.D_law_pick.B .nil pass0 (pa_cons (pv 0) (pa_cons (pe_lst (pa_cons pe_str (pa_cons pe_str (pa_cons pe_str (pa_cons pe_str (pa_cons pe_str (pa_cons pe_str pa_nil))))))) pa_nil))))
      (pss_one (ps_ret (pe_join pe_str (pe_lc (own := [("_law_k", 5)]) (g := gName 5) (tt := tYes) rfl sc_law_word.nd (pi_range1 (by rfl) T.n_range (pa_cons (pv 3) pa_nil)) (blkOk_by (own := [("_law_k", 5)]) (N := ["_law_d", "_law_low", "_law_high", "_law_long", "_law_signs", "_law_k"]) (sc := defScope s_law_word) (by decide +kernel)) (fun _ _ _ _ _ => (pg_name (i := 5) sc_law_word.nd rfl (.inl rfl))) (fun _ _ _ _ _ => pts_nil) (fun _ _ _ _ _ => (pe_call G_law_pick (hr.mono (by decide)) (by rfl) T.D_law_pick.G T.D_law_pick.F.kp T.D_law_pick.B .nil pass0 (pa_cons (pv 0) (pa_cons (pv 4) pa_nil)))))))))), ?_⟩
    refine ⟨_, rfl, _, rfl, _, rfl, _, rfl, _, _, rfl, rfl, _, _, rfl, rfl, d, l, _, rfl, hD, by omega, fun H1 r K1 D1 r1 r2 => ?_⟩
    have hr0 : 0 ≤ r ∧ r ≤ hi - lo := by
      by_cases z : hi - lo + 1 < 2
      · have := r1 z; omega
      · have := r2 (by omega); omega
    refine ⟨_, _, rfl, rfl, ?_⟩
    refine ⟨_, rfl, ⟨by show 6 ≤ sizeLine; decide, fun p np => ?_⟩⟩
    refine ⟨d, l, _, _, rfl, D1.new np, .inl ⟨p, rfl, (D1.nd np).1, SqL.of upd_same⟩, by show 0 < 6; decide, by show 6 ≤ 1000; decide, fun H2 v K2 D2 hv => ?_⟩
    have hz : ∃ z : Str, v = .str z ∧ (0 < z.cps.toList.length ∧ z.cps.toList.length ≤ 1000 ∧ z.cps.toList.all cW = true) := by
      simp only [List.mem_cons, List.not_mem_nil, or_false] at hv
      rcases hv with rfl | rfl | rfl | rfl | rfl | rfl <;> exact ⟨_, rfl, by decide +kernel⟩
    obtain ⟨z, rfl, hz0, hz1, hz2⟩ := hz
    have K3 : Kp d H H2 := (K1.new np).trans K2
    refine ⟨⟨_, rfl⟩, _, rfl, _, rfl, by omega, by omega, ?_⟩
    refine fun D nD => lc_range (lo := 0) (n := (lo + r).toNat) (PvS (One z.cps.toList) d l H2 D) (PvS.start D2 nD) (fun i H1 hi p => ⟨rfl, ?_⟩) (fun H' p => ?_)
    · exact ⟨_, rfl, _, rfl, pick_one (cs := z.cps.toList) p.dice hz0 hz1 fun H2 zs k2 d2 r => p.step D2 nD (by omega) k2 d2 r⟩
    · obtain ⟨zss, hl, hR, K4, D4, e1⟩ := p
      have ⟨f1, f2⟩ := one_flat hR
      refine ⟨_, D, zss.map mkS, rfl, rfl, .inl (SqL.of (by rw [e1, map_sV])), ?_, ?_⟩
      · rw [sum_len, f1, show (("" : Str)).length = 0 from by rw [empty_mk, mkS_len]; rfl]; omega
      · rw [join_mk]
        exact q H' _ (K3.trans K4) D4 (by rw [f1, hl]; omega) (by rw [f1, hl]; omega) fun c hc => List.all_eq_true.mp hz2 c (f2 c hc)
end
end Vf

set_option Elab.async false
set_option linter.all false
set_option maxRecDepth 100000
set_option maxHeartbeats 4000000
namespace Vf
open PySem PySem.Spec PyProof.Rows L2 TL
/-- texts that the dice make, no argument but the dice -/
def spStr (R : List Nat → Prop) : Sp := fun vs H Q _ => ∃ (d l : Addr), vs = [.ref d] ∧ DI d l H ∧ ∀ H' zs, Kp d H H' → DI d l H' → R zs → Q (sV zs) H'
def spC (z : Str) : Sp := fun vs H Q _ => vs = [] ∧ Q (.str z) H
def RWord (zs : List Nat) : Prop := zs ≠ [] ∧ zs.length ≤ 16 ∧ ∀ c ∈ zs, cW c = true
def RName (zs : List Nat) : Prop := zs ≠ [] ∧ zs.length ≤ 8 ∧ ∀ c ∈ zs, cL c = true
def RTok (zs : List Nat) : Prop := Tk zs ∧ zs.length ≤ 60
theorem ne_of_len {zs : List Nat} {n : Int} (h : (zs.length : Int) = n) (h0 : 0 < n) : zs ≠ [] := fun e => by
  rw [e] at h
  have : (([] : List Nat).length : Int) = 0 := rfl
  omega
theorem mem_cW {c : Nat} (h : c ∈ sW.cps.toList) : cW c = true := decide_eq_true h
theorem mem_cL {c : Nat} (h : c ∈ sL.cps.toList) : cL c = true := decide_eq_true h
theorem sW_n : sW.cps.toList.length = 51 := by decide +kernel
theorem sL_n : sL.cps.toList.length = 26 := by decide +kernel
theorem sOdd_n : sOdd.cps.toList.length = 39 := by decide +kernel
def sNames : Str := ("let hole page note key head par list item table row cell show over up low fence grid line" : Str) ++ (" figure label contents index" : Str)
theorem names_ok : ∀ y ∈ Txt.split sNames (" " : Str), (y.cps.toList.length ≠ 0 ∧ y.cps.toList.length ≤ 8) ∧ y.cps.toList.all cL = true := by decide +kernel
theorem names_n : 0 < (Txt.split sNames (" " : Str)).length ∧ (Txt.split sNames (" " : Str)).length ≤ 1000 := by decide +kernel
section
variable {P : Program} {w : World} {K : PySem.W.Frag} {mg : Str → Option Value} {base : Heap}
end
end Vf

set_option Elab.async false
set_option linter.all false
set_option maxRecDepth 100000
set_option maxHeartbeats 4000000
namespace Vf
open PySem PySem.Spec PyProof.Rows L2 TL
/-! ### trees -/
mutual
inductive Tr where
  | nil
  | word (w : List Nat) (r : Tr)
  | call (n : List Nat) (a : Ar) (r : Tr)
inductive Ar where
  | nil
  | cons (t : Tr) (r : Ar)
end
mutual
def toksT : Tr → List (List Nat)
  | .nil => []
  | .word w r => w :: toksT r
  | .call n a r => (64 :: n) :: (toksA a ++ toksT r)
def toksA : Ar → List (List Nat)
  | .nil => []
  | .cons t r => [123] :: (toksT t ++ ([125] :: toksA r))
end
mutual
def depT : Tr → Nat
  | .nil => 0
  | .word _ r => depT r
  | .call _ a r => max (depA a) (depT r)
def depA : Ar → Nat
  | .nil => 0
  | .cons t r => max (depT t + 1) (depA r)
end
mutual
def GoodT : Tr → Prop
  | .nil => True
  | .word w r => RWord w ∧ GoodT r
  | .call n a r => RName n ∧ GoodA a ∧ GoodT r
def GoodA : Ar → Prop
  | .nil => True
  | .cons t r => GoodT t ∧ GoodA r
end
def appT : Tr → Tr → Tr
  | .nil, u => u
  | .word w r, u => .word w (appT r u)
  | .call n a r, u => .call n a (appT r u)
def appA : Ar → Ar → Ar
  | .nil, u => u
  | .cons t r, u => .cons t (appA r u)
theorem toksT_app : ∀ t u : Tr, toksT (appT t u) = toksT t ++ toksT u
  | .nil, u => by simp only [appT, toksT, List.nil_append]
  | .word w r, u => by simp only [appT, toksT, toksT_app r u, List.cons_append]
  | .call n a r, u => by simp only [appT, toksT, toksT_app r u, List.cons_append, List.append_assoc]
theorem toksA_app : ∀ t u : Ar, toksA (appA t u) = toksA t ++ toksA u
  | .nil, u => by simp only [appA, toksA, List.nil_append]
  | .cons t r, u => by simp only [appA, toksA, toksA_app r u, List.cons_append, List.append_assoc]
theorem depT_app : ∀ t u : Tr, depT (appT t u) = max (depT t) (depT u)
  | .nil, u => by simp only [appT, depT]; omega
  | .word w r, u => by simp only [appT, depT, depT_app r u]
  | .call n a r, u => by simp only [appT, depT, depT_app r u]; omega
theorem depA_app : ∀ t u : Ar, depA (appA t u) = max (depA t) (depA u)
  | .nil, u => by simp only [appA, depA]; omega
  | .cons t r, u => by simp only [appA, depA, depA_app r u]; omega
theorem GoodT_app : ∀ {t u : Tr}, GoodT t → GoodT u → GoodT (appT t u)
  | .nil, _, _, h => by simp only [appT]; exact h
  | .word w r, _, h, k => by
    simp only [appT, GoodT] at h ⊢
    exact ⟨h.1, GoodT_app h.2 k⟩
  | .call n a r, _, h, k => by
    simp only [appT, GoodT] at h ⊢
    exact ⟨h.1, h.2.1, GoodT_app h.2.2 k⟩
theorem GoodA_app : ∀ {t u : Ar}, GoodA t → GoodA u → GoodA (appA t u)
  | .nil, _, _, h => by simp only [appA]; exact h
  | .cons t r, _, h, k => by
    simp only [appA, GoodA] at h ⊢
    exact ⟨h.1, GoodA_app h.2 k⟩
/-- every token of a good tree is short and not empty -/
theorem RWord.len {z : List Nat} (h : RWord z) : z.length ≤ 16 := h.2.1
theorem RName.len {z : List Nat} (h : RName z) : z.length ≤ 8 := h.2.1
mutual
theorem toksT_len : ∀ {t : Tr}, GoodT t → ∀ z ∈ toksT t, z.length ≤ 17 ∧ z ≠ []
  | .nil, _ => fun z h => by simp only [toksT] at h; cases h
  | .word w r, g => fun z h => by
    simp only [toksT, GoodT] at h g
    rcases List.mem_cons.mp h with rfl | h
    · exact ⟨Nat.le_succ_of_le g.1.len, g.1.1⟩
    · exact toksT_len g.2 z h
  | .call n a r, g => fun z h => by
    simp only [toksT, GoodT] at h g
    rcases List.mem_cons.mp h with rfl | h
    · refine ⟨?_, by simp⟩
      have := g.1.len
      show n.length + 1 ≤ 17
      omega
    · rcases List.mem_append.mp h with h | h
      · exact toksA_len g.2.1 z h
      · exact toksT_len g.2.2 z h
theorem toksA_len : ∀ {t : Ar}, GoodA t → ∀ z ∈ toksA t, z.length ≤ 17 ∧ z ≠ []
  | .nil, _ => fun z h => by simp only [toksA] at h; cases h
  | .cons t r, g => fun z h => by
    simp only [toksA, GoodA] at h g
    rcases List.mem_cons.mp h with rfl | h
    · exact ⟨by show 1 ≤ 17; decide, by simp⟩
    · rcases List.mem_append.mp h with h | h
      · exact toksT_len g.1 z h
      · rcases List.mem_cons.mp h with rfl | h
        · exact ⟨by show 1 ≤ 17; decide, by simp⟩
        · exact toksA_len g.2 z h
end
/-! ### trees in the heap -/
def kWord : V := .str ("word" : Str)
def kCall : V := .str ("call" : Str)
mutual
def RepT (H : Hp) : Tr → List V → Prop
  | .nil, vs => vs = []
  | .word w r, vs => ∃ p vs', vs = .ref p :: vs' ∧ H p = some (.tup [kWord, sV w]) ∧ RepT H r vs'
  | .call n a r, vs => ∃ p q us vs', vs = .ref p :: vs' ∧ H p = some (.tup [kCall, sV n, .ref q]) ∧ H q = some (.tup us) ∧ RepA H a us ∧ RepT H r vs'
def RepA (H : Hp) : Ar → List V → Prop
  | .nil, vs => vs = []
  | .cons t r, vs => ∃ p us vs', vs = .ref p :: vs' ∧ H p = some (.tup us) ∧ RepT H t us ∧ RepA H r vs'
end
/-- tuples stay -/
def TKeep (H H' : Hp) : Prop := ∀ p xs, H p = some (.tup xs) → H' p = some (.tup xs)
theorem TKeep.refl (H : Hp) : TKeep H H := fun _ _ h => h
theorem TKeep.trans {H H1 H2 : Hp} (a : TKeep H H1) (b : TKeep H1 H2) : TKeep H H2 := fun p xs h => b p xs (a p xs h)
theorem TKeep.same {H H' : Hp} (s : Same H H') : TKeep H H' := fun p xs h => s p _ h
theorem TKeep.kp {d l : Addr} {H H' : Hp} (s : Kp d H H') (hD : DI d l H) : TKeep H H' := fun p xs h => s p _ (fun e => by
  obtain ⟨_, _, _, _, _, _, _, e2⟩ := hD
  rw [e, e2] at h; cases h) h
theorem TKeep.kpl {p : Addr} {H H' : Hp} {xs : List V} (s : Kp p H H') (hp : H p = some (.lst xs)) : TKeep H H' := fun q ys h => s q _ (fun e => by rw [e, hp] at h; cases h) h
theorem TKeep.new {H : Hp} {p : Addr} {o : HO} (hp : H p = none) : TKeep H (upd H p o) := fun q xs h => by rw [upd_ne (ne_of_none h hp)]; exact h
theorem TKeep.mut {H : Hp} {p : Addr} {o : HO} {ys : List V} (hp : H p = some (.lst ys)) : TKeep H (upd H p o) := fun q xs h => by
  rw [upd_ne (fun e => by rw [e, hp] at h; cases h)]; exact h
mutual
theorem RepT.keep {H H' : Hp} (k : TKeep H H') : ∀ {t : Tr} {vs : List V}, RepT H t vs → RepT H' t vs
  | .nil, vs, h => by simp only [RepT] at h ⊢; exact h
  | .word w r, vs, h => by
    simp only [RepT] at h ⊢
    obtain ⟨p, vs', e, a, b⟩ := h
    exact ⟨p, vs', e, k _ _ a, RepT.keep k b⟩
  | .call n a r, vs, h => by
    simp only [RepT] at h ⊢
    obtain ⟨p, q, us, vs', e, a, b, c, d⟩ := h
    exact ⟨p, q, us, vs', e, k _ _ a, k _ _ b, RepA.keep k c, RepT.keep k d⟩
theorem RepA.keep {H H' : Hp} (k : TKeep H H') : ∀ {t : Ar} {vs : List V}, RepA H t vs → RepA H' t vs
  | .nil, vs, h => by simp only [RepA] at h ⊢; exact h
  | .cons t r, vs, h => by
    simp only [RepA] at h ⊢
    obtain ⟨p, us, vs', e, a, b, c⟩ := h
    exact ⟨p, us, vs', e, k _ _ a, RepT.keep k b, RepA.keep k c⟩
end
theorem RepT.app {H : Hp} : ∀ {t u : Tr} {vs us : List V}, RepT H t vs → RepT H u us → RepT H (appT t u) (vs ++ us)
  | .nil, u, vs, us, h, k => by
    simp only [RepT] at h
    subst h
    exact k
  | .word w r, u, vs, us, h, k => by
    simp only [RepT, appT] at h ⊢
    obtain ⟨p, vs', rfl, a, b⟩ := h
    exact ⟨p, vs' ++ us, rfl, a, RepT.app b k⟩
  | .call n a r, u, vs, us, h, k => by
    simp only [RepT, appT] at h ⊢
    obtain ⟨p, q, ws, vs', rfl, a, b, c, d⟩ := h
    exact ⟨p, q, ws, vs' ++ us, rfl, a, b, c, RepT.app d k⟩
theorem RepA.app {H : Hp} : ∀ {t u : Ar} {vs us : List V}, RepA H t vs → RepA H u us → RepA H (appA t u) (vs ++ us)
  | .nil, u, vs, us, h, k => by
    simp only [RepA] at h
    subst h
    exact k
  | .cons t r, u, vs, us, h, k => by
    simp only [RepA, appA] at h ⊢
    obtain ⟨p, ws, vs', rfl, a, b, c⟩ := h
    exact ⟨p, ws, vs' ++ us, rfl, a, b, RepA.app c k⟩
theorem RepT.len {H : Hp} : ∀ {t : Tr} {vs : List V}, RepT H t vs → vs.length ≤ (toksT t).length
  | .nil, vs, h => by
    simp only [RepT] at h
    subst h
    exact Nat.zero_le _
  | .word w r, vs, h => by
    simp only [RepT, toksT] at h ⊢
    obtain ⟨p, vs', rfl, a, b⟩ := h
    have := RepT.len b
    rw [List.length_cons, List.length_cons]
    omega
  | .call n a r, vs, h => by
    simp only [RepT, toksT] at h ⊢
    obtain ⟨p, q, ws, vs', rfl, a, b, c, d⟩ := h
    have := RepT.len d
    rw [List.length_cons, List.length_cons, List.length_append]
    omega
theorem RepA.len {H : Hp} : ∀ {t : Ar} {vs : List V}, RepA H t vs → vs.length ≤ (toksA t).length
  | .nil, vs, h => by
    simp only [RepA] at h
    subst h
    exact Nat.zero_le _
  | .cons t r, vs, h => by
    simp only [RepA, toksA] at h ⊢
    obtain ⟨p, ws, vs', rfl, a, b, c⟩ := h
    have := RepA.len c
    rw [List.length_cons, List.length_cons, List.length_append, List.length_cons]
    omega
/-- a tree's value -/
def TV (H : Hp) (v : V) (t : Tr) : Prop := ∃ p us, v = .ref p ∧ H p = some (.tup us) ∧ RepT H t us
theorem TV.keep {H H' : Hp} {v : V} {t : Tr} (h : TV H v t) (k : TKeep H H') : TV H' v t := by
  obtain ⟨p, us, e, a, b⟩ := h
  exact ⟨p, us, e, k _ _ a, b.keep k⟩
/-- a call's value -/
def CV (H : Hp) (v : V) (n : List Nat) (a : Ar) : Prop := ∃ p q us, v = .ref p ∧ H p = some (.tup [kCall, sV n, .ref q]) ∧ H q = some (.tup us) ∧ RepA H a us
theorem CV.keep {H H' : Hp} {v : V} {n : List Nat} {a : Ar} (h : CV H v n a) (k : TKeep H H') : CV H' v n a := by
  obtain ⟨p, q, us, e, x, b, c⟩ := h
  exact ⟨p, q, us, e, k _ _ x, k _ _ b, c.keep k⟩
theorem call_ne_word : V.bl (decide (kCall = V.str ("word" : Str))) = V.bl false := by decide +kernel
theorem word_eq_word : V.bl (decide (kWord = V.str ("word" : Str))) = V.bl true := by decide +kernel
theorem brO_mk : (("{" : Str)) = mkS [123] := by decide +kernel
theorem brC_mk : (("}" : Str)) = mkS [125] := by decide +kernel
theorem brO_sV : V.str ("{" : Str) = sV [123] := by rw [brO_mk]; rfl
theorem brC_sV : V.str ("}" : Str) = sV [125] := by rw [brC_mk]; rfl
/-- tokens joined by blanks -/
def spaced (ts : List (List Nat)) : List Nat := joinL [32] ts
theorem join_sp (ts : List (List Nat)) : Txt.join (" " : Str) (ts.map mkS) = mkS (spaced ts) := by
  have h : tl (Txt.join (" " : Str) (ts.map mkS)) = spaced ts := by
    rw [join_eq, tl_join, show (ts.map mkS).map tl = ts from (by rw [List.map_map]; exact List.map_id'' (fun _ => rfl) ts), blank_mk]
    rfl
  rw [← h]; rfl
theorem sum_le {B : Nat} : ∀ {zss : List (List Nat)}, (∀ z ∈ zss, z.length ≤ B) → ((zss.map mkS).map (·.length)).sum ≤ zss.length * B
  | [], _ => Nat.zero_le _
  | z :: r, h => by
    have ih := sum_le (zss := r) fun y hy => h y (List.mem_cons_of_mem _ hy)
    have hz := h z List.mem_cons_self
    rw [List.map_cons, List.map_cons, List.sum_cons, mkS_len, List.length_cons, Nat.succ_mul]
    omega
theorem blank_len : ((" " : Str)).length = 1 := by rw [blank_mk, mkS_len]; rfl
theorem at_app {n : List Nat} : ("@" : Str) ++ mkS n = mkS (64 :: n) := by rw [at_mk, mkS_app]; rfl
theorem at_len : (("@" : Str)).length = 1 := by rw [at_mk, mkS_len]; rfl
theorem drop_x {us : List V} {i : Nat} {x : V} (hx : us[i]? = some x) : us.drop i = x :: us.drop (i + 1) := by
  have ⟨h1, h2⟩ := List.getElem?_eq_some_iff.mp hx
  rw [List.drop_eq_getElem_cons h1, h2]
theorem lt_size {n : Nat} (h : n < 100000) : n < sizeLine := Nat.lt_of_lt_of_le h (by decide)
theorem snoc_sV (ts : List (List Nat)) (z : List Nat) : (ts ++ [z]).map sV = ts.map sV ++ [sV z] := by rw [List.map_append]; rfl
end Vf

set_option Elab.async false
set_option linter.all false
set_option maxRecDepth 100000
set_option maxHeartbeats 4000000
namespace Vf
open PySem PySem.Spec PyProof.Rows L2 TL
/-- two values are the same data, at most n - 1 tuples deep -/
def Eqv : Nat → Hp → V → V → Prop
  | 0, _, _, _ => False
  | n + 1, H, v, u => ((∃ z, v = .str z ∧ u = .str z) ∨ (∃ i, v = .int i ∧ u = .int i) ∨ (v = .non ∧ u = .non)) ∨
      ∃ (a b : Addr) (xs ys : List V), v = .ref a ∧ u = .ref b ∧ H a = some (.tup xs) ∧ H b = some (.tup ys) ∧ xs.length = ys.length ∧ xs.length ≤ 100000 ∧ ∀ (i : Nat) x y, xs[i]? = some x → ys[i]? = some y → Eqv n H x y
def spExact (n : Nat) : Sp := fun vs H Q _ => ∃ (v u : V), vs = [v, u] ∧ Eqv n H v u ∧ Q (.bl true) H
theorem eq_self {H : Hp} {Q : VK} {x : V} (q : Q (.bl true) H) : Q (.bl (decide (x = x))) H := by
  rw [decide_eq_true rfl]; exact q
end Vf

set_option Elab.async false
set_option linter.all false
set_option maxRecDepth 100000
set_option maxHeartbeats 4000000
/-! ### isinstance of an exception that has its own dict -/
namespace PySem.W
open PySem PySem.Spec PySem.Calls PyProof.Rows
section
variable {prog : Program} {w : World} {A : Around} {E : Value → Shared → Prop} {s : Shared} {K : Frag} {x D : Addr} {ox : Obj} {od : Option Obj}
theorem vf_data {name : Str} {a g : Value} (hc : (clsIn K D).isSome = true) (ha : findIn K (.ref D) name = some (some a)) (hg : specialIn K a "__get__" = some (some g)) (ht : takesIn K a = some true) :
    findObj K D od name = some (.bind g a) := by
  cases e : clsIn K D with
  | none => rw [e] at hc; cases hc
  | some cd =>
    unfold findObj
    rw [e, Option.bind_some, ha, Option.bind_some]
    simp [hg, ht]
theorem vf_class {Q : Option Value → Shared → Prop} (C : L2.ExcC K D) (X : K.In s.heap) (I : InstAt s.heap x ox D od) (q : Q (some (.ref D)) { s with toks := s.toks + 1 }) :
    wpAny (model prog w) A (getAttr? (.ref x) "__class__") Q E s := by
  have found : findObj K D od "__class__" = some (.bind (.builtin "getset_descriptor.__get__") (.builtin "object.__class__")) :=
    vf_data (by obtain ⟨cd, e, _⟩ := any_some C.hd; rw [e]; rfl) C.ha C.hn C.ht
  rcases s with ⟨hp, g, d, t, os⟩
  have l0 := I.type (M := model prog w)
  have l1 := looks_findIn (M := model prog w) X C.hg
  have l2 := looks_findIn (M := model prog w) X C.hk
  have l3 := looks_find (M := model prog w) X I found
  have lb : Looks (model prog w) hp (isInstance (.ref x) (.type "BaseException")) true := l0.andThen (looks_subIn X C.hs)
  have n0 : (false && onTheHeap (Value.builtin "BaseException.__getattribute__")) = false := rfl
  have n1 : (onTheHeap (Value.ref D) && Value.builtin "BaseException.__getattribute__" == Value.builtin "object.__getattribute__") = false := by
    have n2 : (Value.builtin "BaseException.__getattribute__" == Value.builtin "object.__getattribute__") = false := by decide +kernel
    rw [n2]
    rfl
  unfold getAttr? getAttrBy? getAttrBy
  refine wpAny_bind (wpAny_mkText (wpAny_bind (wpAny_attempt (wpAny_holding ?_))))
  refine wpAny_bind (l0.at (wpAny_bind (l1.at ?_)))
  show wpAny _ _ (ite ((onTheHeap (Value.ref D) && Value.builtin "BaseException.__getattribute__" == Value.builtin "object.__getattribute__") = true) _ _) _ _ _
  rw [n1, if_neg Bool.false_ne_true]
  unfold getAttrByItsOwn hookBefore
  apply wpAny_bind
  rw [if_pos (show onTheHeap (Value.ref D) = true from rfl)]
  apply l2.at
  apply wpAny_bind
  apply wpAny_attempt
  apply wpAny_holding
  unfold callGetattribute
  rw [n0, if_neg Bool.false_ne_true]
  unfold boundAndCalled
  rw [PySem.F.excAttr_ValueError.ga.bind (.ref x)]
  apply wpAny_bind
  apply wpAny_pure
  show wpAny _ _ (call (Value.builtin "BaseException.__getattribute__") [Value.ref x, Value.str "__class__" t]) _ _ _
  apply wpAny_call
  apply codeAny_call_builtin PySem.F.excAttr_ValueError.ga.plain PySem.F.entry_bexc_ga
  refine @check_slot (model prog w) _ _ ⟨hp, g, d, t + 1, os⟩ "BaseException.__getattribute__" "BaseException" "__getattribute__" (.ref x) [.str "__class__" t] []
    _ (by decide +kernel) (by decide +kernel) lb (PySem.F.args_bexc_ga (.ref x) (.str "__class__" t)) ?_
  unfold Builtin.«object.__getattribute__»
  apply wpAny_bind
  apply wpAny_of_eq (a := ((Value.ref x : Value), [Value.str "__class__" t])) (by first | rfl | (simp only [slotArgs]; rfl))
  apply wpAny_bind
  apply wpAny_pure
  apply wpAny_bind
  apply l0.at
  apply wpAny_bind
  apply l3.at
  show wpAny _ _ (holding [Value.builtin "object.__class__"] (call (Value.builtin "getset_descriptor.__get__") [Value.builtin "object.__class__", Value.ref x, Value.ref D]) >>= ret) _ _ _
  apply wpAny_bind
  apply wpAny_holding
  apply wpAny_call
  apply class_get (s := ⟨hp, g, d, t + 1, os⟩) (ox := ox) (od := od) X I C.hm
  apply wpAny_pure
  show wpAny _ _ (handedOut (Value.ref D)) _ _ _
  rw [handedOut_of (v := Value.ref D) rfl]
  first | exact wpAny_pure (wpAny_pure q) | exact wpAny_pure q | exact wpAny_pure (wpAny_bind (wpAny_pure (wpAny_pure q)))
theorem vf_kit (C : L2.ExcC K D) : KitX K (.ref x) (.ref D) (fun h => InstAt h x ox D od) := by
  obtain ⟨cdD, hcD, _⟩ := any_some C.hd
  refine ⟨fun _ _ _ I => I.type, fun _ _ X _ => ?_, fun h tp dd its n sl X htp => ?_, fun X I k => vf_class C X I k⟩
  · unfold clsIn at hcD
    split at hcD
    · next e =>
      intro A' Q' E' s' k q
      unfold isType loadHead
      exact wpAny_bind (wpAny_loadPart (k _ _ (X _ _ e)) (wpAny_pure q))
    · cases hcD
  · apply Bool.eq_false_iff.mpr
    intro q
    have e : D = tp := Value.ref.inj (beq_iff_eq.mp q)
    rw [← e] at htp
    unfold clsIn at hcD
    split at hcD
    · next e2 =>
      have z := (X _ _ e2).symm.trans htp
      cases z
    · cases hcD
end
end PySem.W
namespace Vf
open PySem PySem.Spec PyProof.Rows L2 L2H TL
/-- the pinned exception p: of the class D, its dict at d -/
structure ExcAt (K : PySem.W.Frag) (D d : Addr) (p : Addr × Obj) : Prop where
  z : Zc (.ref D) (some d) p.2
  f : ∃ vs, p.2.data = .fields vs
theorem ExcAt.inst {X : Cx} {K : PySem.W.Frag} {D d : Addr} {p : Addr × Obj} {pins : List (Addr × Obj)} {σ : L2.St} {H : Hp} {s : Shared} {fs : List (Str × V)} (c : ExcAt K D d p) (I : Inv X pins σ H s) (hp : p ∈ X.pn) (hd : H d = some (.xd fs)) :
    ∃ (od : Obj) (mA : Str → Option Value), PySem.W.InstAt s.heap p.1 p.2 D (some od) ∧ (∀ n, PySem.W.lookIn n od = some (mA n)) ∧ ∀ n, RelO (fs.lookup n) (mA n) := by
  have hx : ObjOk X.prog X.w H s.heap d (.xd fs) := I.hok d _ hd
  obtain ⟨mA, hns, hr⟩ := hx
  obtain ⟨od, ho, hl⟩ := lookIn_ns hns
  obtain ⟨vs, hv⟩ := c.f
  have ha := (I.pin p (List.mem_append_left _ hp)).1
  exact ⟨od, mA, ⟨ha, c.z.1, (by unfold PySem.W.notCls; rw [hv] <;> rfl), (by rw [c.z.2]; exact ho)⟩, hl, hr⟩
/-- isinstance(e, c) of the pinned exception -/
def rIsP (K : PySem.W.Frag) (D d : Addr) (p : Addr × Obj) (xs : List V) (H : Hp) (Q : VK) : Prop :=
  ∃ (c : V) (cv : Value) (b : Bool) (fs : List (Str × V)), xs = [.ref p.1, c] ∧ ClsV c cv ∧
    PySem.W.kitOne K (.ref D) cv = some b ∧ H d = some (.xd fs) ∧ Q (.bl b) H
theorem call_isP {X : Cx} {D d : Addr} {p : Addr × Obj} (C : ExcC X.K D) (c : ExcAt X.K D d p) (hp : p ∈ X.pn) : CallR X (.builtin "isinstance") (rIsP X.K D d p) := by
  intro pins s σ H xs us Q I r h
  obtain ⟨cc, cv, b, fs, rfl, hcv, e, hd, q⟩ := h
  obtain ⟨u1, u2, rfl, r1, r2⟩ := vals2 r
  have e1 : u1 = Value.ref p.1 := r1
  have e2 := hcv.eq r2
  subst e1 e2
  obtain ⟨od, mA, J, _, _⟩ := c.inst I hp hd
  exact PySem.W.kia_one (PySem.W.vf_kit C) I.kIn J e (fun z => nomatch z) fun tk => ⟨.bl b, H, I.kept (t' := tk) fun _ _ z => z, rfl, q⟩
/-- e.n of the pinned exception -/
def tXp (d : Addr) (p : Addr × Obj) (n : Str) (te : TE) (σ : L2.St) (H : Hp) (Q : VK) : Prop :=
  te σ H fun x H1 => x = .ref p.1 ∧ ∃ (fs : List (Str × V)) (v : V), H1 d = some (.xd fs) ∧ fs.lookup n = some v ∧ Q v H1
theorem pe_xp {X : Cx} {D d : Addr} {p : Addr × Obj} {e : Expr} {te : TE} {pos : Pos} {n : Str} (C : XfC X.K D) (hno : PySem.W.findIn X.K (.ref D) n = some none) (c : ExcAt X.K D d p) (hp : p ∈ X.pn) (he : PE X e te)
    (hb : attributeBase e n X.env (eval e X.env) = eval e X.env := by rfl) : PE X (.Attribute e n pos) (tXp d p n te) := by
  constructor
  intro pins s σ H Q I h
  refine attr_of hb (thn (he.run pins s σ H _ I h) fun u s1 hh => ?_)
  obtain ⟨x, H1, I1, rx, ex, fs, v, hd, l, q⟩ := hh
  subst ex
  have eu : u = Value.ref p.1 := rx
  subst eu
  obtain ⟨od, mA, J, hl, hr⟩ := c.inst I1 hp hd
  obtain ⟨y, hy, ry⟩ := RelO.some_of (v := v) (o := mA n) (by rw [← l]; exact hr n)
  exact HandSPX.exc_get I1.kIn J C.ga C.gg C.exC (PySem.W.findObj_own C.hdC hno rfl (by rw [hl, hy])) (handed_of ry) ⟨v, H1, I1.tok _, ry, q⟩
/-! ### a def that is called where an exception is held, and knows it -/
structure FnP (P : Program) (w : World) (K : PySem.W.Frag) (mg : Str → Option Value) (base : Heap) (k : Nat) (f : Addr) (fd : FuncData) (ps : List Str) (sp : (Addr × Obj) → List V → Hp → VK → Prop) : Prop where
  len : ∀ p vs H Q, sp p vs H Q → vs.length = ps.length
  run : ∀ (A : Around) (outer : List Env) (s : Shared) (H : Hp) (us : List Value) (vs : List V) (Q : VK) (p : Addr × Obj),
    RoomH k A → Hot1 A p → PinOk outer H s p → Env0 P w K mg base A outer s H → BindsTo s fd ⟨us, []⟩ (ps.zip us) → Vals vs us → sp p vs H Q →
    codeAny (model P w) A (.call (.ref f) ⟨us, []⟩) (CR CX0 outer P w H s Q E0) s
/-- the held exception alone -/
abbrev cxP (P : Program) (w : World) (K : PySem.W.Frag) (mg : Str → Option Value) (base : Heap) (N : List Str) (qual : Str) (scope : Scope) (f : Addr) (cd : Value) (A : Around) (outer : List Env) (s : Shared) (H : Hp) (p : Addr × Obj) : Cx :=
  cxH CX0 P w K mg base N qual scope f cd A outer s H E0 p
section
variable {P : Program} {w : World} {K : PySem.W.Frag} {mg : Str → Option Value} {base : Heap} {k : Nat} {f : Addr} {fd : FuncData}
/-- from a def's body, as FnH's: by that rule, at the one exception -/
theorem FnP.of {x qual : Str} {st : Stmt} {N ps : List Str} {sp : (Addr × Obj) → List V → Hp → VK → Prop} (F : L2.Fun K x qual st f fd) (S : FnScope N ps (defScope st)) (len : ∀ p vs H Q, sp p vs H Q → vs.length = ps.length)
    (body : ∀ (cdv : Value) (A : Around) (outer : List Env) (s : Shared) (H : Hp) (vs : List V) (Q : VK) (p : Addr × Obj), Hot1 A p → RoomH k (A.deeper (envOfC qual (defScope st) s.heap.objs.size f cdv)) → sp p vs H Q →
      ∃ t, PSs (cxP P w K mg base N qual (defScope st) f cdv A outer s H p).nox (defBody st) t ∧ t { nx := fun _ H' => Q .non H', rt := Q } (L2.start N vs) H) : FnP P w K mg base (k + 1) f fd ps sp := by
  obtain ⟨oc, od, kV, doc, pm, an, cdv, ct, osl, rfl, lk, hcd⟩ := F.ex
  refine ⟨len, fun A outer s H us vs Q p hr hot hpin e0 hb r hsp => ?_⟩
  have hl := len _ _ _ _ hsp
  have KX : K.In s.heap := e0.mod.kin.keeps fun b o e => (e0.bs b o e).1
  have lim : s.heap.NoLimit := e0.mod.nolimit.keeps fun b o e => (e0.bs b o e).1
  have kinds : ∀ y ∈ ps.zip us, (defScope st).names.lookup y.1 = some .local ∨
      ((defScope st).names.lookup y.1 = some .cell ∧ ((cellsFrom (s.heap.objs.size + 1) (defScope st).names []).lookup y.1).isSome = true) := by
    rintro ⟨n, v⟩ hy
    rcases S.par n (List.of_mem_zip hy).1 with q | q
    · exact .inl q
    · exact .inr ⟨q, PySem.W.cellsFrom_some _ _ _ (.inl q)⟩
  refine codeAny_call_function hr.depth (KX _ _ lk) rfl S.co S.gen rfl (PySem.W.codeRec_of KX hcd) (hb _ _ _ _ ?_)
  refine wpAny_newFunctionEnv_cells S.kind kinds fun env he s1 x => ?_
  subst he
  refine ⟨lim.keeps x.toInCall.keep, codeAny_func ?_⟩
  obtain ⟨t, ht, hq⟩ := body cdv A outer s H vs Q p hot (hr.deeper _) hsp
  have I := inv_startH (CX := CX0) (E := E0) S hpin e0 hl r x
  refine wpAny_mono (ht.nox.run [] s1 (L2.start N vs) H _ I hq) (fun fl s' hs => ?_) fun e s' hs => hs
  have fin : ∀ {σ' : L2.St} {H' : Hp} {v : V} {u : Value}, Inv (cxP P w K mg base N qual (defScope st) f cdv A outer s H p) [] σ' H' s' → RelV v u → Q v H' → CE outer P w H s Q u s' := by
    intro σ' H' v u J rv q
    exact ⟨v, H', J.os, J.bare, J.base, J.hok, rv, q⟩
  cases fl with
  | ret u => obtain ⟨v, σ', H', J, rv, q⟩ := hs; exact fin J rv q
  | next => obtain ⟨σ', H', J, q⟩ := hs; exact fin (v := V.non) (u := Value.none) J rfl q
  | brk => obtain ⟨_, _, _, q⟩ := hs; exact q.elim
  | cont => obtain ⟨_, _, _, q⟩ := hs; exact q.elim
end
/-! ### such a call -/
def tCallP (sp : (Addr × Obj) → List V → Hp → VK → Prop) (p : Addr × Obj) (t : TA) (σ : L2.St) (H : Hp) (Q : VK) : Prop := t σ H fun vs H1 => sp p vs H1 Q
section
variable {X : Cx} {k : Nat} {f : Addr} {fd : FuncData} {ps : List Str} {sp : (Addr × Obj) → List V → Hp → VK → Prop} {x : Str} {q pos : Pos} {e : Expr} {es : List Expr} {t : TA} {p : Addr × Obj}
theorem pe_callP (F : FnP X.prog X.w X.K X.mg X.base k f fd ps sp) (hr : RoomH k X.A) (hot : Hot1 X.A p) (hp : p ∈ X.pn) (hg : Gl X x) (hm : X.mg x = some (.ref f)) (hk : PySem.W.keepIn X.K (.ref f) = true) (hb : Binds X.K fd ps [])
    (ha : PA X (e :: es) t) (hdb : (x == ("__debug__" : Str)) = false := by decide) (he : starEach (e :: es) X.env = (false, eval e X.env) :: starEach es X.env := by rfl)
    (hpl : (backTo pos (starEach es X.env)).any (·.1) = false := by rfl) : PE X (.Call (.Name x q) (e :: es) [] pos) (tCallP sp p t) := by
  constructor
  intro pins s σ H Q I h
  refine wpAny_Call_Name_kw (ld_glob I hg hm ?_ hdb)
  refine PySem.W.callWith_K (h₀ := X.base) I.ok.mod.kin hk (thn (ha.run pos pins s σ H _ I h) fun us s1 res => ?_) he hpl
  obtain ⟨vs, H1, I1, r, q1⟩ := res
  refine ⟨I1.kIn, ?_⟩
  have hl : us.length = ps.length := by rw [← r.length]; exact F.len _ _ _ _ q1
  have b := hb s1 us I1.kIn (by rw [List.append_nil]; exact hl)
  rw [List.append_nil] at b
  have pin := I1.pin p (List.mem_append_left _ hp)
  have hpin : PinOk X.stack H1 s1 p := by
    refine ⟨pin.1, pin.2.1, fun hm => ?_, pin.2.2.2.2⟩
    rcases List.mem_cons.mp (I1.stkSub p.1 hm) with z | z
    · exact pin.2.2.1 z
    · exact pin.2.2.2.1 z
  refine wpAny_call (codeAny_mono (F.run X.A X.stack s1 H1 us vs Q p hr hot hpin I1.env0 b r q1) fun rr s' hq => ?_)
  cases rr with
  | error e => exact hq.elim
  | ok fl =>
    cases fl with
    | ret u => exact I1.after hq
    | next => exact hq.elim
    | brk => exact hq.elim
    | cont => exact hq.elim
end
end Vf

set_option Elab.async false
set_option linter.all false
set_option maxRecDepth 100000
set_option maxHeartbeats 4000000
namespace Vf
open PySem PySem.Spec PyProof.Rows L2 L2H TL
/-! ### list.count over bools -/
def bEq (k : Bool) : Value → Bool
  | .bool b => b == k
  | _ => false
def rCntB (K : PySem.W.Frag) : V → List V → Hp → VK → Prop := fun x xs H Q => ∃ (p : Addr) (bs : List Bool) (k : Bool), x = .ref p ∧ xs = [.bl k] ∧ SqL K H p (bs.map V.bl) ∧ Q (.int (bs.count k : Nat)) H
theorem bools_of : ∀ {bs : List Bool} {its : List Value}, Vals (bs.map V.bl) its → its = bs.map Value.bool
  | [], _, r => by cases r; rfl
  | b :: bs, _, r => by
    cases r with
    | cons a t =>
      have e : _ = Value.bool b := a
      rw [e, bools_of t]; rfl
theorem count_bools (k : Bool) : ∀ bs : List Bool, (bs.map Value.bool).countP (bEq k) = bs.count k
  | [] => rfl
  | b :: bs => by
    rw [List.map_cons, List.countP_cons, List.count_cons, count_bools k bs]
    rfl
section
variable {X : Cx}
theorem mt_bcount : MtR X "list.count" (rCntB X.K) := by
  intro pins s σ H x xs v us Q I rx rxs h
  obtain ⟨p, bs, k, rfl, rfl, hs, q⟩ := h
  cases rx
  obtain ⟨u, rfl, ru⟩ := rxs.one
  have eu : u = Value.bool k := ru
  subst eu
  obtain ⟨its, rv, ⟨⟨cls, dd, data, sl⟩, n, ho, hc, hdn, hd⟩, hlen⟩ := I.list hs
  simp only at hc hd
  subst hc hd
  have ei := bools_of rv
  subst ei
  refine call_meets PySem.F.slot_list_count ⟨_, ho, rfl⟩ PySem.F.entry_list_count (PySem.F.args_list_count_2 _ _)
    (SeqAt.list_countAt p (bs.map Value.bool).toArray n dd sl (.bool k) (bEq k)) ⟨ho, fun y hy => ?_, ?_⟩
  · obtain ⟨b, _, rfl⟩ := List.mem_map.mp (by simpa only [List.mem_toArray] using hy)
    exact PySem.SeqAt.EqAt.bool_bool b k
  · have ec : (bs.map Value.bool).toArray.toList.countP (bEq k) = bs.count k := count_bools k bs
    refine ⟨.int (bs.count k : Nat), H, I.tok _, ⟨s.toks, ?_⟩, q⟩
    rw [ec]
end
/-! ### an own error made where none is handled, its context noted -/
theorem pmkN_oex {X : Cx} {x : Str} {e : Expr} {es : List Expr} {ta : TA} {p pos : Pos} {C fI : Addr} {k : Nat} {fd : FuncData} {ps : List Str} {sp : Sp} (T : OexC X.K C) (iC : PySem.W.findIn X.K (.ref C) "__init__" = some (some (.ref fI))) (tI : PySem.W.typeIn X.K (.ref fI) = some (.type "function"))
    (F1 : FnOk X.prog X.w X.K X.mg X.base CX0 k fI fd ps sp) (hr : Room (k + 1) X.A) (hb : Binds X.K fd ps []) (hg : Gl X x) (hm : X.mg x = some (.ref C)) (ha : PA X (e :: es) ta)
    (hdb : (x == ("__debug__" : Str)) = false := by decide) (he : starEach (e :: es) X.env = (false, eval e X.env) :: starEach es X.env := by rfl) (hpl : (backTo pos (starEach es X.env)).any (·.1) = false := by rfl) :
    L2N.PMk X (.Call (.Name x p) (e :: es) [] pos) (tMkO C sp [] ta) := by
  intro pins s σ H Q I h
  obtain ⟨nm, q, N, bs, bm, sn, sub, ab, col, dd, k0, k1, k2, k3, k5, hC, hbm⟩ := T.cls
  refine wpAny_Call_Name_kw (ld_glob I hg hm ?_ hdb)
  refine PySem.W.callWith_K (h₀ := X.base) I.ok.mod.kin T.kC (thn (ha.run pos pins s σ H _ I h) fun us s1 ⟨vs, H1, I1, r1, hz, q1⟩ => ⟨I1.kIn, ?_⟩) he hpl
  show wpAny _ _ (call (.ref C) us) _ _ _
  obtain ⟨hp, g, dr, tk, os⟩ := s1
  have lt1 : hp.objs.size ≤ hp.objs.size + 1 := Nat.le_succ _
  have nx : H1 (hp.objs.size + 1) = none := I1.hok.fresh lt1
  have hq := q1 (hp.objs.size + 1) nx
  rw [List.append_nil] at hq
  have k2 : ∀ b o, hp.get? b = some o → ((hp.push (PySem.W.kdv_tup us)).push (PySem.HandSPX.excO C hp.objs.size)).get? b = some o := fun b o e => Heap.get?_push_of_some _ (Heap.get?_push_of_some _ e)
  have at1 : ((hp.push (PySem.W.kdv_tup us)).push (PySem.HandSPX.excO C hp.objs.size)).get? (hp.objs.size + 1) = some (PySem.HandSPX.excO C hp.objs.size) := by heap_get
  have J := I1.laid (t' := tk) (a := hp.objs.size + 1) (o := exo (hp.objs.size + 1) C none) (h' := (hp.push (PySem.W.kdv_tup us)).push (PySem.HandSPX.excO C hp.objs.size)) k2 lt1 (exo_ok at1)
  have rr : Vals (V.ref (hp.objs.size + 1) :: vs) (Value.ref (hp.objs.size + 1) :: us) := .cons rfl r1
  have len1 : (Value.ref (hp.objs.size + 1) :: us ++ []).length = ps.length := by
    rw [List.append_nil, ← rr.length]
    exact F1.len _ _ _ _ hq
  have short : us.length ≤ sizeLine := by rw [← Paired.length r1, sizeLine_eq]; omega
  have bb := hb _ (Value.ref (hp.objs.size + 1) :: us) J.kIn len1
  rw [List.append_nil] at bb
  refine wpAny_call (PySem.HandSPX.call_own F.excBase_ValueError (fun Y => PySem.HandSPX.refsVE_contains Y bm hbm) (I1.kIn _ _ hC) (PySem.W.looks_findIn I1.kIn iC) (fun self => PySem.W.bind_fn I1.kIn self tI) short
    (codeAny_mono (F1.run _ X.stack _ _ ⟨Value.ref (hp.objs.size + 1) :: us, []⟩ (Value.ref (hp.objs.size + 1) :: us) _ _ (fun _ _ _ => False) (hr.make C us []) (J.env0.make C us []) bb rr hq) fun r s' hq' => ?_))
  cases r with
  | error er => exact hq'.elim
  | ok fl =>
    cases fl with
    | ret u =>
      obtain ⟨v, H2, os2, bare2, un2, hok2, rv, ev, d, fs, ea, ed, hd1, q2⟩ := hq'
      subst ev
      obtain ⟨h2, g2, d2, t2, os'⟩ := s'
      obtain ⟨t0, G, J2, kG, ge, hoe, na⟩ := mk_end0 (d2 := d2) (t2 := t2) I1 lt1 k2 un2 hok2 os2 bare2 ea ed hd1
      exact ⟨rv, hp.objs.size + 1, _, _, ⟨G, g2, d2, t2, os'⟩, _, .ref C, some d, rfl, J2, kG, ge, hoe, ⟨rfl, rfl, fun vs hv => by cases hv; rfl⟩, rfl, rfl, na, rfl, bare2, raises_own T.exC T.tyC, q2⟩
    | next => exact hq'.elim
    | brk => exact hq'.elim
    | cont => exact hq'.elim
/-- a def that may raise, its exceptions' contexts noted -/
theorem okN {P : Program} {w : World} {K : PySem.W.Frag} {mg : Str → Option Value} {base : Heap} {x qual : Str} {st : Stmt} {f : Addr} {fd : FuncData} {N ps : List Str} {k : Nat} {sp : Sp} (F : L2.Fun K x qual st f fd) (S : FnScope N ps (defScope st)) (len : ∀ vs H Q E, sp vs H Q E → vs.length = ps.length)
    (body : ∀ (cdv : Value) (A : Around) (outer : List Env) (s : Shared) (H : Hp) (vs : List V) (Q : VK) (E : XK), Room k (A.deeper (envOfC qual (defScope st) s.heap.objs.size f cdv)) → sp vs H Q E →
      ∃ t, PSs (cxOf (L2N.CX P w) P w K mg base N qual (defScope st) f cdv A outer s H E) (defBody st) t ∧ t { nx := fun _ H' => Q .non H', rt := Q } (L2.start N vs) H) : FnOk P w K mg base (L2N.CX P w) (k + 1) f fd ps sp := by
  obtain ⟨oc, od, kV, doc, pm, an, cdv, ct, osl, rfl, lk, hcd⟩ := F.ex
  exact fn_of lk hcd S len fun A outer s H vs Q E hr hsp => body cdv A outer s H vs Q E hr hsp
/-! ### C(v), __init__ keeps its one field -/
def spInit1 (C : Addr) (f : Str) : Sp := fun vs H Q _ => ∃ (a : Addr) (y : V), vs = [.ref a, y] ∧ H a = some (exo a C none) ∧
  ∀ dx, H dx = none → dx ≠ a → Q .non (upd (upd H dx (exd dx [(f, y)])) a (exo a C (some dx)))
section
variable {P : Program} {w : World} {K : PySem.W.Frag} {mg : Str → Option Value} {base : Heap}
theorem ok_BadCall (T : Txt K mg) : FnOk P w K mg base CX0 1 T.i_BadCall T.d_BadCall ["self", "name"] (spInit1 T.c_BadCall "name") := by
  refine T.E_BadCall.F.ok sc_BadCall_init (fun vs H Q E h => ?_) (fun cdv A outer s H vs Q E hr h => ?_)
  · obtain ⟨a, y, rfl, _⟩ := h
    rfl
  · obtain ⟨a, y, rfl, ea, q⟩ := h
    refine ⟨_, pss_one (ps_ost (pv 0) (pv 1)), ?_⟩
    exact ⟨_, rfl, _, rfl, a, T.c_BadCall, rfl, T.E_BadCall.O, T.E_BadCall.no "name" (by simp), .inl ⟨ea, fun dx nd ne => q dx nd ne⟩⟩
theorem ok_Unknown (T : Txt K mg) : FnOk P w K mg base CX0 1 T.i_Unknown T.d_Unknown ["self", "name"] (spInit1 T.c_Unknown "name") := by
  refine T.E_Unknown.F.ok sc_Unknown_init (fun vs H Q E h => ?_) (fun cdv A outer s H vs Q E hr h => ?_)
  · obtain ⟨a, y, rfl, _⟩ := h
    rfl
  · obtain ⟨a, y, rfl, ea, q⟩ := h
    refine ⟨_, pss_one (ps_ost (pv 0) (pv 1)), ?_⟩
    exact ⟨_, rfl, _, rfl, a, T.c_Unknown, rfl, T.E_Unknown.O, T.E_Unknown.no "name" (by simp), .inl ⟨ea, fun dx nd ne => q dx nd ne⟩⟩
theorem ok_Twice (T : Txt K mg) : FnOk P w K mg base CX0 1 T.i_Twice T.d_Twice ["self", "name"] (spInit1 T.c_Twice "name") := by
  refine T.E_Twice.F.ok sc_Twice_init (fun vs H Q E h => ?_) (fun cdv A outer s H vs Q E hr h => ?_)
  · obtain ⟨a, y, rfl, _⟩ := h
    rfl
  · obtain ⟨a, y, rfl, ea, q⟩ := h
    refine ⟨_, pss_one (ps_ost (pv 0) (pv 1)), ?_⟩
    exact ⟨_, rfl, _, rfl, a, T.c_Twice, rfl, T.E_Twice.O, T.E_Twice.no "name" (by simp), .inl ⟨ea, fun dx nd ne => q dx nd ne⟩⟩
theorem ok_TooLarge (T : Txt K mg) : FnOk P w K mg base CX0 1 T.i_TooLarge T.d_TooLarge ["self", "part"] (spInit1 T.c_TooLarge "part") := by
  refine T.E_TooLarge.F.ok sc_TooLarge_init (fun vs H Q E h => ?_) (fun cdv A outer s H vs Q E hr h => ?_)
  · obtain ⟨a, y, rfl, _⟩ := h
    rfl
  · obtain ⟨a, y, rfl, ea, q⟩ := h
    refine ⟨_, pss_one (ps_ost (pv 0) (pv 1)), ?_⟩
    exact ⟨_, rfl, _, rfl, a, T.c_TooLarge, rfl, T.E_TooLarge.O, T.E_TooLarge.no "part" (by simp), .inl ⟨ea, fun dx nd ne => q dx nd ne⟩⟩
end
/-- what the raise of C(y) leaves -/
theorem raise1 {C : Addr} {f : Str} {y : V} {H : Hp} {E : XK} (q : ∀ H' d, Same H H' → H' d = some (.xd [(f, y)]) → E (.ref C) (some d) H') :
    [y].length ≤ 1000 ∧ ∀ a, H a = none → spInit1 C f (.ref a :: ([y] ++ [])) (upd H a (exo a C none))
      (fun v H2 => v = .non ∧ ∃ (d : Addr) (fs : List (Str × V)), H2 a = some (exo a C (some d)) ∧ H2 d = some (exd d fs) ∧ H d = none ∧ E (.ref C) (some d) (upd (del H2 a) d (.xd fs))) (fun _ _ _ => False) := by
  refine ⟨by show 1 ≤ 1000; decide, fun a na => ⟨a, y, rfl, upd_same, fun dx nd ne => ⟨rfl, dx, _, upd_same, by rw [upd_ne ne]; exact upd_same, by rw [upd_ne ne] at nd; exact nd, q _ _ (fun b o e => ?_) upd_same⟩⟩⟩
  have nd2 : H dx = none := by rw [upd_ne ne] at nd; exact nd
  have hb1 : b ≠ a := ne_of_none e na
  have hb2 : b ≠ dx := ne_of_none e nd2
  rw [upd_ne hb2, del_ne hb1, upd_ne hb1, upd_ne hb2, upd_ne hb1]
  exact e
end Vf

set_option Elab.async false
set_option linter.all false
set_option maxRecDepth 100000
set_option maxHeartbeats 4000000
namespace Vf
open PySem PySem.Spec PyProof.Rows L2 TL
theorem take_tw (p : Nat → Bool) : ∀ r : List Nat, r.take (r.takeWhile p).length = r.takeWhile p ∧ r.drop (r.takeWhile p).length = r.dropWhile p
  | [] => ⟨rfl, rfl⟩
  | c :: r => by
    have ⟨a, b⟩ := take_tw p r
    cases h : p c with
    | true =>
      rw [List.takeWhile_cons_of_pos h, List.dropWhile_cons_of_pos h]
      exact ⟨congrArg (List.cons c) a, b⟩
    | false =>
      rw [List.takeWhile_cons_of_neg (by rw [h]; decide), List.dropWhile_cons_of_neg (by rw [h]; decide)]
      exact ⟨rfl, rfl⟩
theorem tw_le (p : Nat → Bool) : ∀ r : List Nat, (r.takeWhile p).length ≤ r.length
  | [] => Nat.le_refl _
  | c :: r => by
    cases h : p c with
    | true => rw [List.takeWhile_cons_of_pos h]; exact Nat.succ_le_succ (tw_le p r)
    | false => rw [List.takeWhile_cons_of_neg (by rw [h]; decide)]; exact Nat.zero_le _
def isNameB (z : List Nat) : Bool := if 1 ≤ z.length ∧ z.length ≤ 8 then decide ((z.takeWhile cL).length = z.length) else false
theorem tw_all {p : Nat → Bool} : ∀ {z : List Nat}, (∀ c ∈ z, p c = true) → z.takeWhile p = z
  | [], _ => rfl
  | c :: r, h => by rw [List.takeWhile_cons_of_pos (h c List.mem_cons_self), tw_all fun x hx => h x (List.mem_cons_of_mem _ hx)]
section
variable {P : Program} {w : World} {K : PySem.W.Frag} {mg : Str → Option Value} {base : Heap}
def spRunEnd : Sp := fun vs H Q _ => ∃ (z a : Str) (i : Nat), vs = [.str z, .int (i : Int), .str a] ∧ i ≤ z.cps.toList.length ∧ z.length ≤ 100000 ∧
  Q (.int ((i + ((z.cps.toList.drop i).takeWhile fun c => decide (c ∈ a.cps.toList)).length : Nat) : Int)) H
theorem ok_run_end (T : Txt K mg) : FnOk P w K mg base CX0 1 T.a_run_end T.d_run_end ["text", "at", "allowed"] spRunEnd := by
  refine T.D_run_end.F.ok sc_run_end (fun vs H Q E h => ?_) (fun cdv A outer s H vs Q E hr h => ?_)
  · obtain ⟨z, a, i, rfl, _⟩ := h
    rfl
  · obtain ⟨z, a, i, rfl, hi, hz, q⟩ := h
    refine ⟨_, (pss_cons (ps_while PassesOwn.never (PW.pt (pw_and (pt_cmpR op_lt (pv 1) (pe_callB call_len_str (by rfl) T.n_len PySem.boot_len (pa_cons (pv 0) pa_nil)) (nomark _)) (pw_and1 (pt_cmpR op_in_sign (pe_ix ix_str (pv 0) (pv 1) (fun _ _ => rfl)) (pv 2) (by rfl))))) (pss_one (ps_aug (i := 1) sc_run_end.nd rfl (.inl rfl) pe_int ip_add)))
      (pss_one (ps_ret (pv 1)))), ?_⟩
    have hsz : z.cps.toList.length ≤ 100000 := by rw [← len_cps]; exact hz
    have hzl : z.length ≤ sizeLine := big_ok hz
    refine ⟨fun m σ H' => H' = H ∧ ∃ j : Nat, m = z.cps.toList.length - j ∧ j ≤ z.cps.toList.length ∧ σ = [some (.str z), some (.int (j : Int)), some (.str a)] ∧
      j + ((z.cps.toList.drop j).takeWhile fun c => decide (c ∈ a.cps.toList)).length = i + ((z.cps.toList.drop i).takeWhile fun c => decide (c ∈ a.cps.toList)).length,
      ⟨_, rfl, i, rfl, hi, rfl, rfl⟩, fun m σ H' hW => ?_⟩
    obtain ⟨rfl, j, rfl, hj, rfl, e⟩ := hW
    by_cases h1 : j < z.cps.toList.length
    · have gc : z.cps.toList[j]? = some z.cps.toList[j] := List.getElem?_eq_getElem h1
      rw [drop_at gc] at e
      refine ⟨_, rfl, _, rfl, z, rfl, hzl, _, _, rfl, rfl, true, bl_of (decide_eq_true (by rw [len_cps]; omega)), _, rfl, _, rfl, z, _, _, rfl, rfl, hzl, atI_nat gc, _, rfl, _, _, rfl, rfl, ?_⟩
      rcases tf (decide (z.cps.toList[j] ∈ a.cps.toList)) with h2 | h2
      · rw [List.takeWhile_cons_of_pos (p := fun c => decide (c ∈ a.cps.toList)) h2] at e
        refine ⟨true, bl_of h2, fun σ' H1 => H1 = H' ∧ ∃ j' : Nat, j' = j + 1 ∧ σ' = [some (.str z), some (.int (j' : Int)), some (.str a)], fun σ' H1 hN => ?_, ?_⟩
        · obtain ⟨rfl, j', rfl, rfl⟩ := hN
          exact ⟨_, by omega, rfl, j + 1, rfl, h1, rfl, by rw [← e]; show _ = j + (_ + 1); omega⟩
        · exact ⟨_, rfl, _, _, rfl, rfl, rfl, j + 1, rfl, rfl⟩
      · rw [List.takeWhile_cons_of_neg (p := fun c => decide (c ∈ a.cps.toList)) (by rw [h2]; decide)] at e
        refine ⟨false, bl_of h2, _, rfl, ?_⟩
        rw [← e] at q
        exact q
    · have ej : j = z.cps.toList.length := by omega
      refine ⟨_, rfl, _, rfl, z, rfl, hzl, _, _, rfl, rfl, false, bl_of (decide_eq_false (by rw [len_cps]; omega)), _, rfl, ?_⟩
      rw [List.drop_of_length_le (by omega)] at e
      rw [← e] at q
      exact q
def spIs (f : List Nat → Bool) : Sp := fun vs H Q _ => ∃ z : List Nat, vs = [sV z] ∧ z.length ≤ 100000 ∧ Q (.bl (f z)) H
theorem bl_eq {a b : Bool} (h : a = b) : V.bl a = V.bl b := congrArg V.bl h
theorem dec_len {a b : Nat} : decide (V.int (a : Int) = V.int (b : Int)) = decide (a = b) := by
  by_cases h : a = b
  · subst h; rw [decide_eq_true (rfl : a = a)]; exact decide_eq_true rfl
  · rw [decide_eq_false h]
    exact decide_eq_false fun e => h (by have := V.int.inj e; omega)
def spCons : Sp := fun vs H Q _ => ∃ (z : List Nat) (a : Str), vs = [sV z, .str a] ∧ z.length ≤ 100000 ∧ Q (.bl (decide ((z.takeWhile fun c => decide (c ∈ a.cps.toList)).length = z.length))) H
theorem ok_consists (T : Txt K mg) : FnOk P w K mg base CX0 2 T.a_consists_of T.d_consists_of ["run", "allowed"] spCons := by
  have G_run_end : FnOk P w K mg base CX0 1 T.a_run_end T.d_run_end ["text", "at", "allowed"] spRunEnd := ok_run_end T
  refine T.D_consists_of.F.ok sc_consists_of (fun vs H Q E h => ?_) (fun cdv A outer s H vs Q E hr h => ?_)
  · obtain ⟨z, a, rfl, _⟩ := h
    rfl
  · obtain ⟨z, a, rfl, hz, q⟩ := h
    refine ⟨_, (pss_one (ps_ret (pe_cmpR op_eq (pe_call G_run_end (hr.mono (by decide)) (by rfl) T.D_run_end.G T.D_run_end.F.kp T.D_run_end.B .nil pass0 (pa_cons (pv 0) (pa_cons pe_int (pa_cons (pv 1) pa_nil)))) (pe_callB call_len_str (by rfl) T.n_len PySem.boot_len (pa_cons (pv 0) pa_nil)) (nomark _)))), ?_⟩
    have zl : (mkS z).length ≤ sizeLine := by rw [mkS_len]; exact big_ok hz
    refine ⟨_, rfl, _, rfl, mkS z, _, 0, rfl, Nat.zero_le _, by rw [mkS_len]; exact hz, ?_⟩
    refine ⟨_, rfl, mkS z, rfl, zl, rfl, ?_⟩
    rw [mkS_len, dec_len]
    have e4 : 0 + ((((mkS z).cps.toList.drop 0).takeWhile fun c => decide (c ∈ a.cps.toList)).length) = (z.takeWhile fun c => decide (c ∈ a.cps.toList)).length := by
      rw [Nat.zero_add]; rfl
    rw [e4]
    exact q
theorem ok_is_name (T : Txt K mg) : FnOk P w K mg base CX0 3 T.a_is_name T.d_is_name ["run"] (spIs isNameB) := by
  have G_consists_of : FnOk P w K mg base CX0 2 T.a_consists_of T.d_consists_of ["run", "allowed"] spCons := ok_consists T
  refine T.D_is_name.F.ok sc_is_name (fun vs H Q E h => ?_) (fun cdv A outer s H vs Q E hr h => ?_)
  · obtain ⟨z, rfl, _⟩ := h
    rfl
  · obtain ⟨z, rfl, hz, q⟩ := h
    refine ⟨_, (pss_one (ps_ret (pe_and (pe_chain op_le op_le pe_int (pe_callB call_len_str (by rfl) T.n_len PySem.boot_len (pa_cons (pv 0) pa_nil)) (pe_glob (v := .int 8) (by rfl) T.m_LONGEST_NAME ⟨_, rfl⟩)) (pe_one (pe_call G_consists_of (hr.mono (by decide)) (by rfl) T.D_consists_of.G T.D_consists_of.F.kp T.D_consists_of.B .nil pass0 (pa_cons (pv 0) (pa_cons (pe_glob (v := .str "abcdefghijklmnopqrstuvwxyz") (by rfl) T.m_LETTERS ⟨_, rfl⟩) pa_nil))))))), ?_⟩
    have zl : (mkS z).length ≤ sizeLine := by rw [mkS_len]; exact big_ok hz
    refine ⟨_, rfl, mkS z, rfl, zl, _, _, rfl, rfl, _, rfl, ?_⟩
    rw [mkS_len]
    by_cases h1 : 1 ≤ z.length
    · have e1 : decide ((1 : Int) ≤ (z.length : Nat)) = true := decide_eq_true (by omega)
      rw [e1]
      refine ⟨_, _, rfl, rfl, decide (z.length ≤ 8), bl_of ?_, ?_⟩
      · by_cases h2 : z.length ≤ 8
        · rw [decide_eq_true h2]; exact decide_eq_true (by show (z.length : Int) ≤ 8; omega)
        · rw [decide_eq_false h2]; exact decide_eq_false (by show ¬ (z.length : Int) ≤ 8; omega)
      by_cases h2 : z.length ≤ 8
      · rw [decide_eq_true h2]
        refine ⟨_, rfl, z, _, rfl, hz, ?_⟩
        unfold isNameB at q
        rw [if_pos ⟨h1, h2⟩] at q
        have e4 : (z.takeWhile fun c => decide (c ∈ (Str.ofString "abcdefghijklmnopqrstuvwxyz").cps.toList)).length = (z.takeWhile cL).length := rfl
        rw [e4]
        exact q
      · rw [decide_eq_false h2]
        unfold isNameB at q
        rw [if_neg (fun h => h2 h.2)] at q
        exact q
    · have e1 : decide ((1 : Int) ≤ (z.length : Nat)) = false := decide_eq_false (by omega)
      rw [e1]
      refine ⟨false, rfl, ?_⟩
      unfold isNameB at q
      rw [if_neg (fun h => h1 h.1)] at q
      exact q
end
end Vf

set_option Elab.async false
set_option linter.all false
set_option maxRecDepth 100000
set_option maxHeartbeats 4000000
namespace Vs
open PySem PySem.Spec PyProof.Rows
/-! ### how many unlike texts a tuple holds: len(set(t)) -/
def dst (ys : List Str) : Nat → Nat
  | 0 => 0
  | j + 1 => if ys.getD j Str.empty ∈ ys.take j then dst ys j else dst ys j + 1
theorem dst_le (ys : List Str) : ∀ j, dst ys j ≤ j
  | 0 => Nat.le_refl 0
  | j + 1 => by
    have := dst_le ys j
    unfold dst
    split <;> omega
theorem dst_full {ys : List Str} : ∀ {j : Nat}, j ≤ ys.length → (dst ys j = j ↔ (ys.take j).Nodup)
  | 0, _ => by
    rw [List.take_zero]
    exact ⟨fun _ => List.nodup_nil, fun _ => rfl⟩
  | j + 1, h => by
    have hj : j < ys.length := h
    have ih := dst_full (ys := ys) (j := j) (by omega)
    have le := dst_le ys j
    have g : ys[j]? = some ys[j] := List.getElem?_eq_getElem hj
    have gd : ys.getD j Str.empty = ys[j] := by rw [List.getD_eq_getElem?_getD, g]; rfl
    have e : ys.take (j + 1) = ys.take j ++ [ys[j]] := by rw [List.take_add_one, g]; rfl
    rw [e]
    show (if ys.getD j Str.empty ∈ ys.take j then dst ys j else dst ys j + 1) = j + 1 ↔ _
    rw [gd]
    by_cases hm : ys[j] ∈ ys.take j
    · rw [if_pos hm]
      refine ⟨fun q => by omega, fun q => ?_⟩
      rw [List.nodup_append] at q
      exact absurd rfl (q.2.2 _ hm _ List.mem_cons_self)
    · rw [if_neg hm]
      refine ⟨fun q => ?_, fun q => ?_⟩
      · rw [List.nodup_append]
        refine ⟨ih.mp (by omega), List.nodup_cons.mpr ⟨by simp, List.nodup_nil⟩, fun a ha b hb => ?_⟩
        rw [List.mem_singleton.mp hb]
        exact fun z => hm (z ▸ ha)
      · rw [List.nodup_append] at q
        have := ih.mpr q.1
        omega
def Hd (P : Program) (w : World) (h : Heap) (D : Addr) (ys : List Str) (j : Nat) : Prop := h.SetOf (PySem.strKind P w) D (fun q => decide (q ∈ ys.take j)) (dst ys j)
theorem Hd.kept {P : Program} {w : World} {h h' : Heap} {D : Addr} {ys : List Str} {j : Nat} (x : Hd P w h D ys j) (k : ∀ o, h.get? D = some o → h'.get? D = some o) : Hd P w h' D ys j :=
  let ⟨o, a, b, c, d, y⟩ := x
  ⟨o, a, b, c, k o d, y⟩
theorem Hd.more {P : Program} {w : World} {h' : Heap} {D : Addr} {ys : List Str} {j : Nat} (hj : j < ys.length) (x : h'.SetOf (PySem.strKind P w) D (fun q => decide (q ∈ ys.take j) || decide (q = ys.getD j Str.empty)) (if decide (ys.getD j Str.empty ∈ ys.take j) then dst ys j else dst ys j + 1)) : Hd P w h' D ys (j + 1) := by
  have g : ys[j]? = some ys[j] := List.getElem?_eq_getElem hj
  have gd : ys.getD j Str.empty = ys[j] := by rw [List.getD_eq_getElem?_getD, g]; rfl
  refine SetOf_congr x (fun q => ?_) ?_
  · have e : ys.take (j + 1) = ys.take j ++ [ys[j]] := by rw [List.take_add_one, g]; rfl
    rw [e, gd, ← Bool.decide_or]
    exact decide_eq_decide.mpr ⟨fun h => List.mem_append.mpr (h.imp id (fun z => List.mem_singleton.mpr z)), fun h => (List.mem_append.mp h).imp id List.mem_singleton.mp⟩
  · show _ = if ys.getD j Str.empty ∈ ys.take j then dst ys j else dst ys j + 1
    by_cases h1 : ys.getD j Str.empty ∈ ys.take j
    · rw [if_pos h1, if_pos (decide_eq_true h1)]
    · rw [if_neg h1, if_neg (by rw [decide_eq_false h1]; decide)]
section
variable {P : Program} {w : World} {A : Around} {R : Result → Shared → Prop} {it : Addr} {fp wr : List Addr} {G : Array GenState → Array GenState → Prop} {n : Nat} {Pv : Nat → Value → Prop} {St : Nat → Shared → Prop}
theorem put_all (W : WalksS P w A.in1 it fp wr G n Pv St) (D : Addr) (nD : D ∉ fp) (ys : List Str) (ln : ys.length = n) (lb : n + 1 < scanBound) (hv : ∀ j u, Pv j u → ∃ tk, u = .str (ys.getD j Str.empty) tk) :
    ∀ (m j : Nat) (z : Shared), n - j = m → j ≤ n → St j z → Hd P w z.heap D ys j → (∀ z', Moved (D :: wr) G z z' → Hd P w z'.heap D ys n → R (.ok (.ret .none)) z') →
      codeAny (model P w) A (.builtin "set.update.loop" ⟨[.ref D, .ref it], []⟩) R z := by
  have nW : D ∉ wr := fun q => nD (W.sub _ q)
  have up : ∀ b ∈ wr, b ∈ D :: wr := fun b q => List.mem_cons_of_mem _ q
  intro m
  induction m with
  | zero =>
    intro j z e1 e2 hz hD fin
    have e3 : j = n := by omega
    subst e3
    refine codeAny_builtin F.entry_set_update_loop ?_; rw [Around.under_plainId F.plain_set_update_loop _]
    refine (wpAny_bind (W.done z _ _ hz fun z' mv => ?_) : wpAny _ A.in1 (pyNext (.ref it) >>= _) _ _ z)
    show wpAny _ A.in1 (ret Value.none) _ _ z'; exact wpAny_pure (fin z' (mv.mono up) (hD.kept fun o e => mv.heap D o nW e))
  | succ m ih =>
    intro j z e1 e2 hz hD fin
    have lt : j < n := by omega
    refine codeAny_builtin F.entry_set_update_loop ?_; rw [Around.under_plainId F.plain_set_update_loop _]
    refine (wpAny_bind (W.item j z _ _ lt hz fun u z' pu hz' mv => ?_) : wpAny _ A.in1 (pyNext (.ref it) >>= _) _ _ z)
    obtain ⟨tk, rfl⟩ := hv j u pu
    have hD' := hD.kept fun o e => mv.heap D o nW e
    refine (wpAny_bind (wpAny_holding ?_) : wpAny _ A.in1 (holding [Value.str (ys.getD j Str.empty) tk] (setAdd D (.str (ys.getD j Str.empty) tk)) >>= _) _ _ z')
    unfold setAdd
    refine wpAny_holding (wpAny_bind ((PySem.strKind P w).pyHash (k := ys.getD j Str.empty) (strKind_is _ _ _ _) ?_))
    refine wpAny_setAddHashed_of (knd := PySem.strKind P w) (s := { z' with toks := z'.toks + 1 }) (strKind_is _ _ _ _) rfl hD' (by have := dst_le ys j; omega) fun h' same hD2 => ?_
    have hD3 := Hd.more (by omega) hD2
    refine wpAny_pure ⟨plainId_quiet F.plain_set_update_loop _, ih (j + 1) _ (by omega) lt (W.frame _ z' _ _ hz' (Nat.le_succ _) fun b q o e => ?_) hD3 fun z2 mv2 hD4 => ?_⟩
    · rw [same.2 b (fun q2 : b = D => nD (q2 ▸ q))]; exact e
    · refine fin z2 (Moved.trans W.gtrans ((mv.mono up).then_heap (Nat.le_succ _) fun b o q e => ?_) mv2) hD4
      rw [same.2 b (fun q2 : b = D => q (by rw [q2]; exact List.mem_cons_self))]; exact e
end
section
variable {P : Program} {w : World} {A : Around} {E : Value → Shared → Prop} {s : Shared}
def newSet (led : Bool) : Obj := { cls := .type "set", dict := none, data := .set #[] 0 (.fresh 0 0 led) }
theorem new_hd {h : Heap} {D : Addr} {led : Bool} {ys : List Str} (e : h.get? D = some (newSet led)) : Hd P w h D ys 0 :=
  SetOf_congr ((setObjOf_fresh (knd := PySem.strKind P w) led).setOf e (by unfold scanBound; omega)) (fun _ => rfl) rfl
set_option maxHeartbeats 3200000 in
theorem set_of_tup {l : Addr} {its : Array Value} {ys : List Str} {Q : Value → Shared → Prop} (hh : A.handled = none) (hl : s.heap.IsTuple l its) (hi : StrsAre its.toList ys) (lb : ys.length + 1 < scanBound)
    (q : ∀ (h' : Heap) (tk : Nat), Hd P w h' s.heap.objs.size ys ys.length → (∀ b o, b < s.heap.objs.size → s.heap.get? b = some o → h'.get? b = some o) → Q (.ref s.heap.objs.size) { s with heap := h', toks := tk }) :
    wpAny (model P w) A (call (.type "set") [.ref l]) Q E s := by
  obtain ⟨c, tl, hmro⟩ := PySem.F.called_set.mro
  have hmade := PySem.F.called_set.made; have hsub := PySem.F.called_set.sub
  have h1 := PySem.F.called_set.notType; have h2 := PySem.F.called_set.canCreate; have hct := PySem.F.typeCall_set_1 (.ref l)
  refine wpAny_call (codeAny_of_tree (?_ : wpAny _ _ (callAny (.type "set") _) _ _ _))
  refine wpAny_pure ⟨Code.quiet_builtin _ (by decide +kernel), codeAny_builtin PySem.F.entry_type_call ?_⟩; rw [Around.under_plain (weight_type_call_type "set" [.ref l] []) rfl]
  repeat (any_goals (first | assumption | wp_step))
  refine codeAny_mono (code_set_new_1 (.ref l) (E := E) (Q₁ := fun obj z => ∃ led : Bool, obj = .ref s.heap.objs.size ∧ z = { s with heap := s.heap.push (newSet led) }) fun led => ⟨led, rfl, rfl⟩) fun r z hr => ?_
  match r, hr with
  | .error e, hr => exact hr
  | .ok (.ret obj), hr =>
    obtain ⟨led, rfl, rfl⟩ := hr
    have atD : (s.heap.push (newSet led)).get? s.heap.objs.size = some (newSet led) := Heap.get?_push_size _ rfl
    have hT : Shared.TypeIs { s with heap := s.heap.push (newSet led) } (.ref s.heap.objs.size) "set" := ⟨_, atD, rfl⟩
    have hli := PySem.F.called_set.init.lookup; have hbi := PySem.F.called_set.init.bind (.ref s.heap.objs.size)
    repeat (any_goals (first | assumption | wp_step))
    refine codeAny_mono (codeAny_call_builtin (R := wants (fun r z => r = .none ∧ ∃ h' tk, z = { s with heap := h', toks := tk } ∧ Hd P w h' s.heap.objs.size ys ys.length ∧ (∀ b o, b < s.heap.objs.size → s.heap.get? b = some o → h'.get? b = some o)) E)
      PySem.F.called_set.init.plain PySem.F.entry_set_init (check_set_init_1 hT ?_)) fun r2 z2 hr2 => ?_
    · obtain ⟨⟨oc, od, odt, osl⟩, hol, hcl, nl, hdl⟩ := hl
      simp only at hcl hdl
      subst hcl hdl
      have hol2 : (s.heap.push (newSet led)).get? l = some { cls := .type "tuple", dict := od, data := .seq its nl, slots := osl } := Heap.get?_push_of_some _ hol
      have f1 := PySem.F.sub_tuple_set; have f2 := PySem.F.sub_tuple_frozenset
      have hne : (Value.type "tuple" == Value.type "dict") = false := by decide
      have hl1 : (s.heap.push (newSet led)).IsTuple l its := ⟨_, hol2, rfl, nl, rfl⟩
      unfold newSet at *
      unfold Builtin.«set.__init__» noKeywords Builtin.Frozenset.updateFrom
      generalize ePI : pyIter = PI
      wp_walk
      subst ePI
      refine wpAny_pyIter_tuple hl1 (wpAny_bind (wpAny_runValue ?_))
      have lS : l < s.heap.objs.size := Heap.lt_size hol
      have hh3 : A.in1.in1.in1.handled = none := by simp [hh]
      have nI : l ≠ (s.heap.push { cls := .type "set", dict := none, data := .set #[] 0 (.fresh 0 0 led) }).objs.size := by
        rw [Heap.size_push]; exact Nat.ne_of_lt (Nat.lt_succ_of_lt lS)
      have nS : s.heap.objs.size ∉ [(s.heap.push { cls := .type "set", dict := none, data := .set #[] 0 (.fresh 0 0 led) }).objs.size, l] := by
        rw [Heap.size_push]; simp only [List.mem_cons, List.not_mem_nil, or_false, not_or]; exact ⟨Nat.ne_of_lt (Nat.lt_succ_self _), Nat.ne_of_gt lS⟩
      have sz : ys.length = its.size := by rw [← StrsAre.len_eq hi, Array.length_toList]
      refine put_all ((Walks.tuple hh3 _ l nI its).toS) s.heap.objs.size nS ys sz (by omega) (fun j u hu => SS.strs_at hi j u (by rw [Array.getElem?_toList]; exact hu)) (its.size - 0) 0 _ (by omega) (Nat.zero_le _)
        ⟨⟨_, Heap.get?_push_size _ rfl, rfl, rfl⟩, hl1.push _⟩ (new_hd (led := led) (Heap.get?_push_of_some _ atD)) fun z' mv hD => ?_
      obtain ⟨h', g', d', tk', os'⟩ := z'
      have eg : g' = s.gens := mv.gens
      have ed : d' = s.drawn := mv.drawn
      have eo : os' = s.os := mv.os
      subst eg ed eo
      rw [← sz] at hD
      refine wpAny_pure ((wpAny_pure ⟨rfl, h', tk', rfl, hD, fun b o lt e => ?_⟩ : wpAny _ _ (ret Value.none) _ _ _))
      refine mv.heap b o ?_ (Heap.get?_push_of_some _ (Heap.get?_push_of_some _ e))
      simp only [List.mem_cons, List.not_mem_nil, or_false, not_or]
      rw [Heap.size_push]; exact ⟨Nat.ne_of_lt lt, Nat.ne_of_lt (Nat.lt_succ_of_lt lt)⟩
    · match r2, hr2 with
      | .error e, hr2 => exact hr2
      | .ok (.ret r), hr2 =>
        obtain ⟨rfl, h', tk, rfl, hD, hk⟩ := hr2
        repeat (any_goals (first | assumption | wp_step))
        exact q _ _ hD hk
end
end Vs
namespace Vf
open PySem PySem.Spec PyProof.Rows L2
/-- len(set(t)) -/
def tLenSetS (K : PySem.W.Frag) (ta : TE) : TE := fun σ H Q => ta σ H fun x H1 => ∃ (l : Addr) (zs : List Str), x = .ref l ∧ SqT K H1 l (zs.map V.str) ∧ zs.length ≤ 1000 ∧ Q (.int (Vs.dst zs zs.length : Nat)) H1
theorem pe_lenSetS {X : Cx} {a : Expr} {ta : TE} {p p2 r pos : Pos} (hg : Gl X "len") (hm : X.mg "len" = none) (hg2 : Gl X "set") (hm2 : X.mg "set" = none) (ha : PE X a ta) (hc : X.calm = true := by rfl)
    (na : starEach [a] X.env = (false, eval a X.env) :: starEach [] X.env := by rfl) : PE X (.Call (.Name "len" p) [.Call (.Name "set" p2) [a] [] r] [] pos) (tLenSetS X.K ta) := by
  refine ⟨fun pins s σ H Q I h => Call_ (ld_blt I hg hm boot_len ?_)⟩
  refine callWith_builtin1 (args_cons (Call_ (ld_blt I hg2 hm2 boot_set ?_)) rfl) rfl rfl
  refine callWith_type1 (args_cons (thn (ha.run pins s σ H _ I h) fun v s1 ⟨x, H1, I1, r1, q1⟩ => args_nil ?_) na) na rfl
  obtain ⟨l, zs, rfl, ht, lz, q1⟩ := q1
  cases r1
  obtain ⟨its, rv, pl, _⟩ := I1.tuple ht
  refine Vs.set_of_tup (I1.ok.hd hc) pl (by simpa using strsAre_of rv) (by unfold scanBound; omega) fun h' tk hD hk => args_nil ?_
  have le := Vs.dst_le zs zs.length
  obtain ⟨o, es, ep, t, ho, hex, hd, _, _, _, hf, hn⟩ := hD
  have I2 : Inv X pins σ H1 { s1 with heap := h', toks := tk } := I1.kept fun b o e => hk b o (Heap.lt_size e) e
  exact call_len_set ho hex hd hf (by rw [hn] <;> omega) ⟨.int (Vs.dst zs zs.length : Nat), H1, I2.tok _, ⟨_, by rw [hn]⟩, q1⟩
end Vf

set_option Elab.async false
set_option linter.all false
set_option maxRecDepth 100000
set_option maxHeartbeats 4000000
namespace Vf
open PySem PySem.Spec PyProof.Rows L2 TL
/-! ### names -/
def bnS : List Str := ["let", "hole", "page", "note", "key", "head", "par", "list", "item", "table", "row", "cell", "show", "over", "up", "low", "fence", "grid", "line", "figure", "label", "contents", "index"]
def bnN : List (List Nat) := bnS.map fun s => s.cps.toList
def letN : List Nat := ("let" : Str).cps.toList
theorem let_mk : ("let" : Str) = mkS letN := (mkS_of _).symm
theorem let_sV : V.str ("let" : Str) = sV letN := by rw [let_mk]; rfl
theorem let_in : letN ∈ bnN := List.mem_map.mpr ⟨_, List.mem_cons_self, rfl⟩
theorem bn_map : bnS.map V.str = bnN.map sV := by
  unfold bnN
  rw [List.map_map]
  exact List.map_congr_left fun s _ => by show V.str s = V.str (mkS s.cps.toList); rw [mkS_of]
theorem eqV_s (x y : List Nat) : eqV (sV x) (sV y) = decide (x = y) := by
  show (mkS x == mkS y) = decide (x = y)
  by_cases h : x = y
  · subst h; rw [decide_eq_true rfl]; exact beq_iff_eq.mpr rfl
  · rw [decide_eq_false h]; exact beq_eq_false_iff_ne.mpr fun e => h (mkS_inj e)
theorem inV_s (x : List Nat) : ∀ zs : List (List Nat), inV (sV x) (zs.map sV) = decide (x ∈ zs)
  | [] => by rw [decide_eq_false (by simp)]; rfl
  | z :: zs => by
    have ih := inV_s x zs
    show (eqV (sV z) (sV x) || inV (sV x) (zs.map sV)) = _
    rw [ih, eqV_s]
    by_cases h1 : z = x
    · subst h1; rw [decide_eq_true rfl, decide_eq_true (List.mem_cons_self (a := z) (l := zs)), Bool.true_or]
    · by_cases h2 : x ∈ zs
      · rw [decide_eq_true h2, Bool.or_true, decide_eq_true (List.mem_cons_of_mem _ h2)]
      · rw [decide_eq_false h1, decide_eq_false h2, decide_eq_false (fun q => by rcases List.mem_cons.mp q with h | h; exact h1 h.symm; exact h2 h)]; rfl
theorem flat_s (x : List Nat) : flatV (sV x) = true := rfl
theorem flat_all (zs : List (List Nat)) : (zs.map sV).all flatV = true := by
  rw [List.all_map]; exact List.all_eq_true.mpr fun _ _ => rfl
theorem dec_s (x y : List Nat) : decide (sV x = sV y) = decide (x = y) := by
  by_cases h : x = y
  · rw [decide_eq_true h]; exact decide_eq_true (by rw [h])
  · rw [decide_eq_false h]; exact decide_eq_false fun e => h (mkS_inj (V.str.inj e))
/-! ### the faults of a tree -/
inductive F10 where
  | bad (n : List Nat)
  | unk (n : List Nat)
  | twice (n : List Nat)
  | large
deriving DecidableEq
abbrev Kn := List (List Nat × Nat)
def lenT : Tr → Nat
  | .nil => 0
  | .word _ r => lenT r + 1
  | .call _ _ r => lenT r + 1
def lenA : Ar → Nat
  | .nil => 0
  | .cons _ r => lenA r + 1
def ownF (ps : List (List Nat)) (kn : Kn) (n : List Nat) (k : Nat) : List F10 :=
  if n = letN then [.bad letN] else if n ∈ ps then (if 0 < k then [.bad n] else []) else match kn.lookup n with
    | some j => if k = j then [] else [.bad n]
    | none => if n ∈ bnN then [] else [.unk n]
mutual
def fauT (ps : List (List Nat)) (kn : Kn) : Tr → List F10
  | .nil => []
  | .word _ r => fauT ps kn r
  | .call n a r => ownF ps kn n (lenA a) ++ (fauA ps kn a ++ fauT ps kn r)
def fauA (ps : List (List Nat)) (kn : Kn) : Ar → List F10
  | .nil => []
  | .cons t r => fauT ps kn t ++ fauA ps kn r
end
def mayN (z : List Nat) : Bool := isNameB z && !decide (z ∈ bnN)
def nms : Tr → List (List Nat)
  | .nil => []
  | .word z r => if mayN z then z :: nms r else nms r
  | .call _ _ r => nms r
def letOf : Ar → Option (List (List Nat) × Tr)
  | .cons h (.cons b .nil) => if (1 ≤ lenT h ∧ lenT h ≤ 4) ∧ (nms h).length = lenT h ∧ (nms h).Nodup then some (nms h, b) else none
  | _ => none
theorem letOf_ok {a : Ar} {ns : List (List Nat)} {b : Tr} (h : letOf a = some (ns, b)) : ∃ t, a = .cons t (.cons b .nil) ∧ ns = nms t ∧ (1 ≤ lenT t ∧ lenT t ≤ 4) ∧ (nms t).length = lenT t ∧ (nms t).Nodup := by
  match a, h with
  | .cons t (.cons b2 .nil), h =>
    have h2 : (if (1 ≤ lenT t ∧ lenT t ≤ 4) ∧ (nms t).length = lenT t ∧ (nms t).Nodup then some (nms t, b2) else none) = some (ns, b) := h
    by_cases c : (1 ≤ lenT t ∧ lenT t ≤ 4) ∧ (nms t).length = lenT t ∧ (nms t).Nodup
    · rw [if_pos c] at h2
      have e := Option.some.inj h2
      injection e with e1 e2
      subst e1 e2
      exact ⟨t, rfl, rfl, c⟩
    · rw [if_neg c] at h2; cases h2
theorem nms_len : ∀ t : Tr, (nms t).length ≤ lenT t
  | .nil => Nat.le_refl _
  | .word z r => by
    have := nms_len r
    simp only [nms, lenT]
    split
    · rw [List.length_cons]; omega
    · omega
  | .call _ _ r => by
    have := nms_len r
    simp only [nms, lenT]
    omega
/-! ### bounds -/
def Low (z : List Nat) : Prop := ∀ c ∈ z, c < 1114112
mutual
def BT (L : Nat) : Tr → Prop
  | .nil => True
  | .word z r => (z.length ≤ L ∧ Low z) ∧ BT L r
  | .call n a r => (n.length ≤ L ∧ Low n) ∧ BA L a ∧ BT L r
def BA (L : Nat) : Ar → Prop
  | .nil => True
  | .cons t r => BT L t ∧ BA L r
end
theorem RepT.lenT {H : Hp} : ∀ {t : Tr} {vs : List V}, RepT H t vs → vs.length = lenT t
  | .nil, vs, h => by
    simp only [RepT] at h
    subst h; rfl
  | .word z r, vs, h => by
    simp only [RepT] at h
    obtain ⟨p, vs', rfl, _, b⟩ := h
    rw [List.length_cons, RepT.lenT b]; rfl
  | .call n a r, vs, h => by
    simp only [RepT] at h
    obtain ⟨p, q, us, vs', rfl, _, _, _, b⟩ := h
    rw [List.length_cons, RepT.lenT b]; rfl
theorem RepA.lenA {H : Hp} : ∀ {a : Ar} {vs : List V}, RepA H a vs → vs.length = lenA a
  | .nil, vs, h => by
    simp only [RepA] at h
    subst h; rfl
  | .cons t r, vs, h => by
    simp only [RepA] at h
    obtain ⟨p, us, vs', rfl, _, _, b⟩ := h
    rw [List.length_cons, RepA.lenA b]; rfl
/-! ### one node -/
inductive Nd where
  | word (z : List Nat)
  | call (n : List Nat) (a : Ar)
def NV (H : Hp) (v : V) : Nd → Prop
  | .word z => ∃ p, v = .ref p ∧ H p = some (.tup [kWord, sV z])
  | .call n a => CV H v n a
theorem NV.keep {H H' : Hp} {v : V} {nd : Nd} (h : NV H v nd) (k : TKeep H H') : NV H' v nd := by
  cases nd with
  | word z =>
    obtain ⟨p, e, a⟩ := h
    exact ⟨p, e, k _ _ a⟩
  | call n a => exact CV.keep h k
def Nd.tr (nd : Nd) (r : Tr) : Tr := match nd with
  | .word z => .word z r
  | .call n a => .call n a r
def fauN (ps : List (List Nat)) (kn : Kn) : Nd → List F10
  | .word _ => []
  | .call n a => ownF ps kn n (lenA a) ++ fauA ps kn a
def depN : Nd → Nat
  | .word _ => 0
  | .call _ a => depA a
def BN (L : Nat) : Nd → Prop
  | .word z => z.length ≤ L ∧ Low z
  | .call n a => (n.length ≤ L ∧ Low n) ∧ BA L a
/-- a tree that is not empty: its first node -/
theorem RepT.first {H : Hp} {t : Tr} {x : V} {vs : List V} (h : RepT H t (x :: vs)) : ∃ nd r, t = nd.tr r ∧ NV H x nd ∧ RepT H r vs := by
  cases t with
  | nil => simp only [RepT] at h; cases h
  | word z r =>
    simp only [RepT] at h
    obtain ⟨p, vs', e, a, b⟩ := h
    injection e with e1 e2
    subst e1 e2
    exact ⟨.word z, r, rfl, ⟨p, rfl, a⟩, b⟩
  | call n a r =>
    simp only [RepT] at h
    obtain ⟨p, q, us, vs', e, x, b, c, d⟩ := h
    injection e with e1 e2
    subst e1 e2
    exact ⟨.call n a, r, rfl, ⟨p, q, us, rfl, x, b, c⟩, d⟩
theorem RepT.last {H : Hp} {t : Tr} (h : RepT H t []) : t = .nil := by
  cases t with
  | nil => rfl
  | word z r =>
    simp only [RepT] at h
    obtain ⟨_, _, e, _⟩ := h
    cases e
  | call n a r =>
    simp only [RepT] at h
    obtain ⟨_, _, _, _, e, _⟩ := h
    cases e
theorem RepA.first {H : Hp} {a : Ar} {x : V} {vs : List V} (h : RepA H a (x :: vs)) : ∃ t r, a = .cons t r ∧ TV H x t ∧ RepA H r vs := by
  cases a with
  | nil => simp only [RepA] at h; cases h
  | cons t r =>
    simp only [RepA] at h
    obtain ⟨p, us, vs', e, x, b, c⟩ := h
    injection e with e1 e2
    subst e1 e2
    exact ⟨t, r, rfl, ⟨p, us, rfl, x, b⟩, c⟩
theorem RepA.last {H : Hp} {a : Ar} (h : RepA H a []) : a = .nil := by
  cases a with
  | nil => rfl
  | cons t r =>
    simp only [RepA] at h
    obtain ⟨_, _, _, e, _⟩ := h
    cases e
theorem fauT_tr (ps : List (List Nat)) (kn : Kn) (nd : Nd) (r : Tr) : fauT ps kn (nd.tr r) = fauN ps kn nd ++ fauT ps kn r := by
  cases nd with
  | word z => simp only [Nd.tr, fauT, fauN, List.nil_append]
  | call n a => simp only [Nd.tr, fauT, fauN, List.append_assoc]
theorem depT_tr (nd : Nd) (r : Tr) : depT (nd.tr r) = max (depN nd) (depT r) := by
  cases nd with
  | word z => simp only [Nd.tr, depT, depN]; omega
  | call n a => simp only [Nd.tr, depT, depN]
theorem BT_tr {L : Nat} {nd : Nd} {r : Tr} (h : BT L (nd.tr r)) : BN L nd ∧ BT L r := by
  cases nd with
  | word z => simp only [Nd.tr, BT] at h; exact h
  | call n a => simp only [Nd.tr, BT] at h; exact ⟨⟨h.1, h.2.1⟩, h.2.2⟩
theorem toksT_tr (nd : Nd) (r : Tr) : (toksT (nd.tr r)).length = (toksT (nd.tr .nil)).length + (toksT r).length := by
  cases nd with
  | word z => simp only [Nd.tr, toksT, List.length_cons, List.length_nil]; omega
  | call n a => simp only [Nd.tr, toksT, List.length_cons, List.length_append, List.length_nil]; omega
theorem lenA_toks : ∀ a : Ar, lenA a ≤ (toksA a).length
  | .nil => Nat.zero_le _
  | .cons t r => by
    have := lenA_toks r
    simp only [lenA, toksA, List.length_cons, List.length_append]
    omega
theorem lenT_toks : ∀ t : Tr, lenT t ≤ (toksT t).length
  | .nil => Nat.zero_le _
  | .word _ r => by
    have := lenT_toks r
    simp only [lenT, toksT, List.length_cons]
    omega
  | .call _ _ r => by
    have := lenT_toks r
    simp only [lenT, toksT, List.length_cons, List.length_append]
    omega
/-! ### the known macros as a dict -/
def knV (kn : Kn) : List (Key × V) := kn.map fun p => (Sum.inr (mkS p.1), V.int (p.2 : Int))
theorem knV_get (n : List Nat) : ∀ kn : Kn, valV (knV kn) (Sum.inr (mkS n)) = (kn.lookup n).map fun j : Nat => V.int (j : Int)
  | [] => rfl
  | (m, j) :: kn => by
    have ih := knV_get n kn
    unfold valV knV at ih ⊢
    rw [List.map_cons, List.find?_cons, List.lookup_cons]
    by_cases h : m = n
    · subst h
      rw [show decide ((Sum.inr (mkS m) : Key) = Sum.inr (mkS m)) = true from decide_eq_true rfl, show (m == m) = true from beq_iff_eq.mpr rfl]
      rfl
    · rw [show decide ((Sum.inr (mkS m) : Key) = Sum.inr (mkS n)) = false from decide_eq_false fun e => h (mkS_inj (Sum.inr.inj e)), show (n == m) = false from beq_eq_false_iff_ne.mpr fun e => h e.symm]
      exact ih
theorem knV_put {n : List Nat} {j : Nat} : ∀ {kn : Kn}, kn.lookup n = none → putK (knV kn) (Sum.inr (mkS n)) (V.int (j : Int)) = knV (kn ++ [(n, j)]) := fun {kn} h => by
  unfold putK
  have hn : ((knV kn).any fun kv => decide (kv.1 = (Sum.inr (mkS n) : Key))) = false := by
    have e := knV_get n kn
    rw [h] at e
    unfold valV at e
    rw [Option.map_none, Option.map_eq_none_iff, List.find?_eq_none] at e
    exact List.any_eq_false.mpr fun x hx => e x hx
  rw [hn, if_neg Bool.false_ne_true]
  unfold knV
  rw [List.map_append]; rfl
def KD (H : Hp) (v : V) (kn : Kn) : Prop := ∃ p, v = .ref p ∧ H p = some (.dK (knV kn))
end Vf

set_option Elab.async false
set_option linter.all false
set_option maxRecDepth 100000
set_option maxHeartbeats 4000000
namespace Vf
open PySem PySem.Spec PyProof.Rows L2 TL
theorem Kp.freeD {d l p : Addr} {H H' : Hp} (k : Kp d H H') (D : DI d l H') (n : H' p = none) : H p = none := by
  cases e : H p with
  | none => rfl
  | some o =>
    have h := k p o (D.nd n).1 e
    rw [n] at h; cases h
theorem cut_lo {ts : List (List Nat)} {i : Nat} (h : i ≤ ts.length) : cutV (ts.map sV) none (some (i : Int)) = (ts.take i).map sV := by
  unfold cutV
  rw [HT.sIx_none, HT.sIx_nat, List.length_map, List.drop_zero, Nat.sub_zero, Nat.min_eq_left h, List.map_take]
theorem cut_hi {ts : List (List Nat)} {i : Nat} (h : i ≤ ts.length) : cutV (ts.map sV) (some (i : Int)) none = (ts.drop i).map sV := by
  unfold cutV
  rw [HT.sIx_none, HT.sIx_nat, List.length_map, Nat.min_eq_left h, ← List.map_drop, List.take_of_length_le (by rw [List.length_map, List.length_drop]; exact Nat.le_refl _)]
end Vf

set_option Elab.async false
set_option linter.all false
set_option maxRecDepth 100000
set_option maxHeartbeats 4000000
namespace Vf
open PySem PySem.Spec PyProof.Rows L2 TL
theorem hu1 {k : Nat} {A : Around} (r : Room k A) : A.units + 1 < cLine := by have := r.units; omega
theorem kc_word : V.bl (decide (kCall = V.str ("call" : Str))) = V.bl true ∧ V.bl (decide (kWord = V.str ("call" : Str))) = V.bl false := by decide +kernel
section
variable {P : Program} {w : World} {K : PySem.W.Frag} {mg : Str → Option Value} {base : Heap}
/-! ### the program: small ones -/
def isDefN : Nd → Bool
  | .word _ => false
  | .call n _ => decide (n = letN)
def spIsDef : Sp := fun vs H Q _ => ∃ (v : V) (nd : Nd), vs = [v] ∧ NV H v nd ∧ Q (.bl (isDefN nd)) H
theorem ok_is_def (T : Txt K mg) : FnOk P w K mg base CX0 1 T.a_is_definition T.d_is_definition ["node"] spIsDef := by
  refine T.D_is_definition.F.ok sc_is_definition (fun vs H Q E h => ?_) (fun cdv A outer s H vs Q E hr h => ?_)
  · obtain ⟨v, nd, rfl, _⟩ := h
    rfl
  · obtain ⟨v, nd, rfl, hv, q⟩ := h
    refine ⟨_, (pss_one (ps_ret (pe_and (pe_cmpR op_eq (pe_ix ix_tup (pv 0) pe_int (fun _ _ => rfl)) pe_str (nomark _)) (pe_one (pe_cmpR op_eq (pe_ix ix_tup (pv 0) pe_int (fun _ _ => rfl)) pe_str (nomark _)))))), ?_⟩
    cases nd with
    | word z =>
      obtain ⟨p, rfl, e⟩ := hv
      exact ⟨_, rfl, p, _, _, _, rfl, rfl, SqT.of e, rfl, rfl, false, kc_word.2, q⟩
    | call n a =>
      obtain ⟨p, qa, us, rfl, e, eq, _⟩ := hv
      refine ⟨_, rfl, p, _, _, _, rfl, rfl, SqT.of e, rfl, rfl, true, kc_word.1, ?_⟩
      refine ⟨_, rfl, p, _, _, _, rfl, rfl, SqT.of e, rfl, rfl, ?_⟩
      rw [let_sV, dec_s]
      exact q
def mayNd : Nd → Bool
  | .word z => mayN z
  | .call _ _ => false
def spMay : Sp := fun vs H Q _ => ∃ (v : V) (nd : Nd), vs = [v] ∧ NV H v nd ∧ BN 1000 nd ∧ Q (.bl (mayNd nd)) H
theorem ok_may (T : Txt K mg) : FnOk P w K mg base CX0 4 T.a_may_name T.d_may_name ["node"] spMay := by
  have G_is_name : FnOk P w K mg base CX0 3 T.a_is_name T.d_is_name ["run"] (spIs isNameB) := ok_is_name T
  refine T.D_may_name.F.ok sc_may_name (fun vs H Q E h => ?_) (fun cdv A outer s H vs Q E hr h => ?_)
  · obtain ⟨v, nd, rfl, _⟩ := h
    rfl
  · obtain ⟨v, nd, rfl, hv, hb, q⟩ := h
    refine ⟨_, (pss_one (ps_ret (pe_and (pe_cmpR op_eq (pe_ix ix_tup (pv 0) pe_int (fun _ _ => rfl)) pe_str (nomark _)) (pe_and (pe_call G_is_name (hr.mono (by decide)) (by rfl) T.D_is_name.G T.D_is_name.F.kp T.D_is_name.B .nil pass0 (pa_cons (pe_ix ix_tup (pv 0) pe_int (fun _ _ => rfl)) pa_nil)) (pe_one (pe_cmpR op_notIn_seq (pe_ix ix_tup (pv 0) pe_int (fun _ _ => rfl)) (pe_glob (v := .ref T.t_BUILT_IN) (by rfl) T.m_BUILT_IN rfl) (by rfl))))))), ?_⟩
    cases nd with
    | call n a =>
      obtain ⟨p, qa, us, rfl, e, eq, _⟩ := hv
      exact ⟨_, rfl, p, _, _, _, rfl, rfl, SqT.of e, rfl, rfl, false, call_ne_word, q⟩
    | word z =>
      obtain ⟨p, rfl, e⟩ := hv
      have hb : z.length ≤ 1000 := hb.1
      refine ⟨_, rfl, p, _, _, _, rfl, rfl, SqT.of e, rfl, rfl, true, word_eq_word, ?_⟩
      refine ⟨_, rfl, p, _, _, _, rfl, rfl, SqT.of e, rfl, z, rfl, by omega, isNameB z, rfl, ?_⟩
      have q2 : Q (.bl (isNameB z && !decide (z ∈ bnN))) H := q
      cases h1 : isNameB z with
      | false => rw [h1] at q2; exact q2
      | true =>
        rw [h1, Bool.true_and] at q2
        refine ⟨_, rfl, p, _, _, _, rfl, rfl, SqT.of e, rfl, T.t_BUILT_IN, bnN.map sV, rfl, .inr ?_, rfl, flat_all _, ?_⟩
        · rw [← bn_map]; exact T.s_BUILT_IN H
        · rw [inV_s]; exact q2
/-- what is raised -/
def rsd (T : Txt K mg) : F10 → Addr × Str × V
  | .bad n => (T.c_BadCall, "name", sV n)
  | .unk n => (T.c_Unknown, "name", sV n)
  | .twice n => (T.c_Twice, "name", sV n)
  | .large => (T.c_TooLarge, "part", V.str "macros")
def Rs (T : Txt K mg) (H : Hp) (E : XK) (f : F10) : Prop := ∀ H' d, Same H H' → H' d = some (.xd [((rsd T f).2.1, (rsd T f).2.2)]) → E (.ref (rsd T f).1) (some d) H'
theorem Rs.same {T : Txt K mg} {H H1 : Hp} {E : XK} {f : F10} (r : Rs T H E f) (s : Same H H1) : Rs T H1 E f := fun H' d s2 e => r H' d (s.trans s2) e
/-! ### names of a definition -/
theorem letOf_none {a : Ar} (h : lenA a ≠ 2) : letOf a = none := by
  match a, h with
  | .nil, _ => rfl
  | .cons _ .nil, _ => rfl
  | .cons _ (.cons _ .nil), h => exact absurd rfl h
  | .cons _ (.cons _ (.cons _ _)), _ => rfl
theorem nodup_mk : ∀ {zs : List (List Nat)}, (zs.map mkS).Nodup ↔ zs.Nodup
  | [] => ⟨fun _ => List.nodup_nil, fun _ => List.nodup_nil⟩
  | z :: zs => by
    rw [List.map_cons, List.nodup_cons, List.nodup_cons, nodup_mk (zs := zs)]
    have e : mkS z ∈ zs.map mkS ↔ z ∈ zs := ⟨fun h => by
      obtain ⟨y, hy, ey⟩ := List.mem_map.mp h
      rw [← mkS_inj ey]; exact hy, fun h => List.mem_map.mpr ⟨z, h, rfl⟩⟩
    rw [e]
def oneN : Nd → List (List Nat)
  | .word z => if mayN z then [z] else []
  | .call _ _ => []
theorem nms_tr (nd : Nd) (r : Tr) : nms (nd.tr r) = oneN nd ++ nms r := by
  cases nd with
  | word z =>
    show (if mayN z then z :: nms r else nms r) = (if mayN z then [z] else []) ++ nms r
    split <;> rfl
  | call n a => rfl
def spNamesOf (T : Txt K mg) : Sp := fun vs H Q E => ∃ (q : Addr) (us : List V) (a : Ar), vs = [.ref q] ∧ H q = some (.tup us) ∧ RepA H a us ∧ BA 1000 a ∧ (toksA a).length ≤ 100000 ∧
  (∀ ns b, letOf a = some (ns, b) → ∀ H' p, Same H H' → H' p = some (.tup (ns.map sV)) → Q (.ref p) H') ∧ (letOf a = none → Rs T H E (.bad letN))
theorem ok_names_of (T : Txt K mg) : FnOk P w K mg base (L2N.CX P w) 5 T.a_names_of T.d_names_of ["given"] (spNamesOf T) := by
  have G_may_name : FnOk P w K mg base CX0 4 T.a_may_name T.d_may_name ["node"] spMay := ok_may T
  refine okN T.D_names_of.F sc_names_of (fun vs H Q E h => ?_) (fun cdv A outer s H vs Q E hr h => ?_)
  · obtain ⟨q, us, a, rfl, _⟩ := h
    rfl
  · obtain ⟨q0, us, a, rfl, hq, hA, hB, hl, q, qE⟩ := h
    refine ⟨_, (pss_cons (ps_if (PW.pt (pw_or (pt_cmpR op_ne (pe_callB call_len_seq (by rfl) T.n_len PySem.boot_len (pa_cons (pv 0) pa_nil)) pe_int (nomark _)) (pw_or1 (pt_not (pt_chain op_le op_le pe_int (pe_callB call_len_seq (by rfl) T.n_len PySem.boot_len (pa_cons (pe_ix ix_tup (pv 0) pe_int (fun _ _ => rfl)) pa_nil)) (pe_glob (v := .int 4) (by rfl) T.m_MOST_NAMES ⟨_, rfl⟩)))))) (pss_one (L2N.ps_raise rfl (L2N.takes_of rfl rfl rfl rfl) (pmkN_oex T.E_BadCall.O T.E_BadCall.I T.E_BadCall.TI (ok_BadCall T) (hr.mono (by decide)) T.E_BadCall.B (by rfl) T.E_BadCall.G (pa_cons pe_str pa_nil)))) pss_nil)
      (pss_cons (ps_set (i := 1) sc_names_of.nd rfl (.inl rfl) (pe_callTy call_tuple_of (by rfl) T.n_tuple (by decide +kernel) (pa_cons (pe_lc (own := [("node", 2)]) (g := gName 2) rfl sc_names_of.nd (pi_tup (pe_ix ix_tup (pv 0) pe_int (fun _ _ => rfl))) (blkOk_by (own := [("node", 2)]) (N := ["given", "names", "node"]) (sc := defScope s_names_of) (by decide +kernel)) (fun _ _ _ _ _ => (pg_name (i := 2) sc_names_of.nd rfl (.inl rfl))) (fun _ _ _ _ _ => (pts_one (pt_val (pe_call G_may_name (hr.mono (by decide)) (by rfl) T.D_may_name.G T.D_may_name.F.kp T.D_may_name.B .nil pass0 (pa_cons (pv 2) pa_nil))))) (fun _ _ _ _ _ => (pe_ix (r := rIxT K) ix_tup (pv 2) pe_int (fun _ _ => rfl)))) pa_nil)))
      (pss_cons (ps_if (PW.pt (pw_or (pt_cmpR op_lt (pe_callB call_len_seq (by rfl) T.n_len PySem.boot_len (pa_cons (pv 1) pa_nil)) (pe_callB call_len_seq (by rfl) T.n_len PySem.boot_len (pa_cons (pe_ix ix_tup (pv 0) pe_int (fun _ _ => rfl)) pa_nil)) (nomark _)) (pw_or1 (pt_cmpR op_lt (pe_lenSetS (by rfl) T.n_len (by rfl) T.n_set (pv 1)) (pe_callB call_len_seq (by rfl) T.n_len PySem.boot_len (pa_cons (pv 1) pa_nil)) (nomark _))))) (pss_one (L2N.ps_raise rfl (L2N.takes_of rfl rfl rfl rfl) (pmkN_oex T.E_BadCall.O T.E_BadCall.I T.E_BadCall.TI (ok_BadCall T) (hr.mono (by decide)) T.E_BadCall.B (by rfl) T.E_BadCall.G (pa_cons pe_str pa_nil)))) pss_nil)
      (pss_one (ps_ret (pv 1)))))), ?_⟩
    have el := hA.lenA
    have hla := lenA_toks a
    have rs : letOf a = none → ∀ H' d, Same H H' → H' d = some (.xd [("name", V.str "let")]) → E (.ref T.c_BadCall) (some d) H' := fun e H' d s2 e2 => by
      refine qE e H' d s2 ?_
      rw [e2, let_sV]; rfl
    refine ⟨_, rfl, q0, _, rfl, .inr (SqT.of hq), rfl, !decide (us.length = 2), ?_, ?_⟩
    · exact congrArg V.bl (congrArg Bool.not (dec_len (b := 2)))
    by_cases h2 : us.length = 2
    rotate_left
    · rw [decide_eq_false h2]
      exact raise1 fun H' d s2 e => rs (letOf_none (by omega)) H' d s2 e
    rw [decide_eq_true h2]
    match us, h2, hA, el with
    | [x0, x1], _, hA, el =>
    obtain ⟨t, a1, rfl, ⟨tp, ws, rfl, etp, ht⟩, hA1⟩ := hA.first
    obtain ⟨b, a2, rfl, hb, hA2⟩ := hA1.first
    have e3 := hA2.last
    subst e3
    simp only [BA, toksA, List.length_cons, List.length_append] at hB hl
    have tlen := ht.lenT
    have htl := lenT_toks t
    have lt : letOf (.cons t (.cons b .nil)) = if (1 ≤ lenT t ∧ lenT t ≤ 4) ∧ (nms t).length = lenT t ∧ (nms t).Nodup then some (nms t, b) else none := rfl
    refine ⟨_, rfl, q0, _, 0, _, rfl, rfl, SqT.of hq, rfl, tp, _, rfl, .inr (SqT.of etp), _, _, rfl, rfl, decide (1 ≤ ws.length), ?_, ?_⟩
    · exact congrArg V.bl (decide_eq_decide.mpr (by omega))
    by_cases h1 : 1 ≤ ws.length
    rotate_left
    · rw [decide_eq_false h1]
      refine ⟨false, rfl, raise1 fun H' d s2 e => rs ?_ H' d s2 e⟩
      rw [lt, if_neg (by omega)]
    rw [decide_eq_true h1]
    refine ⟨_, _, rfl, rfl, decide (ws.length ≤ 4), congrArg V.bl (decide_eq_decide.mpr (by omega)), ?_⟩
    by_cases h4 : ws.length ≤ 4
    rotate_left
    · rw [decide_eq_false h4]
      refine raise1 fun H' d s2 e => rs ?_ H' d s2 e
      rw [lt, if_neg (by omega)]
    rw [decide_eq_true h4]
    -- the words that can be names
    refine ⟨_, rfl, q0, _, 0, _, rfl, rfl, SqT.of hq, rfl, tp, rfl, ⟨_, SqT.of etp⟩, fun D nD => ?_⟩
    have S0 : Same H (upd H D (.lst [])) := same_upd (Same.refl H) nD
    refine lc_tup (K := K) (a := tp) (xs := ws) (fun i H' => ∃ (ns : List (List Nat)) (r : Tr), H' D = some (.lst (ns.map sV)) ∧ RepT H r (ws.drop i) ∧ Same H H' ∧ ns ++ nms r = nms t ∧ BT 1000 r)
      ⟨[], t, upd_same, ht, S0, rfl, hB.1⟩ ?_ ?_ ?_
    · rintro i H' _ ⟨_, _, _, _, k, _⟩
      exact SqT.of (k _ _ etp)
    · rintro i x H' hx ⟨ns, r, e1, hr1, k1, en, hb1⟩
      rw [drop_x hx] at hr1
      obtain ⟨nd, r2, rfl, hnd, hr2⟩ := hr1.first
      have ⟨bn, br⟩ := BT_tr hb1
      have nl := nms_len t
      refine ⟨rfl, ?_⟩
      refine ⟨_, rfl, x, nd, rfl, hnd.keep (TKeep.same k1), bn, mayNd nd, rfl, ?_⟩
      rw [nms_tr] at en
      cases nd with
      | call n a => exact ⟨ns, r2, e1, hr2, k1, en, br⟩
      | word z =>
        obtain ⟨p, rfl, ep⟩ := hnd
        have en : ns ++ ((if mayN z = true then [z] else []) ++ nms r2) = nms t := en
        show if mayN z = true then _ else _
        by_cases hm : mayN z = true
        · rw [if_pos hm]
          have en2 : ns ++ ([z] ++ nms r2) = nms t := by rw [if_pos hm] at en; exact en
          refine ⟨_, rfl, p, _, 1, _, rfl, rfl, SqT.of (k1 _ _ ep), rfl, _, e1, ?_, ns ++ [z], r2, ?_, hr2, same_mut k1 nD, by rw [List.append_assoc]; exact en2, br⟩
          · rw [List.length_map]
            have := congrArg List.length en2
            rw [List.length_append, List.length_append] at this
            exact lt_size (by omega)
          · rw [upd_same, snoc_sV]
        · rw [if_neg hm]
          have en2 : ns ++ ([] ++ nms r2) = nms t := by rw [if_neg hm] at en; exact en
          exact ⟨ns, r2, e1, hr2, k1, en2, br⟩
    · rintro H1 ⟨ns, r, e1, hr1, k1, en, _⟩
      rw [List.drop_length] at hr1
      have er := hr1.last
      subst er
      have en : ns = nms t := by rw [← en]; show ns = ns ++ []; rw [List.append_nil]
      subst en
      refine ⟨D, _, rfl, .inl ⟨SqL.of e1, fun c nc => ?_⟩⟩
      have k2 := same_upd (o := .tup ((nms t).map sV)) k1 nc
      have ec : upd H1 c (.tup ((nms t).map sV)) c = some (.tup ((nms t).map sV)) := upd_same
      obtain ⟨H2, hH2⟩ : ∃ H2, upd H1 c (.tup ((nms t).map sV)) = H2 := ⟨_, rfl⟩
      rw [hH2] at k2 ec ⊢
      have nl := nms_len t
      have ml : ((nms t).map sV).length = (nms t).length := List.length_map ..
      refine ⟨_, rfl, c, _, rfl, .inr (SqT.of ec), _, rfl, q0, _, 0, _, rfl, rfl, SqT.of (k2 _ _ hq), rfl, tp, _, rfl, .inr (SqT.of (k2 _ _ etp)), _, _, rfl, rfl, decide ((nms t).length < lenT t), ?_, ?_⟩
      · exact congrArg V.bl (decide_eq_decide.mpr (by omega))
      by_cases h5 : (nms t).length < lenT t
      · rw [decide_eq_true h5]
        refine raise1 fun H' d s2 e => rs ?_ H' d (k2.trans s2) e
        rw [lt, if_neg (by omega)]
      rw [decide_eq_false h5]
      have e5 : (nms t).length = lenT t := by omega
      have mS : (nms t).map sV = ((nms t).map mkS).map V.str := map_sV _
      have nd1 : (nms t).Nodup ↔ ((nms t).map mkS).Nodup := nodup_mk.symm
      have df := Vs.dst_full (ys := (nms t).map mkS) (Nat.le_refl _)
      have dl := Vs.dst_le ((nms t).map mkS) ((nms t).map mkS).length
      rw [List.take_length] at df
      have l2 : ((nms t).map mkS).length = (nms t).length := List.length_map ..
      refine ⟨_, rfl, c, (nms t).map mkS, rfl, by rw [← mS]; exact SqT.of ec, by omega, ?_⟩
      refine ⟨_, rfl, c, _, rfl, .inr (SqT.of ec), _, _, rfl, rfl, !decide ((nms t).Nodup), ?_, ?_⟩
      · refine congrArg V.bl ?_
        by_cases h6 : (nms t).Nodup
        · rw [decide_eq_true h6]
          have := df.mpr (nd1.mp h6)
          exact decide_eq_false (by omega)
        · rw [decide_eq_false h6]
          have : Vs.dst ((nms t).map mkS) ((nms t).map mkS).length ≠ ((nms t).map mkS).length := fun e => h6 (nd1.mpr (df.mp e))
          exact decide_eq_true (by omega)
      by_cases h6 : (nms t).Nodup
      · rw [decide_eq_true h6]
        exact ⟨_, rfl, q _ b (by rw [lt, if_pos ⟨by omega, e5, h6⟩]) _ c k2 ec⟩
      · rw [decide_eq_false h6]
        refine raise1 fun H' d s2 e => rs ?_ H' d (k2.trans s2) e
        rw [lt, if_neg (fun z => h6 z.2.2)]
/-! ### the faults of a node -/
def spCheckN (T : Txt K mg) (n : Nat) : Sp := fun vs H Q E => ∃ (v : V) (nd : Nd) (pa : Addr) (ps : List (List Nat)) (kd : V) (kn : Kn), vs = [v, .ref pa, kd] ∧ NV H v nd ∧ depN nd < n ∧ BN 1000 nd ∧ (toksT (nd.tr .nil)).length ≤ 100000 ∧ SqT K H pa (ps.map sV) ∧ KD H kd kn ∧
  (fauN ps kn nd = [] → ∀ H', Same H H' → Q .non H') ∧ (∀ f r, fauN ps kn nd = f :: r → Rs T H E f)
theorem SqT.same {H H' : Hp} {a : Addr} {xs : List V} (h : SqT K H a xs) (s : Same H H') : SqT K H' a xs := by
  rcases h with (h | ⟨o, h⟩) | h
  · exact .inl (.inl (s _ _ h))
  · exact .inl (.inr ⟨o, s _ _ h⟩)
  · exact .inr h
theorem dec_gt0 {n : Nat} : decide ((0 : Int) < (n : Nat)) = decide (0 < n) := decide_eq_decide.mpr (by omega)
theorem ok_check_node (T : Txt K mg) : ∀ n : Nat, FnOk P w K mg base (L2N.CX P w) (n + 4) T.a_check_node T.d_check_node ["node", "params", "known"] (spCheckN T n)
  | 0 => by
    refine okN T.D_check_node.F sc_check_node (fun vs H Q E h => ?_) (fun cdv A outer s H vs Q E hr h => ?_)
    · obtain ⟨v, nd, pa, ps, kd, kn, rfl, _⟩ := h
      rfl
    · obtain ⟨v, nd, pa, ps, kd, kn, rfl, _, hd, _⟩ := h
      exact absurd hd (Nat.not_lt_zero _)
  | n + 1 => by
    have G_check_node : FnOk P w K mg base (L2N.CX P w) (n + 4) T.a_check_node T.d_check_node ["node", "params", "known"] (spCheckN T n) := ok_check_node T n
    refine okN (k := n + 4) T.D_check_node.F sc_check_node (fun vs H Q E h => ?_) (fun cdv A outer s H vs Q E hr h => ?_)
    · obtain ⟨v, nd, pa, ps, kd, kn, rfl, _⟩ := h
      rfl
    · obtain ⟨v, nd, pa, ps, kd, kn, rfl, hv, hd, hb, hl, hpa, hkd, q, qE⟩ := h
      have hr2 : Room 2 _ := hr.mono (by omega)
      refine ⟨_, (pss_cons (ps_if (pt_cmpR op_eq (pe_ix ix_tup (pv 0) pe_int (fun _ _ => rfl)) pe_str (nomark _)) (pss_one ps_retN) pss_nil)
      (pss_cons (ps_par (i := 3) (j := 4) (by rfl) sc_check_node.nd rfl rfl (by decide) rfl rfl (pa_cons (pe_ix ix_tup (pv 0) pe_int (fun _ _ => rfl)) (pa_cons (pe_ix ix_tup (pv 0) pe_int (fun _ _ => rfl)) pa_nil)) (by rfl))
      (pss_cons (ps_if (pt_cmpR op_eq (pv 3) pe_str (nomark _)) (pss_one (L2N.ps_raise rfl (L2N.takes_of rfl rfl rfl rfl) (pmkN_oex T.E_BadCall.O T.E_BadCall.I T.E_BadCall.TI (ok_BadCall T) (hr.mono (by omega)) T.E_BadCall.B (by rfl) T.E_BadCall.G (pa_cons pe_str pa_nil)))) pss_nil)
      (Evl.pss_cut (ps_if (pt_cmpR op_in_seq (pv 3) (pv 1) (by rfl)) (pss_one (ps_if (pt_cmpR op_gt (pe_callB call_len_seq (by rfl) T.n_len PySem.boot_len (pa_cons (pv 4) pa_nil)) pe_int (nomark _)) (pss_one (L2N.ps_raise rfl (L2N.takes_of rfl rfl rfl rfl) (pmkN_oex T.E_BadCall.O T.E_BadCall.I T.E_BadCall.TI (ok_BadCall T) (hr.mono (by omega)) T.E_BadCall.B (by rfl) T.E_BadCall.G (pa_cons (pv 3) pa_nil)))) pss_nil)) (pss_one (ps_if (pt_cmp (pc_din (hu1 hr) (pv 3) (pv 2))) (pss_one (ps_if (pt_cmpR op_ne (pe_callB call_len_seq (by rfl) T.n_len PySem.boot_len (pa_cons (pv 4) pa_nil)) (pe_dget (hu1 hr) (pv 2) (pv 3) (fun _ _ => rfl)) (nomark _)) (pss_one (L2N.ps_raise rfl (L2N.takes_of rfl rfl rfl rfl) (pmkN_oex T.E_BadCall.O T.E_BadCall.I T.E_BadCall.TI (ok_BadCall T) (hr.mono (by omega)) T.E_BadCall.B (by rfl) T.E_BadCall.G (pa_cons (pv 3) pa_nil)))) pss_nil)) (pss_one (ps_if (pt_cmpR op_notIn_seq (pv 3) (pe_glob (v := .ref T.t_BUILT_IN) (by rfl) T.m_BUILT_IN rfl) (by rfl)) (pss_one (L2N.ps_raise rfl (L2N.takes_of rfl rfl rfl rfl) (pmkN_oex T.E_Unknown.O T.E_Unknown.I T.E_Unknown.TI (ok_Unknown T) (hr.mono (by omega)) T.E_Unknown.B (by rfl) T.E_Unknown.G (pa_cons (pv 3) pa_nil)))) pss_nil)))))
      (pss_one (ps_for (passes_of rfl) rfl (pi_tup (pv 4)) (pg_name (i := 5) sc_check_node.nd rfl (.inl rfl)) (pss_one (ps_for (passes_of rfl) rfl (pi_tup (pv 5)) (pg_name (i := 6) sc_check_node.nd rfl (.inl rfl)) (pss_one (ps_expr (pe_callS G_check_node (hr.mono (by omega)) rfl T.D_check_node.G T.D_check_node.F.kp T.D_check_node.B (fun σ => L2N.passAt (L2N.takes_of rfl rfl rfl rfl) σ) (pa_cons (pv 6) (pa_cons (pv 1) (pa_cons (pv 2) pa_nil)))))))))))))), ?_⟩
      cases nd with
      | word z =>
        obtain ⟨p, rfl, e⟩ := hv
        exact ⟨_, rfl, p, _, _, _, rfl, rfl, SqT.of e, rfl, rfl, true, word_eq_word, q rfl H (Same.refl H)⟩
      | call nm a =>
        obtain ⟨p, qa, us, rfl, e, eq, hA⟩ := hv
        refine ⟨_, rfl, p, _, _, _, rfl, rfl, SqT.of e, rfl, rfl, false, call_ne_word, ?_⟩
        refine ⟨_, rfl, p, _, _, _, rfl, rfl, SqT.of e, rfl, _, rfl, p, _, _, _, rfl, rfl, SqT.of e, rfl, _, _, rfl, ?_⟩
        have el := hA.lenA
        have hdA : depA a < n + 1 := hd
        have ⟨hbn, hbA⟩ : (nm.length ≤ 1000 ∧ Low nm) ∧ BA 1000 a := hb
        have hl2 : (toksA a).length ≤ 100000 := by
          have h2 := hl
          simp only [Nd.tr, toksT, List.length_cons, List.length_append] at h2
          omega
        have fN : fauN ps kn (.call nm a) = ownF ps kn nm (lenA a) ++ fauA ps kn a := rfl
        -- its own fault
        have own : ∀ f, ownF ps kn nm (lenA a) = [f] → Rs T H E f := fun f e1 => qE f (fauA ps kn a) (by rw [fN, e1]; rfl)
        refine ⟨_, rfl, rfl, decide (nm = letN), ?_, ?_⟩
        · rw [let_sV, dec_s]
        by_cases h1 : nm = letN
        · rw [decide_eq_true h1]
          refine raise1 fun H' d s2 e2 => own (.bad letN) (by unfold ownF; rw [if_pos h1]) H' d s2 ?_
          rw [e2, let_sV]; rfl
        rw [decide_eq_false h1]
        refine ⟨fun σ' H' => σ' = [some (.ref p), some (.ref pa), some kd, some (sV nm), some (.ref qa), none, none] ∧ H' = H ∧ ownF ps kn nm (lenA a) = [], ?_, ?_⟩
        · refine ⟨_, rfl, _, rfl, pa, ps.map sV, rfl, .inr hpa, rfl, flat_all _, decide (nm ∈ ps), ?_, ?_⟩
          · exact congrArg V.bl (inV_s nm ps)
          by_cases h2 : nm ∈ ps
          · rw [decide_eq_true h2]
            refine ⟨_, rfl, qa, _, rfl, .inr (SqT.of eq), _, _, rfl, rfl, decide (0 < us.length), congrArg V.bl dec_gt0, ?_⟩
            by_cases h3 : 0 < us.length
            · rw [decide_eq_true h3]
              exact ⟨_, rfl, raise1 fun H' d s2 e2 => own (.bad nm) (by unfold ownF; rw [if_neg h1, if_pos h2, if_pos (by omega)]) H' d s2 e2⟩
            · rw [decide_eq_false h3]
              exact ⟨rfl, rfl, by unfold ownF; rw [if_neg h1, if_pos h2, if_neg (by omega)]⟩
          rw [decide_eq_false h2]
          obtain ⟨ka, rfl, hk⟩ := hkd
          have hg : DGet H ka (sV nm) ((kn.lookup nm).map fun j : Nat => V.int (j : Int)) := by
            rw [← knV_get]; exact DGet.k (k := Sum.inr (mkS nm)) hk
          cases h3 : kn.lookup nm with
          | some j =>
            rw [h3] at hg
            refine ⟨_, rfl, _, rfl, ka, _, rfl, hg, true, rfl, ?_⟩
            refine ⟨_, rfl, qa, _, rfl, .inr (SqT.of eq), _, rfl, _, rfl, ka, _, rfl, hg, rfl, !decide (us.length = j), congrArg V.bl (congrArg Bool.not dec_len), ?_⟩
            by_cases h4 : us.length = j
            · rw [decide_eq_true h4]
              refine ⟨rfl, rfl, ?_⟩
              unfold ownF
              rw [if_neg h1, if_neg h2, h3]
              exact if_pos (by omega)
            · rw [decide_eq_false h4]
              refine ⟨_, rfl, raise1 fun H' d s2 e2 => own (.bad nm) ?_ H' d s2 e2⟩
              unfold ownF
              rw [if_neg h1, if_neg h2, h3]
              exact if_neg (by omega)
          | none =>
            rw [h3] at hg
            refine ⟨_, rfl, _, rfl, ka, _, rfl, hg, false, rfl, ?_⟩
            refine ⟨_, rfl, T.t_BUILT_IN, bnN.map sV, rfl, .inr ?_, rfl, flat_all _, !decide (nm ∈ bnN), ?_, ?_⟩
            · rw [← bn_map]; exact T.s_BUILT_IN H
            · exact congrArg V.bl (congrArg Bool.not (inV_s nm bnN))
            by_cases h4 : nm ∈ bnN
            · rw [decide_eq_true h4]
              refine ⟨rfl, rfl, ?_⟩
              unfold ownF
              rw [if_neg h1, if_neg h2, h3]
              exact if_pos h4
            · rw [decide_eq_false h4]
              refine ⟨_, rfl, raise1 fun H' d s2 e2 => own (.unk nm) ?_ H' d s2 e2⟩
              unfold ownF
              rw [if_neg h1, if_neg h2, h3]
              exact if_neg h4
        · rintro σ' H0 ⟨rfl, rfl, e0⟩
          have fF : fauN ps kn (.call nm a) = fauA ps kn a := by rw [fN, e0]; rfl
          rw [fF] at q qE
          refine ⟨_, rfl, qa, rfl, ⟨_, SqT.of eq⟩, ?_⟩
          refine for_tup (K := K) (a := qa) (xs := us) (fun i σ' H' => ∃ (r : Ar) (x5 x6 : Option V), σ' = [some (.ref p), some (.ref pa), some kd, some (sV nm), some (.ref qa), x5, x6] ∧ RepA H0 r (us.drop i) ∧ Same H0 H' ∧ fauA ps kn r = fauA ps kn a ∧ depA r < n + 1 ∧ BA 1000 r ∧ (toksA r).length ≤ 100000)
            ⟨a, none, none, rfl, hA, Same.refl _, rfl, hdA, hbA, hl2⟩ ?_ ?_ ?_
          · rintro i σ' H' _ ⟨_, _, _, _, _, s1, _⟩
            exact SqT.of (s1 _ _ eq)
          · rintro i x σ' H1 hx ⟨r, x5, x6, rfl, hr1, s1, ef, d1, b1, l1⟩
            rw [drop_x hx] at hr1
            obtain ⟨t, r2, rfl, ⟨tp, ws, rfl, etp, ht⟩, hr2⟩ := hr1.first
            simp only [fauA, depA, BA, toksA, List.length_cons, List.length_append] at ef d1 b1 l1
            refine ⟨_, rfl, tp, rfl, ⟨_, SqT.of (s1 _ _ etp)⟩, ?_⟩
            refine for_tup (K := K) (a := tp) (xs := ws) (fun j σ' H' => ∃ (rt : Tr) (x6 : Option V), σ' = [some (.ref p), some (.ref pa), some kd, some (sV nm), some (.ref qa), some (.ref tp), x6] ∧ RepT H0 rt (ws.drop j) ∧ Same H0 H' ∧ fauT ps kn rt ++ fauA ps kn r2 = fauA ps kn a ∧ depT rt < n ∧ BT 1000 rt ∧ (toksT rt).length ≤ 100000)
              ⟨t, _, rfl, ht, s1, ef, by omega, b1.1, by omega⟩ ?_ ?_ ?_
            · rintro j σ' H' _ ⟨_, _, _, _, s2, _⟩
              exact SqT.of (s2 _ _ etp)
            · rintro j y σ' H2 hy ⟨rt, x6, rfl, hrt, s2, ef2, d2, b2, l2⟩
              rw [drop_x hy] at hrt
              obtain ⟨nd, r3, rfl, hnd, hr3⟩ := hrt.first
              rw [fauT_tr, List.append_assoc] at ef2
              rw [depT_tr] at d2
              rw [toksT_tr] at l2
              have ⟨b3, b4⟩ := BT_tr b2
              refine ⟨_, rfl, _, rfl, _, rfl, y, nd, pa, ps, kd, kn, rfl, hnd.keep (TKeep.same s2), by omega, b3, by omega, SqT.same hpa s2, ?_, fun ez H3 s3 => ?_, fun f rr ez H3 d s3 e3 => ?_⟩
              · obtain ⟨ka, ek, hk⟩ := hkd
                exact ⟨ka, ek, s2 _ _ hk⟩
              · rw [ez, List.nil_append] at ef2
                exact ⟨r3, _, rfl, hr3, s2.trans s3, ef2, by omega, b4, by omega⟩
              · rw [ez, List.cons_append] at ef2
                exact qE f _ ef2.symm H3 d (s2.trans s3) e3
            · rintro σ' H2 ⟨rt, x6, rfl, hrt, s2, ef2, _⟩
              rw [List.drop_length] at hrt
              have e9 := hrt.last
              subst e9
              exact ⟨r2, _, _, rfl, hr2, s2, ef2, by omega, b1.2, by omega⟩
          · rintro σ' H1 ⟨r, x5, x6, rfl, hr1, s1, ef, _⟩
            rw [List.drop_length] at hr1
            have e9 := hr1.last
            subst e9
            exact q ef.symm H1 s1
/-! ### a definition -/
def ltF (kn : Kn) (a : Ar) : Option F10 := if kn.length = 40 then some .large else match letOf a with
  | none => some (.bad letN)
  | some ([], _) => none
  | some (m :: ps, b) => if (kn.lookup m).isSome then some (.twice m) else (fauT ps kn b).head?
def ltK (kn : Kn) (a : Ar) : Kn := match letOf a with
  | some (m :: ps, _) => kn ++ [(m, ps.length)]
  | _ => kn
/-- the first fault of a tree, where these macros are known -/
def chk : Tr → Kn → Option F10
  | .nil, _ => none
  | .word _ r, kn => chk r kn
  | .call n a r, kn => if n = letN then (match ltF kn a with | some f => some f | none => chk r (ltK kn a)) else match fauN [] kn (.call n a) with | f :: _ => some f | [] => chk r kn
theorem sl1 {n : Nat} {x : Prop} (h : 1 ≤ n) : ¬ (HT.sIx n 0 (some 1) = 0 ∧ x) := fun z => by
  have e : HT.sIx n 0 (some ((1 : Nat) : Int)) = 0 := z.1
  rw [HT.sIx_nat] at e
  omega
def spCheckD (T : Txt K mg) : Sp := fun vs H Q E => ∃ (v : V) (a : Ar) (ka : Addr) (kn : Kn), vs = [v, .ref ka] ∧ CV H v letN a ∧ H ka = some (.dK (knV kn)) ∧ depA a < 40 ∧ BA 1000 a ∧ (toksA a).length ≤ 100000 ∧ kn.length ≤ 40 ∧
  (ltF kn a = none → ∀ H', Kp ka H H' → H' ka = some (.dK (knV (ltK kn a))) → Q .non H') ∧ (∀ f, ltF kn a = some f → Rs T H E f)
theorem Kp.of_same {d : Addr} {H H' : Hp} (s : Same H H') : Kp d H H' := fun b o _ e => s b o e
theorem ok_check_def (T : Txt K mg) : FnOk P w K mg base (L2N.CX P w) 46 T.a_check_definition T.d_check_definition ["node", "known"] (spCheckD T) := by
  have G_names_of : FnOk P w K mg base (L2N.CX P w) 5 T.a_names_of T.d_names_of ["given"] (spNamesOf T) := ok_names_of T
  have G_check_node : FnOk P w K mg base (L2N.CX P w) 44 T.a_check_node T.d_check_node ["node", "params", "known"] (spCheckN T 40) := ok_check_node T 40
  refine okN T.D_check_definition.F sc_check_definition (fun vs H Q E h => ?_) (fun cdv A outer s H vs Q E hr h => ?_)
  · obtain ⟨v, a, ka, kn, rfl, _⟩ := h
    rfl
  · obtain ⟨v, a, ka, kn, rfl, ⟨p, qa, us, rfl, e, eq, hA⟩, hk, hd, hB, hl, hn, q, qE⟩ := h
    refine ⟨_, (pss_cons (ps_if (pt_cmpR op_eq (pe_callB call_lenD (by rfl) T.n_len PySem.boot_len (pa_cons (pv 1) pa_nil)) (pe_glob (v := .int 40) (by rfl) T.m_MOST_MACROS ⟨_, rfl⟩) (nomark _)) (pss_one (L2N.ps_raise rfl (L2N.takes_of rfl rfl rfl rfl) (pmkN_oex T.E_TooLarge.O T.E_TooLarge.I T.E_TooLarge.TI (ok_TooLarge T) (hr.mono (by decide)) T.E_TooLarge.B (by rfl) T.E_TooLarge.G (pa_cons pe_str pa_nil)))) pss_nil)
      (pss_cons (ps_set (i := 2) sc_check_definition.nd rfl (.inl rfl) (pe_callS G_names_of (hr.mono (by decide)) rfl T.D_names_of.G T.D_names_of.F.kp T.D_names_of.B (fun σ => L2N.passAt (L2N.takes_of rfl rfl rfl rfl) σ) (pa_cons (pe_ix ix_tup (pv 0) pe_int (fun _ _ => rfl)) pa_nil)))
      (pss_cons (ps_if (pt_cmp (pc_din (hu1 hr) (pe_ix ix_tup (pv 2) pe_int (fun _ _ => rfl)) (pv 1))) (pss_one (L2N.ps_raise rfl (L2N.takes_of rfl rfl rfl rfl) (pmkN_oex T.E_Twice.O T.E_Twice.I T.E_Twice.TI (ok_Twice T) (hr.mono (by decide)) T.E_Twice.B (by rfl) T.E_Twice.G (pa_cons (pe_ix ix_tup (pv 2) pe_int (fun _ _ => rfl)) pa_nil)))) pss_nil)
      (pss_cons (ps_for (passes_of rfl) rfl (pi_tup (pe_ix ix_tup (pe_ix ix_tup (pv 0) pe_int (fun _ _ => rfl)) pe_int (fun _ _ => rfl))) (pg_name (i := 3) sc_check_definition.nd rfl (.inl rfl)) (pss_one (ps_expr (pe_callS G_check_node (hr.mono (by decide)) rfl T.D_check_node.G T.D_check_node.F.kp T.D_check_node.B (fun σ => L2N.passAt (L2N.takes_of rfl rfl rfl rfl) σ) (pa_cons (pv 3) (pa_cons (pe_slice sl_tup (pv 2) (po_some pe_int) po_none) (pa_cons (pv 1) pa_nil)))))))
      (pss_one (ps_dput (hu1 hr) (pv 1) (pe_ix ix_tup (pv 2) pe_int (fun _ _ => rfl)) (pe_op op_sub (pe_callB call_len_seq (by rfl) T.n_len PySem.boot_len (pa_cons (pv 2) pa_nil)) pe_int) rfl)))))), ?_⟩
    have klen : (knV kn).length = kn.length := List.length_map ..
    refine ⟨_, rfl, ka, _, rfl, hk, rfl, decide (kn.length = 40), ?_, ?_⟩
    · rw [klen]; exact congrArg V.bl (dec_len (b := 40))
    by_cases h40 : kn.length = 40
    · rw [decide_eq_true h40]
      exact raise1 fun H' d s2 e2 => qE .large (by unfold ltF; rw [if_pos h40]) H' d s2 e2
    rw [decide_eq_false h40]
    refine ⟨_, rfl, p, _, _, _, rfl, rfl, SqT.of e, rfl, qa, us, a, rfl, eq, hA, hB, hl, fun ns b eL H1 np s1 en => ?_, fun eL H1 d s1 e1 => ?_⟩
    rotate_left
    · exact qE (.bad letN) (by unfold ltF; rw [if_neg h40, eL]) H1 d s1 e1
    obtain ⟨t, rfl, ens, c1, c2, c3⟩ := letOf_ok eL
    match ns, ens, eL, en with
    | [], ens, _, _ =>
      rw [← ens] at c2
      have : ([] : List (List Nat)).length = 0 := rfl
      omega
    | m :: ps, ens, eL, en =>
    have hg : DGet H1 ka (sV m) ((kn.lookup m).map fun j : Nat => V.int (j : Int)) := by
      rw [← knV_get]; exact DGet.k (k := Sum.inr (mkS m)) (s1 _ _ hk)
    have lF : ltF kn (.cons t (.cons b .nil)) = if (kn.lookup m).isSome then some (.twice m) else (fauT ps kn b).head? := by
      unfold ltF; rw [if_neg h40, eL]
    have lK : ltK kn (.cons t (.cons b .nil)) = kn ++ [(m, ps.length)] := by unfold ltK; rw [eL]
    rw [lF, lK] at q
    rw [lF] at qE
    refine ⟨_, rfl, np, _, 0, _, rfl, rfl, SqT.of en, atI_nat (j := 0) rfl, _, rfl, ka, _, rfl, hg, (kn.lookup m).isSome, ?_, ?_⟩
    · cases kn.lookup m <;> rfl
    cases h5 : kn.lookup m with
    | some j =>
      rw [h5] at qE
      exact ⟨_, rfl, np, _, 0, _, rfl, rfl, SqT.of en, atI_nat (j := 0) rfl, raise1 fun H' d s2 e2 => qE (.twice m) rfl H' d (s1.trans s2) e2⟩
    | none =>
      rw [h5] at q qE
      have q : (fauT ps kn b).head? = none → ∀ H', Kp ka H H' → H' ka = some (.dK (knV (kn ++ [(m, ps.length)]))) → Q .non H' := q
      have qE : ∀ f, (fauT ps kn b).head? = some f → Rs T H E f := qE
      obtain ⟨t1, a1, ea, ⟨tp, ws, et, etp, ht⟩, hA1⟩ : ∃ t1 a1, Ar.cons t (.cons b .nil) = .cons t1 a1 ∧ TV H (us.headD .non) t1 ∧ RepA H a1 us.tail := by
        cases us with
        | nil => simp only [RepA] at hA; obtain ⟨_, _, _, z, _⟩ := hA; cases z
        | cons x0 us => exact hA.first
      injection ea with ea1 ea2
      subst ea1 ea2
      obtain ⟨x0, us1, rfl⟩ : ∃ x0 us1, us = x0 :: us1 := by
        cases us with
        | nil => simp only [RepA] at hA; obtain ⟨_, _, _, z, _⟩ := hA; cases z
        | cons x0 us => exact ⟨_, _, rfl⟩
      obtain ⟨x1, us2, e9⟩ : ∃ x1 us2, us1 = x1 :: us2 := by
        cases us1 with
        | nil => have := RepA.lenA hA; simp [lenA] at this
        | cons x1 us => exact ⟨_, _, rfl⟩
      subst e9
      obtain ⟨b1, a3, ea, ⟨bp, wb, eb, ebp, hbT⟩, _⟩ := RepA.first (x := x1) (vs := us2) hA1
      injection ea with ea1 ea2
      subst ea1 ea2 eb
      simp only [depA, BA, toksA, List.length_cons, List.length_append, List.length_nil] at hd hB hl
      refine ⟨_, rfl, p, _, 2, _, rfl, rfl, SqT.of (s1 _ _ e), rfl, qa, _, 1, _, rfl, rfl, SqT.of (s1 _ _ eq), atI_nat (j := 1) rfl, bp, rfl, ⟨_, SqT.of (s1 _ _ ebp)⟩, ?_⟩
      refine for_tup (K := K) (a := bp) (xs := wb) (fun i σ' H' => ∃ (r : Tr) (x3 : Option V), σ' = [some (.ref p), some (.ref ka), some (.ref np), x3] ∧ RepT H r (wb.drop i) ∧ Same H1 H' ∧ fauT ps kn r = fauT ps kn b ∧ depT r < 40 ∧ BT 1000 r ∧ (toksT r).length ≤ 100000)
        ⟨b, none, rfl, hbT, Same.refl _, rfl, by omega, hB.2.1, by omega⟩ ?_ ?_ ?_
      · rintro i σ' H' _ ⟨_, _, _, _, s2, _⟩
        exact SqT.of (s2 _ _ (s1 _ _ ebp))
      · rintro i x σ' H2 hx ⟨r, x3, rfl, hr1, s2, ef, d1, b1, l1⟩
        rw [drop_x hx] at hr1
        obtain ⟨nd, r2, rfl, hnd, hr2⟩ := hr1.first
        rw [fauT_tr] at ef
        rw [depT_tr] at d1
        rw [toksT_tr] at l1
        have ⟨b3, b4⟩ := BT_tr b1
        have s12 := s1.trans s2
        refine ⟨_, rfl, _, rfl, _, rfl, np, _, rfl, SqT.of (s2 _ _ en), sl1 (by rw [List.length_map, List.length_cons]; omega), fun pp npp => ?_⟩
        rw [show cutV ((m :: ps).map sV) (some 1) none = ps.map sV from cut_hi (ts := m :: ps) (i := 1) (by rw [List.length_cons]; omega)]
        have s3 := same_upd (o := .tup (ps.map sV)) (Same.refl H2) npp
        refine ⟨_, rfl, x, nd, pp, ps, _, kn, rfl, hnd.keep (TKeep.same (s12.trans s3)), by omega, b3, by omega, SqT.of upd_same, ⟨ka, rfl, s3 _ _ (s12 _ _ hk)⟩, fun ez H3 s4 => ?_, fun f rr ez H3 d s4 e3 => ?_⟩
        · rw [ez, List.nil_append] at ef
          exact ⟨r2, _, rfl, hr2, (s2.trans s3).trans s4, ef, by omega, b4, by omega⟩
        · rw [ez, List.cons_append] at ef
          exact qE f (by rw [← ef]; rfl) H3 d ((s12.trans s3).trans s4) e3
      · rintro σ' H2 ⟨r, x3, rfl, hr1, s2, ef, _⟩
        rw [List.drop_length] at hr1
        have e9 := hr1.last
        subst e9
        have s12 := s1.trans s2
        have ek := s12 _ _ hk
        have ml : ((m :: ps).map sV).length = ps.length + 1 := by rw [List.length_map]; rfl
        refine ⟨_, rfl, np, _, rfl, .inr (SqT.of (s2 _ _ en)), _, _, rfl, rfl, _, rfl, _, rfl, np, _, 0, _, rfl, rfl, SqT.of (s2 _ _ en), atI_nat (j := 0) rfl, ka, _, rfl, DPut.k (k := Sum.inr (mkS m)) ek (by rw [klen]; exact lt_size (by omega)), ?_⟩
        have ev : (((((m :: ps).map sV).length : Nat) : Int) - 1) = ((ps.length : Nat) : Int) := by rw [ml]; omega
        refine q (by rw [← ef]; rfl) _ (Kp.of_same s12).upd ?_
        rw [upd_same]
        show some (HO.dK (putK (knV kn) (Sum.inr (mkS m)) (V.int ((((m :: ps).map sV).length : Nat) - 1)))) = _
        rw [ev, knV_put h5]
/-! ### the whole tree -/
theorem ltK_len {kn : Kn} {a : Ar} (h : kn.length ≤ 40) (e : ltF kn a = none) : (ltK kn a).length ≤ 40 := by
  have h2 : kn.length ≠ 40 := fun q => by unfold ltF at e; rw [if_pos q] at e; cases e
  unfold ltK
  match letOf a with
  | none => exact h
  | some ([], _) => exact h
  | some (m :: ps, _) =>
    show (kn ++ [(m, ps.length)]).length ≤ 40
    rw [List.length_append]
    show kn.length + 1 ≤ 40
    omega
theorem chk_tr (nd : Nd) (r : Tr) (kn : Kn) (h : isDefN nd = false) : chk (nd.tr r) kn = match fauN [] kn nd with | f :: _ => some f | [] => chk r kn := by
  cases nd with
  | word z => simp only [Nd.tr, chk, fauN]
  | call n a =>
    have hn : ¬ n = letN := of_decide_eq_false h
    simp only [Nd.tr, chk]
    rw [if_neg hn]
def spCheckM (T : Txt K mg) : Sp := fun vs H Q E => ∃ (p : Addr) (us : List V) (t : Tr), vs = [.ref p] ∧ H p = some (.tup us) ∧ RepT H t us ∧ depT t < 40 ∧ BT 1000 t ∧ (toksT t).length ≤ 100000 ∧
  (chk t [] = none → ∀ H', Same H H' → Q .non H') ∧ (∀ f, chk t [] = some f → Rs T H E f)
theorem ok_check_macros (T : Txt K mg) : FnOk P w K mg base (L2N.CX P w) 47 T.a_check_macros T.d_check_macros ["tree"] (spCheckM T) := by
  have G_is_definition : FnOk P w K mg base CX0 1 T.a_is_definition T.d_is_definition ["node"] spIsDef := ok_is_def T
  have G_check_node : FnOk P w K mg base (L2N.CX P w) 44 T.a_check_node T.d_check_node ["node", "params", "known"] (spCheckN T 40) := ok_check_node T 40
  have G_check_definition : FnOk P w K mg base (L2N.CX P w) 46 T.a_check_definition T.d_check_definition ["node", "known"] (spCheckD T) := ok_check_def T
  refine okN T.D_check_macros.F sc_check_macros (fun vs H Q E h => ?_) (fun cdv A outer s H vs Q E hr h => ?_)
  · obtain ⟨p, us, t, rfl, _⟩ := h
    rfl
  · obtain ⟨p, us, t, rfl, hp, hR, hd, hB, hl, q, qE⟩ := h
    refine ⟨_, (pss_cons (ps_set (i := 1) sc_check_macros.nd rfl (.inl rfl) pe_dnewK)
      (pss_one (ps_for (passes_of rfl) rfl (pi_tup (pv 0)) (pg_name (i := 2) sc_check_macros.nd rfl (.inl rfl)) (pss_one (ps_if (pt_val (pe_call G_is_definition (hr.mono (by decide)) (by rfl) T.D_is_definition.G T.D_is_definition.F.kp T.D_is_definition.B .nil pass0 (pa_cons (pv 2) pa_nil))) (pss_one (ps_expr (pe_callS G_check_definition (hr.mono (by decide)) rfl T.D_check_definition.G T.D_check_definition.F.kp T.D_check_definition.B (fun σ => L2N.passAt (L2N.takes_of rfl rfl rfl rfl) σ) (pa_cons (pv 2) (pa_cons (pv 1) pa_nil))))) (pss_one (ps_expr (pe_callS G_check_node (hr.mono (by decide)) rfl T.D_check_node.G T.D_check_node.F.kp T.D_check_node.B (fun σ => L2N.passAt (L2N.takes_of rfl rfl rfl rfl) σ) (pa_cons (pv 2) (pa_cons (pe_tup pa_nil) (pa_cons (pv 1) pa_nil))))))))))), ?_⟩
    intro ka nk
    have s0 := same_upd (o := .dK []) (Same.refl H) nk
    refine ⟨_, rfl, p, rfl, ⟨_, SqT.of (s0 _ _ hp)⟩, ?_⟩
    refine for_tup (K := K) (a := p) (xs := us) (fun i σ' H' => ∃ (kn : Kn) (r : Tr) (x2 : Option V), σ' = [some (.ref p), some (.ref ka), x2] ∧ RepT H r (us.drop i) ∧ Same H H' ∧ H' ka = some (.dK (knV kn)) ∧ kn.length ≤ 40 ∧ chk r kn = chk t [] ∧ depT r < 40 ∧ BT 1000 r ∧ (toksT r).length ≤ 100000)
      ⟨[], t, none, rfl, hR, s0, upd_same, by show 0 ≤ 40; decide, rfl, hd, hB, hl⟩ ?_ ?_ ?_
    · rintro i σ' H' _ ⟨_, _, _, _, _, s1, _⟩
      exact SqT.of (s1 _ _ hp)
    · rintro i x σ' H1 hx ⟨kn, r, x2, rfl, hr1, s1, ek, kl, ec, d1, b1, l1⟩
      rw [drop_x hx] at hr1
      obtain ⟨nd, r2, rfl, hnd, hr2⟩ := hr1.first
      rw [depT_tr] at d1
      rw [toksT_tr] at l1
      have ⟨b3, b4⟩ := BT_tr b1
      have hnd1 := hnd.keep (TKeep.same s1)
      refine ⟨_, rfl, x, nd, rfl, hnd1, isDefN nd, rfl, ?_⟩
      cases hdef : isDefN nd with
      | true =>
        cases nd with
        | word z => cases hdef
        | call n a =>
          have en : n = letN := of_decide_eq_true hdef
          subst en
          have ec2 : chk (.call letN a r2) kn = match ltF kn a with | some f => some f | none => chk r2 (ltK kn a) := by
            simp only [chk]
            rw [if_pos trivial]
          have l3 : (toksA a).length ≤ 100000 := by
            have h2 := l1
            simp only [Nd.tr, toksT, List.length_cons, List.length_append] at h2
            omega
          have d3 : depA a < 40 := by
            have h2 : depN (.call letN a) = depA a := rfl
            omega
          have ec3 : chk (.call letN a r2) kn = chk t [] := ec
          refine ⟨_, rfl, _, rfl, x, a, ka, kn, rfl, hnd1, ek, d3, b3.2, l3, kl, fun ez H2 k2 ek2 => ?_, fun f ez H2 d s2 e2 => ?_⟩
          · rw [ec2, ez] at ec3
            have s2 : Same H H2 := fun b o e => k2 b o (ne_of_none e nk) (s1 _ _ e)
            exact ⟨ltK kn a, r2, _, rfl, hr2, s2, ek2, ltK_len kl ez, ec3, by omega, b4, by omega⟩
          · rw [ec2, ez] at ec3
            exact qE f ec3.symm H2 d (s1.trans s2) e2
      | false =>
        rw [chk_tr nd r2 kn hdef] at ec
        refine ⟨_, rfl, by show 0 ≤ sizeLine; decide, fun pp npp => ?_⟩
        have s2 := same_upd (o := .tup []) (Same.refl H1) npp
        refine ⟨_, rfl, x, nd, pp, [], _, kn, rfl, hnd1.keep (TKeep.same s2), by omega, b3, by omega, SqT.of upd_same, ⟨ka, rfl, s2 _ _ ek⟩, fun ez H3 s3 => ?_, fun f rr ez H3 d s3 e3 => ?_⟩
        · rw [ez] at ec
          exact ⟨kn, r2, _, rfl, hr2, (s1.trans s2).trans s3, s3 _ _ (s2 _ _ ek), kl, ec, by omega, b4, by omega⟩
        · rw [ez] at ec
          exact qE f ec.symm H3 d ((s1.trans s2).trans s3) e3
    · rintro σ' H1 ⟨kn, r, x2, rfl, hr1, s1, ek, kl, ec, _⟩
      rw [List.drop_length] at hr1
      have e9 := hr1.last
      subst e9
      exact q ec.symm H1 s1
end
end Vf

set_option Elab.async false
set_option linter.all false
set_option maxRecDepth 100000
set_option maxHeartbeats 4000000
namespace Vf
open PySem PySem.Spec PyProof.Rows L2 TL
/-! ### a walk over the signs of a text -/
theorem for_its {x : Str} {g : TG} {tb : TS} {D : Ends} {σ : L2.St} {H : Hp} (Pv : Nat → L2.St → Hp → Prop) (h0 : Pv 0 σ H)
    (hs : ∀ (i c : Nat) (σ : L2.St) (H : Hp), x.cps[i]? = some c → Pv i σ H → g (.str ⟨#[c]⟩) σ H fun σ2 H2 => tb { D with nx := Pv (i + 1), ct := Pv (i + 1), bk := D.nx } σ2 H2) (hd : ∀ σ H, Pv x.cps.size σ H → D.nx σ H) :
    ∃ W : Nat → Nat → L2.St → Hp → Prop, (∃ m, W 0 m σ H) ∧ ∀ i m σ H, W i m σ H → ((Its x).stop i H ∧ D.nx σ H) ∨ ((Its x).go i H ∧ ∃ N : L2.St → Hp → Prop, (∀ σ' H', N σ' H' → ∃ m', m' < m ∧ W (i + 1) m' σ' H') ∧ ∀ v H', (Its x).yld i H v H' → g v σ H' fun σ2 H2 => tb { D with nx := N, ct := N, bk := D.nx } σ2 H2) := by
  refine ⟨fun i m σ H => m = x.cps.size - i ∧ i ≤ x.cps.size ∧ Pv i σ H, ⟨_, rfl, Nat.zero_le _, h0⟩, ?_⟩
  rintro i m σ H ⟨rfl, hi, p⟩
  by_cases lt : i < x.cps.size
  · refine .inr ⟨lt, Pv (i + 1), fun σ' H' p' => ⟨x.cps.size - (i + 1), by omega, rfl, lt, p'⟩, ?_⟩
    rintro v H' ⟨rfl, c, hc, rfl⟩
    exact hs i c σ H' hc p
  · have e : i = x.cps.size := by omega
    subst e
    exact .inl ⟨Nat.le_refl _, hd σ H p⟩
/-! ### faults as values -/
def fKind : F10 → Str × V
  | .bad n => ("BadCall", sV n)
  | .unk n => ("Unknown", sV n)
  | .twice n => ("Twice", sV n)
  | .large => ("TooLarge", V.str "macros")
def FV (H : Hp) (v : V) (f : F10) : Prop := ∃ p, v = .ref p ∧ H p = some (.tup [.str (fKind f).1, (fKind f).2])
theorem FV.keep {H H' : Hp} {v : V} {f : F10} (h : FV H v f) (k : TKeep H H') : FV H' v f := by
  obtain ⟨p, e, a⟩ := h
  exact ⟨p, e, k _ _ a⟩
def FL (H : Hp) : List V → List F10 → Prop
  | [], [] => True
  | v :: vs, f :: fs => FV H v f ∧ FL H vs fs
  | _, _ => False
theorem FL.keep {H H' : Hp} (k : TKeep H H') : ∀ {vs : List V} {fs : List F10}, FL H vs fs → FL H' vs fs
  | [], [], _ => trivial
  | _ :: _, _ :: _, h => ⟨h.1.keep k, FL.keep k h.2⟩
  | [], _ :: _, h => h.elim
  | _ :: _, [], h => h.elim
theorem FL.app {H : Hp} {us : List V} {gs : List F10} (k : FL H us gs) : ∀ {vs : List V} {fs : List F10}, FL H vs fs → FL H (vs ++ us) (fs ++ gs)
  | [], [], _ => k
  | _ :: _, _ :: _, h => ⟨h.1, FL.app k h.2⟩
  | [], _ :: _, h => h.elim
  | _ :: _, [], h => h.elim
theorem FL.len {H : Hp} : ∀ {vs : List V} {fs : List F10}, FL H vs fs → vs.length = fs.length
  | [], [], _ => rfl
  | _ :: _, _ :: _, h => congrArg (· + 1) (FL.len h.2)
  | [], _ :: _, h => h.elim
  | _ :: _, [], h => h.elim
theorem ownF_len (ps : List (List Nat)) (kn : Kn) (n : List Nat) (k : Nat) : (ownF ps kn n k).length ≤ 1 := by
  unfold ownF
  split
  · exact Nat.le_refl _
  · split
    · split
      · exact Nat.le_refl _
      · exact Nat.zero_le _
    · split
      · split
        · exact Nat.zero_le _
        · exact Nat.le_refl _
      · split
        · exact Nat.zero_le _
        · exact Nat.le_refl _
mutual
theorem fauT_len (ps : List (List Nat)) (kn : Kn) : ∀ t : Tr, (fauT ps kn t).length ≤ (toksT t).length
  | .nil => Nat.zero_le _
  | .word _ r => by
    have := fauT_len ps kn r
    simp only [fauT, toksT, List.length_cons]
    omega
  | .call n a r => by
    have := fauT_len ps kn r
    have := fauA_len ps kn a
    have := ownF_len ps kn n (lenA a)
    simp only [fauT, toksT, List.length_cons, List.length_append]
    omega
theorem fauA_len (ps : List (List Nat)) (kn : Kn) : ∀ a : Ar, (fauA ps kn a).length ≤ (toksA a).length
  | .nil => Nat.zero_le _
  | .cons t r => by
    have := fauT_len ps kn t
    have := fauA_len ps kn r
    simp only [fauA, toksA, List.length_cons, List.length_append]
    omega
end
/-! ### the built-in names but let -/
def blS : List Str := bnS.tail
def blN : List (List Nat) := blS.map fun s => s.cps.toList
theorem bl_map : blS.map V.str = blN.map sV := by
  unfold blN
  rw [List.map_map]
  exact List.map_congr_left fun s _ => by show V.str s = V.str (mkS s.cps.toList); rw [mkS_of]
theorem bn_cons : bnN = letN :: blN := rfl
theorem bl_iff {n : List Nat} (h : n ≠ letN) : n ∈ bnN ↔ n ∈ blN := by
  rw [bn_cons, List.mem_cons]
  exact ⟨fun q => q.resolve_left h, .inr⟩
def sBl : Str := ("hole page note key head par list item table row cell show over up low fence grid line figure label" : Str) ++ (" contents index" : Str)
theorem bl_split : Txt.split sBl (" " : Str) = blS := by decide +kernel
section
variable {P : Program} {w : World} {K : PySem.W.Frag} {mg : Str → Option Value} {base : Heap}
def spBuilt : Sp := fun vs H Q _ => vs = [] ∧ ∀ H' p, Same H H' → H p = none → H' p = some (.lst (blN.map sV)) → Q (.ref p) H'
theorem ok_built (T : Txt K mg) : FnOk P w K mg base CX0 1 T.a_law_built T.d_law_built [] spBuilt := by
  refine T.D_law_built.F.ok sc_law_built (fun vs H Q E h => ?_) (fun cdv A outer s H vs Q E hr h => ?_)
  · obtain ⟨rfl, _⟩ := h
    rfl
  · obtain ⟨rfl, q⟩ := h
    refine ⟨_, (pss_cons (ps_set (i := 0) sc_law_built.nd rfl (.inl rfl) pe_str)
      (pss_one (ps_ret (pe_split (pe_op op_add_str (pv 0) pe_str) pe_str)))), ?_⟩
    refine ⟨_, rfl, _, _, rfl, rfl, by decide +kernel, ⟨_, rfl⟩, sBl, (" " : Str), rfl, rfl, by decide +kernel, by decide +kernel, fun p np => ?_⟩
    rw [bl_split, bl_map]
    exact q _ p (same_upd (Same.refl H) np) np upd_same
theorem mem_tw {p : Nat → Bool} {c : Nat} : ∀ {z : List Nat}, c ∈ z.takeWhile p → p c = true
  | [], h => nomatch h
  | x :: z, h => by
    by_cases hx : p x = true
    · rw [List.takeWhile_cons_of_pos hx] at h
      rcases List.mem_cons.mp h with rfl | h
      · exact hx
      · exact mem_tw h
    · rw [List.takeWhile_cons_of_neg hx] at h; cases h
theorem isName_pre {z : List Nat} {i c : Nat} (h : z[i]? = some c) (hc : cL c = false) : isNameB z = false := by
  unfold isNameB
  split
  · refine decide_eq_false fun e => ?_
    have e2 : z.takeWhile cL = z := by
      have := List.takeWhile_prefix cL (l := z)
      exact List.IsPrefix.eq_of_length this e
    have hm : c ∈ z.takeWhile cL := by rw [e2]; exact List.mem_of_getElem? h
    have := mem_tw hm
    rw [hc] at this; cases this
  · rfl
theorem isName_all {z : List Nat} (h1 : 1 ≤ z.length) (h8 : z.length ≤ 8) (h : ∀ c ∈ z, cL c = true) : isNameB z = true := by
  unfold isNameB
  rw [if_pos ⟨h1, h8⟩, tw_all h]
  exact decide_eq_true rfl
theorem ok_law_is_name (T : Txt K mg) : FnOk P w K mg base CX0 1 T.a_law_is_name T.d_law_is_name ["_law_word_here"] (spIs isNameB) := by
  refine T.D_law_is_name.F.ok sc_law_is_name (fun vs H Q E h => ?_) (fun cdv A outer s H vs Q E hr h => ?_)
  · obtain ⟨z, rfl, _⟩ := h
    rfl
  · obtain ⟨z, rfl, hz, q⟩ := h
    refine ⟨_, (pss_cons (ps_if (PW.pt (pw_or (pt_cmpR op_lt (pe_callB call_len_str (by rfl) T.n_len PySem.boot_len (pa_cons (pv 0) pa_nil)) pe_int (nomark _)) (pw_or1 (pt_cmpR op_gt (pe_callB call_len_str (by rfl) T.n_len PySem.boot_len (pa_cons (pv 0) pa_nil)) pe_int (nomark _))))) (pss_one (ps_ret pe_bl)) pss_nil)
      (pss_cons (ps_for PassesOwn.never rfl (pi_str (pv 0)) (pg_name (i := 1) sc_law_is_name.nd rfl (.inl rfl)) (pss_one (ps_if (pt_cmpR op_notIn_sign (pv 1) pe_str (by rfl)) (pss_one (ps_ret pe_bl)) pss_nil)))
      (pss_one (ps_ret pe_bl)))), ?_⟩
    have zl : (mkS z).length ≤ sizeLine := by rw [mkS_len]; exact big_ok hz
    have no : ¬ (1 ≤ z.length ∧ z.length ≤ 8) → isNameB z = false := fun h => by unfold isNameB; rw [if_neg h]
    refine ⟨_, rfl, mkS z, rfl, zl, _, _, rfl, rfl, decide (z.length < 1), ?_, ?_⟩
    · rw [mkS_len]; exact congrArg V.bl (decide_eq_decide.mpr (by omega))
    by_cases h1 : z.length < 1
    · rw [decide_eq_true h1]
      refine (no (by omega)) ▸ q
    rw [decide_eq_false h1]
    refine ⟨_, rfl, mkS z, rfl, zl, _, _, rfl, rfl, decide (8 < z.length), ?_, ?_⟩
    · rw [mkS_len]; exact congrArg V.bl (decide_eq_decide.mpr (by omega))
    by_cases h8 : 8 < z.length
    · rw [decide_eq_true h8]
      refine (no (by omega)) ▸ q
    rw [decide_eq_false h8]
    refine ⟨_, rfl, mkS z, rfl, ?_⟩
    refine for_its (x := mkS z) (fun i σ' H' => ∃ x1 : Option V, σ' = [some (sV z), x1] ∧ H' = H ∧ ∀ c ∈ z.take i, cL c = true) ⟨none, rfl, rfl, fun c hc => by rw [List.take_zero] at hc; cases hc⟩ ?_ ?_
    · rintro i c σ' H' hc ⟨x1, rfl, rfl, hall⟩
      have hc2 : z[i]? = some c := by
        have : (mkS z).cps[i]? = z[i]? := by show z.toArray[i]? = _; rw [List.getElem?_toArray]
        rw [← this]; exact hc
      refine ⟨_, rfl, _, _, rfl, rfl, !cL c, rfl, ?_⟩
      cases h : cL c with
      | false =>
        rw [isName_pre hc2 h] at q
        exact q
      | true =>
        refine ⟨_, rfl, rfl, fun x hx => ?_⟩
        rw [take_succ' hc2] at hx
        rcases List.mem_append.mp hx with hx | hx
        · exact hall x hx
        · rw [List.mem_singleton.mp hx]; exact h
    · rintro σ' H' ⟨x1, rfl, rfl, hall⟩
      have e : (mkS z).cps.size = z.length := by show z.toArray.size = _; exact List.size_toArray
      rw [e, List.take_length] at hall
      exact (isName_all (by omega) (by omega) hall) ▸ q
/-! ### the law's own faults of a node -/
def spCallF (K : PySem.W.Frag) (n : Nat) : Sp := fun vs H Q _ => ∃ (v : V) (nd : Nd) (pa : Addr) (ps : List (List Nat)) (kd : V) (kn : Kn) (bl : Addr), vs = [v, .ref pa, kd, .ref bl] ∧ NV H v nd ∧ depN nd < n ∧ (toksT (nd.tr .nil)).length ≤ 100000 ∧ SqL K H pa (ps.map sV) ∧ KD H kd kn ∧ SqL K H bl (blN.map sV) ∧
  ∀ H' p fs, Same H H' → H p = none → H' p = some (.lst fs) → FL H' fs (fauN ps kn nd) → Q (.ref p) H'
theorem SqL.same {H H' : Hp} {a : Addr} {xs : List V} (h : SqL K H a xs) (s : Same H H') : SqL K H' a xs := by
  rcases h with (h | ⟨o, h⟩) | h
  · exact .inl (.inl (s _ _ h))
  · exact .inl (.inr ⟨o, s _ _ h⟩)
  · exact .inr h
theorem ok_call_faults (T : Txt K mg) : ∀ n : Nat, FnOk P w K mg base CX0 (n + 1) T.a_law_call_faults T.d_law_call_faults ["_law_node_here", "_law_params", "_law_known", "_law_built_here"] (spCallF K n)
  | 0 => by
    refine T.D_law_call_faults.F.ok sc_law_call_faults (fun vs H Q E h => ?_) (fun cdv A outer s H vs Q E hr h => ?_)
    · obtain ⟨v, nd, pa, ps, kd, kn, bl, rfl, _⟩ := h
      rfl
    · obtain ⟨v, nd, pa, ps, kd, kn, bl, rfl, _, hd, _⟩ := h
      exact absurd hd (Nat.not_lt_zero _)
  | n + 1 => by
    have G_law_call_faults : FnOk P w K mg base CX0 (n + 1) T.a_law_call_faults T.d_law_call_faults ["_law_node_here", "_law_params", "_law_known", "_law_built_here"] (spCallF K n) := ok_call_faults T n
    refine T.D_law_call_faults.F.ok (k := n + 1) sc_law_call_faults (fun vs H Q E h => ?_) (fun cdv A outer s H vs Q E hr h => ?_)
    · obtain ⟨v, nd, pa, ps, kd, kn, bl, rfl, _⟩ := h
      rfl
    · obtain ⟨v, nd, pa, ps, kd, kn, bl, rfl, hv, hd, hl, hpa, hkd, hbl, q⟩ := h
      refine ⟨_, (pss_cons (ps_if (pt_cmpR op_eq (pe_ix ix_tup (pv 0) pe_int (fun _ _ => rfl)) pe_str (nomark _)) (pss_one (ps_ret (pe_lst pa_nil))) pss_nil)
      (pss_cons (ps_set (i := 4) sc_law_call_faults.nd rfl (.inl rfl) (pe_ix ix_tup (pv 0) pe_int (fun _ _ => rfl)))
      (pss_cons (ps_set (i := 5) sc_law_call_faults.nd rfl (.inl rfl) (pe_lst pa_nil))
      (Evl.pss_cut (ps_if (pt_cmpR op_eq (pv 4) pe_str (nomark _)) (pss_one (ps_expr (pe_bm PySem.F.plainAttrs_list PySem.F.slot_list_append PySem.F.type_list_append mt_append (pv 5) (pa_cons (pe_tup (pa_cons pe_str (pa_cons pe_str pa_nil))) pa_nil)))) (pss_one (ps_if (pt_cmpR op_in_seq (pv 4) (pv 1) (by rfl)) (pss_one (ps_if (pt_cmpR op_gt (pe_callB call_len_seq (by rfl) T.n_len PySem.boot_len (pa_cons (pe_ix ix_tup (pv 0) pe_int (fun _ _ => rfl)) pa_nil)) pe_int (nomark _)) (pss_one (ps_expr (pe_bm PySem.F.plainAttrs_list PySem.F.slot_list_append PySem.F.type_list_append mt_append (pv 5) (pa_cons (pe_tup (pa_cons pe_str (pa_cons (pv 4) pa_nil))) pa_nil)))) pss_nil)) (pss_one (ps_if (pt_cmp (pc_din (hu1 hr) (pv 4) (pv 2))) (pss_one (ps_if (pt_cmpR op_ne (pe_callB call_len_seq (by rfl) T.n_len PySem.boot_len (pa_cons (pe_ix ix_tup (pv 0) pe_int (fun _ _ => rfl)) pa_nil)) (pe_dget (hu1 hr) (pv 2) (pv 4) (fun _ _ => rfl)) (nomark _)) (pss_one (ps_expr (pe_bm PySem.F.plainAttrs_list PySem.F.slot_list_append PySem.F.type_list_append mt_append (pv 5) (pa_cons (pe_tup (pa_cons pe_str (pa_cons (pv 4) pa_nil))) pa_nil)))) pss_nil)) (pss_one (ps_if (pt_cmpR op_notIn_seq (pv 4) (pv 3) (by rfl)) (pss_one (ps_expr (pe_bm PySem.F.plainAttrs_list PySem.F.slot_list_append PySem.F.type_list_append mt_append (pv 5) (pa_cons (pe_tup (pa_cons pe_str (pa_cons (pv 4) pa_nil))) pa_nil)))) pss_nil)))))))
      (pss_cons (ps_for PassesOwn.never rfl (pi_tup (pe_ix ix_tup (pv 0) pe_int (fun _ _ => rfl))) (pg_name (i := 6) sc_law_call_faults.nd rfl (.inl rfl)) (pss_one (ps_for PassesOwn.never rfl (pi_tup (pv 6)) (pg_name (i := 7) sc_law_call_faults.nd rfl (.inl rfl)) (pss_one (ps_expr (pe_bm PySem.F.plainAttrs_list PySem.F.slot_list_extend PySem.F.type_list_extend mt_extend (pv 5) (pa_cons (pe_call G_law_call_faults hr (by rfl) T.D_law_call_faults.G T.D_law_call_faults.F.kp T.D_law_call_faults.B .nil pass0 (pa_cons (pv 7) (pa_cons (pv 1) (pa_cons (pv 2) (pa_cons (pv 3) pa_nil))))) pa_nil)))))))
      (pss_one (ps_ret (pv 5)))))))), ?_⟩
      cases nd with
      | word z =>
        obtain ⟨p, rfl, e⟩ := hv
        refine ⟨_, rfl, p, _, _, _, rfl, rfl, SqT.of e, rfl, rfl, true, word_eq_word, by show 0 ≤ sizeLine; decide, fun c nc => ?_⟩
        exact q _ c [] (same_upd (Same.refl H) nc) nc upd_same trivial
      | call nm a =>
        obtain ⟨p, qa, us, rfl, e, eq, hA⟩ := hv
        have el := hA.lenA
        have hdA : depA a < n + 1 := hd
        have hl2 : (toksA a).length + 1 ≤ 100000 := by
          have h2 := hl
          simp only [Nd.tr, toksT, List.length_cons, List.length_append] at h2
          omega
        have fN : fauN ps kn (.call nm a) = ownF ps kn nm (lenA a) ++ fauA ps kn a := rfl
        have fl1 := ownF_len ps kn nm (lenA a)
        have fl2 := fauA_len ps kn a
        refine ⟨_, rfl, p, _, _, _, rfl, rfl, SqT.of e, rfl, rfl, false, call_ne_word, ?_⟩
        refine ⟨_, rfl, p, _, _, _, rfl, rfl, SqT.of e, rfl, ?_⟩
        refine ⟨by show 0 ≤ sizeLine; decide, fun fl nfl => ?_⟩
        have s0 := same_upd (o := .lst []) (Same.refl H) nfl
        have e0 : upd H fl (.lst []) fl = some (.lst []) := upd_same
        obtain ⟨H0, hH0⟩ : ∃ H0, upd H fl (.lst []) = H0 := ⟨_, rfl⟩
        rw [hH0] at s0 e0 ⊢
        -- one fault of its own noted
        refine ⟨fun σ' H' => ∃ vs0, σ' = [some (.ref p), some (.ref pa), some kd, some (.ref bl), some (sV nm), some (.ref fl), none, none] ∧ Same H H' ∧ H' fl = some (.lst vs0) ∧ FL H' vs0 (ownF ps kn nm (lenA a)), ?_, ?_⟩
        · have note : ∀ (f : F10) (c : Addr), ownF ps kn nm (lenA a) = [f] → H0 c = none → ∃ (l : Addr) (xs : List V) (y : V), V.ref fl = .ref l ∧ [V.ref c] = [y] ∧ (upd H0 c (.tup [.str (fKind f).1, (fKind f).2])) l = some (.lst xs) ∧ xs.length < sizeLine ∧
              ∃ vs0, [some (V.ref p), some (.ref pa), some kd, some (.ref bl), some (sV nm), some (.ref fl), none, none] = [some (V.ref p), some (.ref pa), some kd, some (.ref bl), some (sV nm), some (.ref fl), none, none] ∧ Same H (upd (upd H0 c (.tup [.str (fKind f).1, (fKind f).2])) l (.lst (xs ++ [y]))) ∧ (upd (upd H0 c (.tup [.str (fKind f).1, (fKind f).2])) l (.lst (xs ++ [y]))) fl = some (.lst vs0) ∧ FL (upd (upd H0 c (.tup [.str (fKind f).1, (fKind f).2])) l (.lst (xs ++ [y]))) vs0 (ownF ps kn nm (lenA a)) := by
            intro f c ef nc
            have ncl : c ≠ fl := fun z => by rw [z, e0] at nc; cases nc
            have s1 := same_upd (o := .tup [.str (fKind f).1, (fKind f).2]) s0 nc
            refine ⟨fl, [], _, rfl, rfl, by rw [upd_ne ncl.symm]; exact e0, lt_size (by decide), [V.ref c], rfl, same_mut s1 nfl, by rw [upd_same]; rfl, ?_⟩
            rw [ef]
            exact ⟨⟨c, rfl, by rw [upd_ne ncl]; exact upd_same⟩, trivial⟩
          have none' : ownF ps kn nm (lenA a) = [] → ∃ vs0, [some (V.ref p), some (.ref pa), some kd, some (.ref bl), some (sV nm), some (.ref fl), none, none] = [some (V.ref p), some (.ref pa), some kd, some (.ref bl), some (sV nm), some (.ref fl), none, none] ∧ Same H H0 ∧ H0 fl = some (.lst vs0) ∧ FL H0 vs0 (ownF ps kn nm (lenA a)) := fun ef => ⟨[], rfl, s0, e0, by rw [ef]; trivial⟩
          have hkd0 : ∃ ka, kd = .ref ka ∧ H0 ka = some (.dK (knV kn)) := by
            obtain ⟨ka, ek, hk⟩ := hkd
            exact ⟨ka, ek, s0 _ _ hk⟩
          refine ⟨_, rfl, rfl, decide (nm = letN), ?_, ?_⟩
          · rw [let_sV, dec_s]
          by_cases h1 : nm = letN
          · rw [decide_eq_true h1]
            refine ⟨.ref fl, rfl, .inl ⟨rfl, _, SqL.of e0⟩, by show 2 ≤ sizeLine; decide, fun c nc => ?_⟩
            have := note (.bad letN) c (by unfold ownF; rw [if_pos h1]) nc
            rw [let_sV]
            exact this
          rw [decide_eq_false h1]
          refine ⟨_, rfl, _, rfl, pa, ps.map sV, rfl, .inl (SqL.same hpa s0), rfl, flat_all _, decide (nm ∈ ps), ?_, ?_⟩
          · exact congrArg V.bl (inV_s nm ps)
          by_cases h2 : nm ∈ ps
          · rw [decide_eq_true h2]
            refine ⟨_, rfl, p, _, _, _, rfl, rfl, SqT.of (s0 _ _ e), rfl, qa, _, rfl, .inr (SqT.of (s0 _ _ eq)), _, _, rfl, rfl, decide (0 < us.length), congrArg V.bl dec_gt0, ?_⟩
            by_cases h3 : 0 < us.length
            · rw [decide_eq_true h3]
              refine ⟨.ref fl, rfl, .inl ⟨rfl, _, SqL.of e0⟩, _, rfl, by show 2 ≤ sizeLine; decide, fun c nc => ?_⟩
              exact note (.bad nm) c (by unfold ownF; rw [if_neg h1, if_pos h2, if_pos (by omega)]) nc
            · rw [decide_eq_false h3]
              exact none' (by unfold ownF; rw [if_neg h1, if_pos h2, if_neg (by omega)])
          rw [decide_eq_false h2]
          obtain ⟨ka, rfl, hk⟩ := hkd0
          have hg : DGet H0 ka (sV nm) ((kn.lookup nm).map fun j : Nat => V.int (j : Int)) := by
            rw [← knV_get]; exact DGet.k (k := Sum.inr (mkS nm)) hk
          cases h3 : kn.lookup nm with
          | some j =>
            rw [h3] at hg
            refine ⟨_, rfl, _, rfl, ka, _, rfl, hg, true, rfl, ?_⟩
            refine ⟨_, rfl, p, _, _, _, rfl, rfl, SqT.of (s0 _ _ e), rfl, qa, _, rfl, .inr (SqT.of (s0 _ _ eq)), _, rfl, _, rfl, ka, _, rfl, hg, rfl, !decide (us.length = j), congrArg V.bl (congrArg Bool.not dec_len), ?_⟩
            by_cases h4 : us.length = j
            · rw [decide_eq_true h4]
              refine none' ?_
              unfold ownF
              rw [if_neg h1, if_neg h2, h3]
              exact if_pos (by omega)
            · rw [decide_eq_false h4]
              refine ⟨.ref fl, rfl, .inl ⟨rfl, _, SqL.of e0⟩, _, rfl, by show 2 ≤ sizeLine; decide, fun c nc => ?_⟩
              refine note (.bad nm) c ?_ nc
              unfold ownF
              rw [if_neg h1, if_neg h2, h3]
              exact if_neg (by omega)
          | none =>
            rw [h3] at hg
            refine ⟨_, rfl, _, rfl, ka, _, rfl, hg, false, rfl, ?_⟩
            refine ⟨_, rfl, _, rfl, bl, blN.map sV, rfl, .inl (SqL.same hbl s0), rfl, flat_all _, !decide (nm ∈ bnN), ?_, ?_⟩
            · refine congrArg V.bl (congrArg Bool.not ((inV_s nm blN).trans ?_))
              exact decide_eq_decide.mpr (bl_iff h1).symm
            by_cases h4 : nm ∈ bnN
            · rw [decide_eq_true h4]
              refine none' ?_
              unfold ownF
              rw [if_neg h1, if_neg h2, h3]
              exact if_pos h4
            · rw [decide_eq_false h4]
              refine ⟨.ref fl, rfl, .inl ⟨rfl, _, SqL.of e0⟩, _, rfl, by show 2 ≤ sizeLine; decide, fun c nc => ?_⟩
              refine note (.unk nm) c ?_ nc
              unfold ownF
              rw [if_neg h1, if_neg h2, h3]
              exact if_neg h4
        · rintro σ' H1 ⟨vs0, rfl, s1, ef, hf⟩
          refine ⟨_, rfl, p, _, _, _, rfl, rfl, SqT.of (s1 _ _ e), rfl, qa, rfl, ⟨_, SqT.of (s1 _ _ eq)⟩, ?_⟩
          refine for_tup (K := K) (a := qa) (xs := us) (fun i σ' H' => ∃ (r : Ar) (vs1 : List V) (fs : List F10) (x6 x7 : Option V), σ' = [some (.ref p), some (.ref pa), some kd, some (.ref bl), some (sV nm), some (.ref fl), x6, x7] ∧ RepA H r (us.drop i) ∧ Same H H' ∧ H' fl = some (.lst vs1) ∧ FL H' vs1 fs ∧ fs ++ fauA ps kn r = fauN ps kn (.call nm a) ∧ depA r < n + 1 ∧ (toksA r).length ≤ 100000)
            ⟨a, vs0, _, none, none, rfl, hA, s1, ef, hf, fN.symm, hdA, by omega⟩ ?_ ?_ ?_
          · rintro i σ' H' _ ⟨_, _, _, _, _, _, _, s2, _⟩
            exact SqT.of (s2 _ _ eq)
          · rintro i x σ' H2 hx ⟨r, vs1, fs, x6, x7, rfl, hr1, s2, ef2, hf2, et, d1, l1⟩
            rw [drop_x hx] at hr1
            obtain ⟨t, r2, rfl, ⟨tp, ws, rfl, etp, ht⟩, hr2⟩ := hr1.first
            simp only [fauA, depA, toksA, List.length_cons, List.length_append] at et d1 l1
            refine ⟨_, rfl, tp, rfl, ⟨_, SqT.of (s2 _ _ etp)⟩, ?_⟩
            refine for_tup (K := K) (a := tp) (xs := ws) (fun j σ' H' => ∃ (rt : Tr) (vs1 : List V) (fs : List F10) (x7 : Option V), σ' = [some (.ref p), some (.ref pa), some kd, some (.ref bl), some (sV nm), some (.ref fl), some (.ref tp), x7] ∧ RepT H rt (ws.drop j) ∧ Same H H' ∧ H' fl = some (.lst vs1) ∧ FL H' vs1 fs ∧ fs ++ (fauT ps kn rt ++ fauA ps kn r2) = fauN ps kn (.call nm a) ∧ depT rt < n ∧ (toksT rt).length ≤ 100000)
              ⟨t, vs1, fs, _, rfl, ht, s2, ef2, hf2, et, by omega, by omega⟩ ?_ ?_ ?_
            · rintro j σ' H' _ ⟨_, _, _, _, _, _, s3, _⟩
              exact SqT.of (s3 _ _ etp)
            · rintro j y σ' H3 hy ⟨rt, vs2, fs2, x7, rfl, hrt, s3, ef3, hf3, et3, d2, l2⟩
              rw [drop_x hy] at hrt
              obtain ⟨nd, r3, rfl, hnd, hr3⟩ := hrt.first
              rw [fauT_tr] at et3
              rw [depT_tr] at d2
              rw [toksT_tr] at l2
              refine ⟨.ref fl, rfl, .inl ⟨rfl, _, SqL.of ef3⟩, _, rfl, _, rfl, _, rfl, _, rfl, y, nd, pa, ps, kd, kn, bl, rfl, hnd.keep (TKeep.same s3), by omega, by omega, SqL.same hpa s3, ?_, SqL.same hbl s3, fun H4 p4 fs4 s4 np4 e4 hf4 => ?_⟩
              · obtain ⟨ka, ek, hk⟩ := hkd
                exact ⟨ka, ek, s3 _ _ hk⟩
              have n4 : p4 ≠ fl := fun z => by rw [z, ef3] at np4; cases np4
              have tot := congrArg List.length et3
              have l9 : (fauN ps kn (.call nm a)).length ≤ 100000 := by rw [fN, List.length_append]; omega
              rw [List.length_append, List.length_append, List.length_append] at tot
              have v2 := hf3.len
              have v4 := hf4.len
              have ef4 := s4 _ _ ef3
              refine ⟨fl, p4, _, _, rfl, rfl, ef4, e4, Nat.le_trans (show _ ≤ 100000 by omega) (by decide), ?_⟩
              have tkm := TKeep.mut (o := .lst (vs2 ++ fs4)) ef4
              refine ⟨r3, vs2 ++ fs4, fs2 ++ fauN ps kn nd, _, rfl, hr3, same_mut (s3.trans s4) nfl, upd_same, FL.app (hf4.keep tkm) ((hf3.keep (TKeep.same s4)).keep tkm), ?_, by omega, by omega⟩
              rw [List.append_assoc, ← et3, List.append_assoc]
            · rintro σ' H3 ⟨rt, vs2, fs2, x7, rfl, hrt, s3, ef3, hf3, et3, d2, l2⟩
              rw [List.drop_length] at hrt
              have e9 := hrt.last
              subst e9
              exact ⟨r2, vs2, fs2, _, _, rfl, hr2, s3, ef3, hf3, et3, by omega, by omega⟩
          · rintro σ' H2 ⟨r, vs1, fs, x6, x7, rfl, hr1, s2, ef2, hf2, et, d1, l1⟩
            rw [List.drop_length] at hr1
            have e9 := hr1.last
            subst e9
            have et : fs = fauN ps kn (.call nm a) := by rw [← et]; show fs = fs ++ []; rw [List.append_nil]
            exact ⟨_, rfl, q H2 fl vs1 s2 nfl ef2 (et ▸ hf2)⟩
/-! ### a definition that is none -/
theorem letOf_two (t b : Tr) : letOf (.cons t (.cons b .nil)) = if (1 ≤ lenT t ∧ lenT t ≤ 4) ∧ (nms t).length = lenT t ∧ (nms t).Nodup then some (nms t, b) else none := rfl
def spBadLet (K : PySem.W.Frag) : Sp := fun vs H Q _ => ∃ (v : V) (a : Ar) (bl : Addr), vs = [v, .ref bl] ∧ CV H v letN a ∧ SqL K H bl (blN.map sV) ∧ BA 1000 a ∧ (toksA a).length ≤ 100000 ∧ ∀ H', Same H H' → Q (.bl (letOf a).isNone) H'
theorem ok_bad_let (T : Txt K mg) : FnOk P w K mg base CX0 2 T.a_law_bad_let T.d_law_bad_let ["_law_node_here", "_law_built_here"] (spBadLet K) := by
  have G_law_is_name : FnOk P w K mg base CX0 1 T.a_law_is_name T.d_law_is_name ["_law_word_here"] (spIs isNameB) := ok_law_is_name T
  refine T.D_law_bad_let.F.ok sc_law_bad_let (fun vs H Q E h => ?_) (fun cdv A outer s H vs Q E hr h => ?_)
  · obtain ⟨v, a, bl, rfl, _⟩ := h
    rfl
  · obtain ⟨v, a, bl, rfl, ⟨p, qa, us, rfl, e, eq, hA⟩, hbl, hB, hl, q⟩ := h
    refine ⟨_, (pss_cons (ps_if (PW.pt (pw_or (pt_cmpR op_ne (pe_callB call_len_seq (by rfl) T.n_len PySem.boot_len (pa_cons (pe_ix ix_tup (pv 0) pe_int (fun _ _ => rfl)) pa_nil)) pe_int (nomark _)) (pw_or (pt_cmpR op_lt (pe_callB call_len_seq (by rfl) T.n_len PySem.boot_len (pa_cons (pe_ix ix_tup (pe_ix ix_tup (pv 0) pe_int (fun _ _ => rfl)) pe_int (fun _ _ => rfl)) pa_nil)) pe_int (nomark _)) (pw_or1 (pt_cmpR op_gt (pe_callB call_len_seq (by rfl) T.n_len PySem.boot_len (pa_cons (pe_ix ix_tup (pe_ix ix_tup (pv 0) pe_int (fun _ _ => rfl)) pe_int (fun _ _ => rfl)) pa_nil)) pe_int (nomark _)))))) (pss_one (ps_ret pe_bl)) pss_nil)
      (pss_cons (ps_set (i := 2) sc_law_bad_let.nd rfl (.inl rfl) (pe_lst (pa_cons pe_str pa_nil)))
      (pss_cons (ps_for PassesOwn.never rfl (pi_tup (pe_ix ix_tup (pe_ix ix_tup (pv 0) pe_int (fun _ _ => rfl)) pe_int (fun _ _ => rfl))) (pg_name (i := 3) sc_law_bad_let.nd rfl (.inl rfl)) (pss_cons (ps_if (PW.pt (pw_or (pt_cmpR op_eq (pe_ix ix_tup (pv 3) pe_int (fun _ _ => rfl)) pe_str (nomark _)) (pw_or (pt_not (pt_val (pe_call G_law_is_name (hr.mono (by decide)) (by rfl) T.D_law_is_name.G T.D_law_is_name.F.kp T.D_law_is_name.B .nil pass0 (pa_cons (pe_ix ix_tup (pv 3) pe_int (fun _ _ => rfl)) pa_nil)))) (pw_or (pt_cmpR op_in_seq (pe_ix ix_tup (pv 3) pe_int (fun _ _ => rfl)) (pv 1) (by rfl)) (pw_or1 (pt_cmpR op_in_seq (pe_ix ix_tup (pv 3) pe_int (fun _ _ => rfl)) (pv 2) (by rfl))))))) (pss_one (ps_ret pe_bl)) pss_nil)
      (pss_one (ps_expr (pe_bm PySem.F.plainAttrs_list PySem.F.slot_list_append PySem.F.type_list_append mt_append (pv 2) (pa_cons (pe_ix ix_tup (pv 3) pe_int (fun _ _ => rfl)) pa_nil))))))
      (pss_one (ps_ret pe_bl))))), ?_⟩
    have el := hA.lenA
    have hla := lenA_toks a
    have yes : letOf a = none → ∀ H', Same H H' → Q (.bl true) H' := fun z H' s => by
      have := q H' s
      rw [z] at this; exact this
    refine ⟨_, rfl, p, _, _, _, rfl, rfl, SqT.of e, rfl, qa, _, rfl, .inr (SqT.of eq), rfl, !decide (us.length = 2), ?_, ?_⟩
    · exact congrArg V.bl (congrArg Bool.not (dec_len (b := 2)))
    by_cases h2 : us.length = 2
    rotate_left
    · rw [decide_eq_false h2]
      exact yes (letOf_none (by omega)) H (Same.refl H)
    rw [decide_eq_true h2]
    match us, h2, hA, el with
    | [x0, x1], _, hA, el =>
    obtain ⟨t, a1, rfl, ⟨tp, ws, rfl, etp, ht⟩, hA1⟩ := hA.first
    obtain ⟨b, a2, rfl, hb, hA2⟩ := hA1.first
    have e3 := hA2.last
    subst e3
    simp only [BA, toksA, List.length_cons, List.length_append] at hB hl
    have tlen := ht.lenT
    have htl := lenT_toks t
    rw [letOf_two] at q yes
    refine ⟨_, rfl, p, _, _, _, rfl, rfl, SqT.of e, rfl, qa, _, 0, _, rfl, rfl, SqT.of eq, rfl, tp, _, rfl, .inr (SqT.of etp), _, _, rfl, rfl, decide (ws.length < 1), ?_, ?_⟩
    · exact congrArg V.bl (decide_eq_decide.mpr (by omega))
    by_cases h1 : ws.length < 1
    · rw [decide_eq_true h1]
      exact yes (if_neg (by omega)) H (Same.refl H)
    rw [decide_eq_false h1]
    refine ⟨_, rfl, p, _, _, _, rfl, rfl, SqT.of e, rfl, qa, _, 0, _, rfl, rfl, SqT.of eq, rfl, tp, _, rfl, .inr (SqT.of etp), _, _, rfl, rfl, decide (4 < ws.length), ?_, ?_⟩
    · exact congrArg V.bl (decide_eq_decide.mpr (by omega))
    by_cases h4 : 4 < ws.length
    · rw [decide_eq_true h4]
      exact yes (if_neg (by omega)) H (Same.refl H)
    rw [decide_eq_false h4]
    refine ⟨by show 1 ≤ sizeLine; decide, fun sn nsn => ?_⟩
    have s0 := same_upd (o := .lst [V.str "let"]) (Same.refl H) nsn
    refine ⟨_, rfl, p, _, _, _, rfl, rfl, SqT.of (s0 _ _ e), rfl, qa, _, 0, _, rfl, rfl, SqT.of (s0 _ _ eq), rfl, tp, rfl, ⟨_, SqT.of (s0 _ _ etp)⟩, ?_⟩
    refine for_tup (K := K) (a := tp) (xs := ws) (fun i σ' H' => ∃ (zs : List (List Nat)) (r : Tr) (x3 : Option V), σ' = [some (.ref p), some (.ref bl), some (.ref sn), x3] ∧ RepT H r (ws.drop i) ∧ Same H H' ∧ H' sn = some (.lst ((letN :: zs).map sV)) ∧ zs ++ nms r = nms t ∧ zs.length + lenT r = lenT t ∧ zs.Nodup ∧ BT 1000 r)
      ⟨[], t, none, rfl, ht, s0, by rw [upd_same, let_sV]; rfl, rfl, by show 0 + lenT t = lenT t; omega, List.nodup_nil, hB.1⟩ ?_ ?_ ?_
    · rintro i σ' H' _ ⟨_, _, _, _, _, s1, _⟩
      exact SqT.of (s1 _ _ etp)
    · rintro i x σ' H1 hx ⟨zs, r, x3, rfl, hr1, s1, esn, en, eL, nz, b1⟩
      rw [drop_x hx] at hr1
      obtain ⟨nd, r2, rfl, hnd, hr2⟩ := hr1.first
      have ⟨b3, b4⟩ := BT_tr b1
      have nl := nms_len r2
      rw [nms_tr] at en
      have enl := congrArg List.length en
      have lt : lenT (nd.tr r2) = lenT r2 + 1 := by cases nd <;> rfl
      rw [lt] at eL
      have short : oneN nd = [] → Q (.bl true) H1 := fun z => by
        refine yes (if_neg fun c => ?_) H1 s1
        rw [z, List.nil_append, List.length_append] at enl
        omega
      cases nd with
      | call n a =>
        obtain ⟨p2, qa2, us2, rfl, e2, _⟩ := hnd
        exact ⟨_, rfl, p2, _, _, _, rfl, rfl, SqT.of (s1 _ _ e2), rfl, rfl, true, kc_word.1, short rfl⟩
      | word z =>
        obtain ⟨p2, rfl, e2⟩ := hnd
        have ⟨b5, b6⟩ : z.length ≤ 1000 ∧ Low z := b3
        have e2' := s1 _ _ e2
        refine ⟨_, rfl, p2, _, _, _, rfl, rfl, SqT.of e2', rfl, rfl, false, kc_word.2, ?_⟩
        refine ⟨_, rfl, p2, _, _, _, rfl, rfl, SqT.of e2', rfl, z, rfl, by omega, isNameB z, rfl, ?_⟩
        have short2 : mayN z = false → Q (.bl true) H1 := fun h => short (by show (if mayN z = true then [z] else []) = []; rw [h]; rfl)
        cases h5 : isNameB z with
        | false => exact short2 (by unfold mayN; rw [h5]; rfl)
        | true =>
          refine ⟨_, rfl, p2, _, _, _, rfl, rfl, SqT.of e2', rfl, _, rfl, bl, blN.map sV, rfl, .inl (SqL.same hbl s1), rfl, flat_all _, decide (z ∈ blN), congrArg V.bl (inV_s z blN), ?_⟩
          by_cases h6 : z ∈ blN
          · rw [decide_eq_true h6]
            refine short2 ?_
            unfold mayN
            rw [h5, decide_eq_true (by rw [bn_cons]; exact List.mem_cons_of_mem _ h6)]; rfl
          rw [decide_eq_false h6]
          refine ⟨_, rfl, p2, _, _, _, rfl, rfl, SqT.of e2', rfl, _, rfl, sn, (letN :: zs).map sV, rfl, .inl (SqL.of esn), rfl, flat_all _, decide (z ∈ letN :: zs), congrArg V.bl (inV_s z _), ?_⟩
          have en2 : zs ++ ((if mayN z = true then [z] else []) ++ nms r2) = nms t := en
          by_cases h7 : z = letN
          · rw [decide_eq_true (by rw [h7]; exact List.mem_cons_self)]
            refine short2 ?_
            unfold mayN
            rw [h5, decide_eq_true (by rw [h7]; exact let_in)]; rfl
          have hm : mayN z = true := by
            unfold mayN
            rw [h5, decide_eq_false (fun h => h6 ((bl_iff h7).mp h))]; rfl
          rw [if_pos hm] at en2
          by_cases h8 : z ∈ zs
          · rw [decide_eq_true (List.mem_cons_of_mem _ h8)]
            refine yes (if_neg fun c => ?_) H1 s1
            have nd2 := c.2.2
            rw [← en2, List.nodup_append] at nd2
            exact nd2.2.2 z h8 z (by show z ∈ z :: nms r2; exact List.mem_cons_self) rfl
          rw [decide_eq_false (fun h => by rcases List.mem_cons.mp h with h | h; exact h7 h; exact h8 h)]
          have zl : zs.length ≤ 100000 := by omega
          refine ⟨.ref sn, rfl, .inl ⟨rfl, _, SqL.of esn⟩, _, rfl, p2, _, _, _, rfl, rfl, SqT.of e2', rfl, sn, _, _, rfl, rfl, esn, ?_, ?_⟩
          · rw [List.length_map, List.length_cons]; exact Nat.lt_of_le_of_lt (show zs.length + 1 ≤ 100001 by omega) (by decide)
          refine ⟨zs ++ [z], r2, _, rfl, hr2, same_mut s1 nsn, ?_, by rw [List.append_assoc]; exact en2, by rw [List.length_append]; show zs.length + 1 + _ = _; omega, ?_, b4⟩
          · rw [upd_same, ← snoc_sV]; rfl
          · rw [List.nodup_append]
            refine ⟨nz, List.nodup_cons.mpr ⟨by simp, List.nodup_nil⟩, fun a ha b hb => ?_⟩
            rw [List.mem_singleton.mp hb]
            exact fun z2 => h8 (z2 ▸ ha)
    · rintro σ' H1 ⟨zs, r, x3, rfl, hr1, s1, esn, en, eL, nz, b1⟩
      rw [List.drop_length] at hr1
      have e9 := hr1.last
      subst e9
      have en : zs = nms t := by rw [← en]; show zs = zs ++ []; rw [List.append_nil]
      subst en
      have q2 := q H1 s1
      rw [if_pos ⟨by omega, by show (nms t).length = lenT t; have : lenT Tr.nil = 0 := rfl; omega, nz⟩] at q2
      exact q2
/-! ### the law's own first fault of a tree -/
def OFV (H : Hp) (v : V) : Option F10 → Prop
  | none => v = .non
  | some f => FV H v f
def spFault : Sp := fun vs H Q _ => ∃ (p : Addr) (us : List V) (t : Tr), vs = [.ref p] ∧ H p = some (.tup us) ∧ RepT H t us ∧ depT t < 40 ∧ BT 1000 t ∧ (toksT t).length ≤ 100000 ∧ ∀ H' v, Same H H' → OFV H' v (chk t []) → Q v H'
theorem ok_fault (T : Txt K mg) : FnOk P w K mg base CX0 42 T.a_law_fault T.d_law_fault ["_law_tree_here"] spFault := by
  have G_law_built : FnOk P w K mg base CX0 1 T.a_law_built T.d_law_built [] spBuilt := ok_built T
  have G_law_bad_let : FnOk P w K mg base CX0 2 T.a_law_bad_let T.d_law_bad_let ["_law_node_here", "_law_built_here"] (spBadLet K) := ok_bad_let T
  have G_law_call_faults : FnOk P w K mg base CX0 41 T.a_law_call_faults T.d_law_call_faults ["_law_node_here", "_law_params", "_law_known", "_law_built_here"] (spCallF K 40) := ok_call_faults T 40
  refine T.D_law_fault.F.ok sc_law_fault (fun vs H Q E h => ?_) (fun cdv A outer s H vs Q E hr h => ?_)
  · obtain ⟨p, us, t, rfl, _⟩ := h
    rfl
  · obtain ⟨p, us, t, rfl, hp, hR, hd, hB, hl, q⟩ := h
    refine ⟨_, (pss_cons (ps_set (i := 1) sc_law_fault.nd rfl (.inl rfl) (pe_call0 G_law_built (hr.mono (by decide)) (by rfl) T.D_law_built.G T.D_law_built.F.kp T.D_law_built.B .nil pass0))
      (pss_cons (ps_set (i := 2) sc_law_fault.nd rfl (.inl rfl) pe_dnewK)
      (pss_cons (ps_set (i := 3) sc_law_fault.nd rfl (.inl rfl) pe_int)
      (pss_cons (ps_for PassesOwn.never rfl (pi_tup (pv 0)) (pg_name (i := 4) sc_law_fault.nd rfl (.inl rfl)) (pss_cons (ps_set (i := 5) sc_law_fault.nd rfl (.inl rfl) (pe_lst pa_nil))
      (Evl.pss_cut (ps_if (PW.pt (pw_and (pt_cmpR op_eq (pe_ix ix_tup (pv 4) pe_int (fun _ _ => rfl)) pe_str (nomark _)) (pw_and1 (pt_cmpR op_eq (pe_ix ix_tup (pv 4) pe_int (fun _ _ => rfl)) pe_str (nomark _))))) (pss_cons (ps_set (i := 3) sc_law_fault.nd rfl (.inl rfl) (pe_op op_add (pv 3) pe_int))
      (pss_cons (ps_if (pt_cmpR op_eq (pv 3) pe_int (nomark _)) (pss_one (ps_ret (pe_tup (pa_cons pe_str (pa_cons pe_str pa_nil))))) pss_nil)
      (pss_cons (ps_if (pt_val (pe_call G_law_bad_let (hr.mono (by decide)) (by rfl) T.D_law_bad_let.G T.D_law_bad_let.F.kp T.D_law_bad_let.B .nil pass0 (pa_cons (pv 4) (pa_cons (pv 1) pa_nil)))) (pss_one (ps_ret (pe_tup (pa_cons pe_str (pa_cons pe_str pa_nil))))) pss_nil)
      (pss_cons (ps_setLc (i := 6) (own := [("_law_part", 8)]) (g := gName 8) (tt := tYes) rfl sc_law_fault.nd rfl rfl (sw_true rfl rfl rfl (by decide +kernel)) (pi_tup (pe_ix ix_tup (pe_ix ix_tup (pv 4) pe_int (fun _ _ => rfl)) pe_int (fun _ _ => rfl))) (blkOk_by (own := [("_law_part", 8)]) (N := ["_law_tree_here", "_law_built_here", "_law_known", "_law_lets", "_law_node_here", "_law_found", "_law_names_here", "_law_inner", "_law_part"]) (sc := defScope s_law_fault) (by decide +kernel)) (fun _ _ _ _ _ => (pg_name (i := 8) sc_law_fault.nd rfl (.inl rfl))) (fun _ _ _ _ _ => pts_nil) (fun _ _ _ _ _ => (pe_ix (r := rIxT K) ix_tup (pv 8) pe_int (fun _ _ => rfl))))
      (pss_cons (ps_if (pt_cmp (pc_din (hu1 hr) (pe_ix ix_list (pv 6) pe_int (fun _ _ => rfl)) (pv 2))) (pss_one (ps_ret (pe_tup (pa_cons pe_str (pa_cons (pe_ix ix_list (pv 6) pe_int (fun _ _ => rfl)) pa_nil))))) pss_nil)
      (pss_cons (ps_for PassesOwn.never rfl (pi_tup (pe_ix ix_tup (pe_ix ix_tup (pv 4) pe_int (fun _ _ => rfl)) pe_int (fun _ _ => rfl))) (pg_name (i := 7) sc_law_fault.nd rfl (.inl rfl)) (pss_one (ps_expr (pe_bm PySem.F.plainAttrs_list PySem.F.slot_list_extend PySem.F.type_list_extend mt_extend (pv 5) (pa_cons (pe_call G_law_call_faults (hr.mono (by decide)) (by rfl) T.D_law_call_faults.G T.D_law_call_faults.F.kp T.D_law_call_faults.B .nil pass0 (pa_cons (pv 7) (pa_cons (pe_slice sl_list (pv 6) (po_some pe_int) po_none) (pa_cons (pv 2) (pa_cons (pv 1) pa_nil))))) pa_nil)))))
      (pss_one (ps_dput (hu1 hr) (pv 2) (pe_ix ix_list (pv 6) pe_int (fun _ _ => rfl)) (pe_op op_sub (pe_callB call_len_seq (by rfl) T.n_len PySem.boot_len (pa_cons (pv 6) pa_nil)) pe_int) rfl)))))))) (pss_one (ps_set (i := 5) sc_law_fault.nd rfl (.inl rfl) (pe_call G_law_call_faults (hr.mono (by decide)) (by rfl) T.D_law_call_faults.G T.D_law_call_faults.F.kp T.D_law_call_faults.B .nil pass0 (pa_cons (pv 4) (pa_cons (pe_lst pa_nil) (pa_cons (pv 2) (pa_cons (pv 1) pa_nil))))))))
      (pss_one (ps_if (pt_truth (pv 5) (by intro _; rfl)) (pss_one (ps_ret (pe_ix ix_list (pv 5) pe_int (fun _ _ => rfl)))) pss_nil)))))
      (pss_one (ps_ret pe_non)))))), ?_⟩
    refine ⟨rfl, fun H1 bl s1 nbl ebl => ?_⟩
    intro kd nkd
    have s2 := same_upd (o := .dK []) s1 nkd
    have nkd0 : H kd = none := by
      cases e : H kd with
      | none => rfl
      | some o => rw [s1 _ _ e] at nkd; cases nkd
    have kbl : bl ≠ kd := fun z => by rw [z, nkd] at ebl; cases ebl
    refine ⟨_, rfl, p, rfl, ⟨_, SqT.of (s2 _ _ hp)⟩, ?_⟩
    refine for_tup (K := K) (a := p) (xs := us) (fun i σ' H' => ∃ (kn : Kn) (r : Tr) (x4 x5 x6 x7 : Option V), σ' = [some (.ref p), some (.ref bl), some (.ref kd), some (.int (kn.length : Nat)), x4, x5, x6, x7, none] ∧ RepT H r (us.drop i) ∧ Same H H' ∧ H' bl = some (.lst (blN.map sV)) ∧ H' kd = some (.dK (knV kn)) ∧ kn.length ≤ 40 ∧ chk r kn = chk t [] ∧ depT r < 40 ∧ BT 1000 r ∧ (toksT r).length ≤ 100000)
      ⟨[], t, none, none, none, none, rfl, hR, s2, by rw [upd_ne kbl]; exact ebl, upd_same, by show 0 ≤ 40; decide, rfl, hd, hB, hl⟩ ?_ ?_ ?_
    · rintro i σ' H' _ ⟨_, _, _, _, _, _, _, _, s3, _⟩
      exact SqT.of (s3 _ _ hp)
    · rintro i x σ' H2 hx ⟨kn, r, x4, x5, x6, x7, rfl, hr1, s3, ebl, ek, kl, ec, d1, b1, l1⟩
      rw [drop_x hx] at hr1
      obtain ⟨nd, r2, rfl, hnd, hr2⟩ := hr1.first
      rw [depT_tr] at d1
      rw [toksT_tr] at l1
      have ⟨b3, b4⟩ := BT_tr b1
      have klen : (knV kn).length = kn.length := List.length_map ..
      refine ⟨by show 0 ≤ sizeLine; decide, fun fl nfl => ?_⟩
      have s4 := same_upd (o := .lst []) s3 nfl
      have nflH : H fl = none := by
        cases e : H fl with
        | none => rfl
        | some o => rw [s3 _ _ e] at nfl; cases nfl
      have blf : bl ≠ fl := fun z => by rw [z, nfl] at ebl; cases ebl
      have kdf : kd ≠ fl := fun z => by rw [z, nfl] at ek; cases ek
      have ebl4 : upd H2 fl (.lst []) bl = some (.lst (blN.map sV)) := by rw [upd_ne blf]; exact ebl
      have ek4 : upd H2 fl (.lst []) kd = some (.dK (knV kn)) := by rw [upd_ne kdf]; exact ek
      have efl4 : upd H2 fl (.lst []) fl = some (.lst []) := upd_same
      obtain ⟨H4, hH4⟩ : ∃ H4, upd H2 fl (.lst []) = H4 := ⟨_, rfl⟩
      rw [hH4] at s4 ebl4 ek4 efl4 ⊢
      have hnd4 := hnd.keep (TKeep.same s4)
      refine ⟨fun σ' H' => ∃ (kn2 : Kn) (fs : List F10) (vs2 : List V) (f2 : Addr) (x6 x7 : Option V), σ' = [some (.ref p), some (.ref bl), some (.ref kd), some (.int (kn2.length : Nat)), some x, some (.ref f2), x6, x7, none] ∧ Same H H' ∧ H' bl = some (.lst (blN.map sV)) ∧ H' kd = some (.dK (knV kn2)) ∧ kn2.length ≤ 40 ∧ H' f2 = some (.lst vs2) ∧ FL H' vs2 fs ∧ (∀ f rr, fs = f :: rr → chk t [] = some f) ∧ (fs = [] → chk r2 kn2 = chk t []), ?_, ?_⟩
      · cases hdef : isDefN nd with
        | true =>
          cases nd with
          | word z => cases hdef
          | call n a =>
            have en : n = letN := of_decide_eq_true hdef
            subst en
            have ec2 : chk (.call letN a r2) kn = match ltF kn a with | some f => some f | none => chk r2 (ltK kn a) := by
              simp only [chk]
              first | (rw [if_pos trivial]; done) | (rw [if_pos trivial]; rfl)
            have ec3 : chk (.call letN a r2) kn = chk t [] := ec
            rw [ec2] at ec3
            have l3 : (toksA a).length ≤ 100000 := by
              have h2 := l1
              simp only [Nd.tr, toksT, List.length_cons, List.length_append] at h2
              omega
            have d3 : depA a < 40 := by
              have h2 : depN (.call letN a) = depA a := rfl
              omega
            obtain ⟨np, qa, ws, rfl, e1, e2, hA⟩ := hnd4
            refine ⟨_, rfl, np, _, _, _, rfl, rfl, SqT.of e1, rfl, rfl, true, kc_word.1, ?_⟩
            refine ⟨_, rfl, np, _, _, _, rfl, rfl, SqT.of e1, rfl, rfl, true, ?_, ?_⟩
            · rw [let_sV]; exact congrArg V.bl (decide_eq_true rfl)
            refine ⟨_, rfl, _, _, rfl, rfl, ?_⟩
            refine ⟨_, rfl, rfl, decide (kn.length = 40), ?_, ?_⟩
            · refine congrArg V.bl ?_
              by_cases h : kn.length = 40
              · rw [decide_eq_true h]; exact decide_eq_true (by rw [h]; rfl)
              · rw [decide_eq_false h]; exact decide_eq_false fun z => h (by have := V.int.inj z; omega)
            by_cases h40 : kn.length = 40
            · rw [decide_eq_true h40]
              refine ⟨by show 2 ≤ sizeLine; decide, fun c nc => ?_⟩
              have s5 := same_upd (o := .tup [V.str "TooLarge", V.str "macros"]) s4 nc
              refine q _ _ s5 ?_
              have : ltF kn a = some .large := by unfold ltF; rw [if_pos h40]
              rw [this] at ec3
              rw [← ec3]
              exact ⟨c, rfl, upd_same⟩
            rw [decide_eq_false h40]
            refine ⟨_, rfl, _, rfl, .ref np, a, bl, rfl, ⟨np, qa, ws, rfl, e1, e2, hA⟩, SqL.of ebl4, b3.2, l3, fun H5 s5 => ⟨(letOf a).isNone, rfl, ?_⟩⟩
            have s45 := s4.trans s5
            cases eL : letOf a with
            | none =>
              refine ⟨by show 2 ≤ sizeLine; decide, fun c nc => ?_⟩
              have s6 := same_upd (o := .tup [V.str "BadCall", V.str "let"]) s45 nc
              refine q _ _ s6 ?_
              have : ltF kn a = some (.bad letN) := by unfold ltF; rw [if_neg h40, eL]
              rw [this] at ec3
              rw [← ec3]
              refine ⟨c, rfl, ?_⟩
              rw [upd_same, let_sV]; rfl
            | some nb =>
              obtain ⟨ns, b⟩ := nb
              obtain ⟨t1, rfl, ens, c1, c2, c3⟩ := letOf_ok eL
              match ns, ens, eL with
              | [], ens, _ =>
                rw [← ens] at c2
                have : ([] : List (List Nat)).length = 0 := rfl
                omega
              | m :: ps, ens, eL =>
              have lF : ltF kn (.cons t1 (.cons b .nil)) = if (kn.lookup m).isSome then some (.twice m) else (fauT ps kn b).head? := by
                unfold ltF; rw [if_neg h40, eL]
              have lK : ltK kn (.cons t1 (.cons b .nil)) = kn ++ [(m, ps.length)] := by unfold ltK; rw [eL]
              rw [lF, lK] at ec3
              match ws, hA, e2 with
              | [], hA, _ => simp only [RepA] at hA; obtain ⟨_, _, _, z, _⟩ := hA; cases z
              | [x0], hA, _ => have := RepA.lenA hA; simp [lenA] at this
              | x0 :: x1 :: ws2, hA, e2 =>
              obtain ⟨t2, a1, ea, ⟨tp, wt, rfl, etp, ht⟩, hA1⟩ := hA.first
              injection ea with ea1 ea2
              subst ea1 ea2
              obtain ⟨b2, a2, ea, ⟨bp, wb, rfl, ebp, hb⟩, hA2⟩ := hA1.first
              injection ea with ea1 ea2
              subst ea1 ea2
              simp only [depA, BA, toksA, List.length_cons, List.length_append, List.length_nil] at d3 b3 l3
              have btt : BT 1000 t1 := b3.2.1
              have btb : BT 1000 b := b3.2.2.1
              have e1' := s5 _ _ e1
              have e2' := s5 _ _ e2
              -- the names
              refine ⟨_, rfl, np, _, _, _, rfl, rfl, SqT.of e1', rfl, qa, _, 0, _, rfl, rfl, SqT.of e2', atI_nat (j := 0) rfl, tp, rfl, ⟨_, SqT.of (s5 _ _ etp)⟩, fun D nD => ?_⟩
              have s6 := same_upd (o := .lst []) (Same.refl H5) nD
              refine lc_tup (K := K) (a := tp) (xs := wt) (fun i H' => ∃ (zs : List (List Nat)) (r : Tr), H' D = some (.lst (zs.map sV)) ∧ RepT H5 r (wt.drop i) ∧ Same H5 H' ∧ zs ++ nms r = nms t1 ∧ zs.length + lenT r = lenT t1)
                ⟨[], t1, upd_same, ht.keep (TKeep.same s5), s6, rfl, by show 0 + lenT t1 = _; omega⟩ ?_ ?_ ?_
              · rintro i H' _ ⟨_, _, _, _, k, _⟩
                exact SqT.of (k _ _ (s5 _ _ etp))
              · rintro i y H' hy ⟨zs, rt, ez, hr3, k1, en, eL2⟩
                rw [drop_x hy] at hr3
                obtain ⟨nd2, r4, rfl, hnd2, hr4⟩ := hr3.first
                rw [nms_tr] at en
                have lt : lenT (nd2.tr r4) = lenT r4 + 1 := by cases nd2 <;> rfl
                rw [lt] at eL2
                have nl := nms_len r4
                have enl := congrArg List.length en
                rw [List.length_append, List.length_append] at enl
                cases nd2 with
                | call n2 a2 =>
                  have : (oneN (.call n2 a2)).length = 0 := rfl
                  omega
                | word z =>
                  by_cases hm : mayN z = true
                  rotate_left
                  · have : (oneN (.word z)).length = 0 := by show (if mayN z = true then [z] else []).length = 0; rw [if_neg hm]; rfl
                    omega
                  have en2 : zs ++ ([z] ++ nms r4) = nms t1 := by
                    have e9 : oneN (.word z) = [z] := by show (if mayN z = true then [z] else []) = [z]; rw [if_pos hm]
                    rw [e9] at en; exact en
                  obtain ⟨yp, rfl, ey⟩ := hnd2
                  refine ⟨rfl, ?_⟩
                  refine ⟨_, rfl, yp, _, _, _, rfl, rfl, SqT.of (k1 _ _ ey), rfl, _, ez, by rw [List.length_map]; exact lt_size (by omega), zs ++ [z], r4, ?_, hr4, same_mut k1 nD, by rw [List.append_assoc]; exact en2, by rw [List.length_append]; show zs.length + 1 + _ = _; omega⟩
                  rw [upd_same, snoc_sV]
              · rintro H6 ⟨zs, rt, ez, hr3, k1, en, _⟩
                rw [List.drop_length] at hr3
                have e9 := hr3.last
                subst e9
                have en : zs = m :: ps := by rw [ens, ← en]; show zs = zs ++ []; rw [List.append_nil]
                subst en
                have s56 := s5.trans k1
                have s46 := s4.trans s56
                have ek6 := s56 _ _ ek4
                have ebl6 := s56 _ _ ebl4
                have efl6 := s56 _ _ efl4
                have hg : DGet H6 kd (sV m) ((kn.lookup m).map fun j : Nat => V.int (j : Int)) := by
                  rw [← knV_get]; exact DGet.k (k := Sum.inr (mkS m)) ek6
                refine ⟨_, rfl, D, _, 0, _, rfl, rfl, SqL.of ez, atI_nat (j := 0) rfl, _, rfl, kd, _, rfl, hg, (kn.lookup m).isSome, ?_, ?_⟩
                · cases kn.lookup m <;> rfl
                cases h5 : kn.lookup m with
                | some j =>
                  rw [h5] at ec3
                  refine ⟨_, rfl, D, _, 0, _, rfl, rfl, SqL.of ez, atI_nat (j := 0) rfl, by show 2 ≤ sizeLine; decide, fun c nc => ?_⟩
                  have s7 := same_upd (o := .tup [V.str "Twice", sV m]) s46 nc
                  refine q _ _ s7 ?_
                  have ec4 : some (F10.twice m) = chk t [] := ec3
                  rw [← ec4]
                  exact ⟨c, rfl, upd_same⟩
                | none =>
                  rw [h5] at ec3
                  have ec4 : (match (fauT ps kn b).head? with | some f => some f | none => chk r2 (kn ++ [(m, ps.length)])) = chk t [] := ec3
                  have nDf : D ≠ fl := fun z => by rw [z, s5 _ _ efl4] at nD; cases nD
                  refine ⟨_, rfl, np, _, _, _, rfl, rfl, SqT.of (k1 _ _ e1'), rfl, qa, _, 1, _, rfl, rfl, SqT.of (k1 _ _ e2'), atI_nat (j := 1) rfl, bp, rfl, ⟨_, SqT.of (s56 _ _ ebp)⟩, ?_⟩
                  refine for_tup (K := K) (a := bp) (xs := wb) (fun i σ' H' => ∃ (rt : Tr) (vs1 : List V) (fs : List F10) (x7 : Option V), σ' = [some (.ref p), some (.ref bl), some (.ref kd), some (.int ((kn.length : Nat) + 1)), some (.ref np), some (.ref fl), some (.ref D), x7, none] ∧ RepT H4 rt (wb.drop i) ∧ Same H H' ∧ TKeep H4 H' ∧ H' bl = some (.lst (blN.map sV)) ∧ H' kd = some (.dK (knV kn)) ∧ H' D = some (.lst ((m :: ps).map sV)) ∧ H' fl = some (.lst vs1) ∧ FL H' vs1 fs ∧ fs ++ fauT ps kn rt = fauT ps kn b ∧ depT rt < 40 ∧ (toksT rt).length ≤ 100000)
                    ⟨b, [], [], _, rfl, hb, s46, TKeep.same s56, ebl6, ek6, ez, efl6, trivial, rfl, by omega, by omega⟩ ?_ ?_ ?_
                  · rintro i σ' H' _ ⟨_, _, _, _, _, _, _, tk, _⟩
                    exact SqT.of (tk _ _ ebp)
                  · rintro i y σ' H7 hy ⟨rt, vs1, fs, x7, rfl, hrt, s7, tk7, ebl7, ek7, eD7, efl7, hf7, et, d2, l2⟩
                    rw [drop_x hy] at hrt
                    obtain ⟨nd3, r5, rfl, hnd3, hr5⟩ := hrt.first
                    rw [fauT_tr] at et
                    rw [depT_tr] at d2
                    rw [toksT_tr] at l2
                    refine ⟨.ref fl, rfl, .inl ⟨rfl, _, SqL.of efl7⟩, _, rfl, _, rfl, _, rfl, D, _, rfl, SqL.of eD7, fun pp npp => ?_⟩
                    rw [show cutV ((m :: ps).map sV) (some 1) none = ps.map sV from cut_hi (ts := m :: ps) (i := 1) (by rw [List.length_cons]; omega)]
                    have s8 := same_upd (o := .lst (ps.map sV)) (Same.refl H7) npp
                    refine ⟨_, rfl, _, rfl, y, nd3, pp, ps, _, kn, bl, rfl, (hnd3.keep tk7).keep (TKeep.same s8), by omega, by omega, SqL.of upd_same, ⟨kd, rfl, s8 _ _ ek7⟩, SqL.of (s8 _ _ ebl7), fun H9 p9 vs9 s9 np9 e9 hf9 => ?_⟩
                    have s89 := s8.trans s9
                    have efl9 := s89 _ _ efl7
                    have n9 : p9 ≠ fl := fun z => by rw [z, s8 _ _ efl7] at np9; cases np9
                    have v1 := hf7.len
                    have v9 := hf9.len
                    have fl9 := fauT_len ps kn b
                    have tot := congrArg List.length et
                    rw [List.length_append, List.length_append] at tot
                    have kdf' : kd ≠ fl := kdf
                    have Df : D ≠ fl := nDf
                    refine ⟨fl, p9, _, _, rfl, rfl, efl9, e9, Nat.le_trans (show _ ≤ 100000 by omega) (by decide), ?_⟩
                    have tkm := TKeep.mut (o := .lst (vs1 ++ vs9)) efl9
                    refine ⟨r5, vs1 ++ vs9, fs ++ fauN ps kn nd3, _, rfl, hr5, same_mut (s7.trans s89) nflH, (tk7.trans (TKeep.same s89)).trans tkm, by rw [upd_ne blf]; exact s89 _ _ ebl7, by rw [upd_ne kdf]; exact s89 _ _ ek7, by rw [upd_ne Df]; exact s89 _ _ eD7, upd_same, FL.app (hf9.keep tkm) ((hf7.keep (TKeep.same s89)).keep tkm), by rw [List.append_assoc]; exact et, by omega, by omega⟩
                  · rintro σ' H7 ⟨rt, vs1, fs, x7, rfl, hrt, s7, tk7, ebl7, ek7, eD7, efl7, hf7, et, _⟩
                    rw [List.drop_length] at hrt
                    have e9 := hrt.last
                    subst e9
                    have et : fs = fauT ps kn b := by rw [← et]; show fs = fs ++ []; rw [List.append_nil]
                    have ml : ((m :: ps).map sV).length = ps.length + 1 := by rw [List.length_map]; rfl
                    refine ⟨_, rfl, D, _, rfl, .inl (SqL.of eD7), _, _, rfl, rfl, _, rfl, _, rfl, D, _, 0, _, rfl, rfl, SqL.of eD7, atI_nat (j := 0) rfl, kd, _, rfl, DPut.k (k := Sum.inr (mkS m)) ek7 (by rw [klen]; exact lt_size (by omega)), ?_⟩
                    have ev : (((((m :: ps).map sV).length : Nat) : Int) - 1) = ((ps.length : Nat) : Int) := by rw [ml]; omega
                    have eput : putK (knV kn) (Sum.inr (mkS m)) (V.int ((((m :: ps).map sV).length : Nat) - 1)) = knV (kn ++ [(m, ps.length)]) := by
                      rw [ev, knV_put h5]
                    have tkm : TKeep H7 (upd H7 kd (.dK (putK (knV kn) (Sum.inr (mkS m)) (V.int ((((m :: ps).map sV).length : Nat) - 1))))) := fun q2 xs hq => by
                      rw [upd_ne (fun z => by rw [z, ek7] at hq; cases hq)]; exact hq
                    refine ⟨kn ++ [(m, ps.length)], fs, vs1, fl, some (.ref D), x7, ?_, same_mut s7 nkd0, by rw [upd_ne kbl]; exact ebl7, by rw [upd_same, eput], ?_, by rw [upd_ne kdf.symm]; exact efl7, hf7.keep tkm, fun f rr ef => ?_, fun ef => ?_⟩
                    · rw [List.length_append]; rfl
                    · rw [List.length_append]; show kn.length + 1 ≤ 40; omega
                    · rw [← et, ef] at ec4; exact ec4.symm
                    · rw [← et, ef] at ec4; exact ec4
        | false =>
          rw [chk_tr nd r2 kn hdef] at ec
          have ec4 : (match fauN [] kn nd with | f :: _ => some f | [] => chk r2 kn) = chk t [] := ec
          -- what the call leaves
          have fin : ∀ (pp : Addr), H4 pp = none → ∀ (H9 : Hp) (p9 : Addr) (vs9 : List V), Same (upd H4 pp (.lst [])) H9 → H9 p9 = some (.lst vs9) → FL H9 vs9 (fauN [] kn nd) → ∃ (kn2 : Kn) (fs : List F10) (vs2 : List V) (f2 : Addr) (x6' x7' : Option V), [some (.ref p), some (.ref bl), some (.ref kd), some (V.int (kn.length : Nat)), some x, some (.ref p9), x6, x7, none] = [some (.ref p), some (.ref bl), some (.ref kd), some (.int (kn2.length : Nat)), some x, some (.ref f2), x6', x7', none] ∧ Same H H9 ∧ H9 bl = some (.lst (blN.map sV)) ∧ H9 kd = some (.dK (knV kn2)) ∧ kn2.length ≤ 40 ∧ H9 f2 = some (.lst vs2) ∧ FL H9 vs2 fs ∧ (∀ f rr, fs = f :: rr → chk t [] = some f) ∧ (fs = [] → chk r2 kn2 = chk t []) := by
            intro pp npp H9 p9 vs9 s9 e9 hf9
            have s59 := (same_upd (o := .lst []) (Same.refl H4) npp).trans s9
            refine ⟨kn, _, vs9, p9, _, _, rfl, s4.trans s59, s59 _ _ ebl4, s59 _ _ ek4, kl, e9, hf9, fun f rr ef => ?_, fun ef => ?_⟩
            · rw [ef] at ec4; exact ec4.symm
            · rw [ef] at ec4; exact ec4
          cases nd with
          | word z =>
            have hnd9 := hnd4
            obtain ⟨np, rfl, e1⟩ := hnd4
            refine ⟨_, rfl, np, _, _, _, rfl, rfl, SqT.of e1, rfl, rfl, false, kc_word.2, ?_⟩
            refine ⟨_, rfl, by show 0 ≤ sizeLine; decide, fun pp npp => ?_⟩
            have s5 := same_upd (o := .lst []) (Same.refl H4) npp
            exact ⟨_, rfl, _, rfl, .ref np, .word z, pp, [], _, kn, bl, rfl, hnd9.keep (TKeep.same s5), by omega, by omega, SqL.of upd_same, ⟨kd, rfl, s5 _ _ ek4⟩, SqL.of (s5 _ _ ebl4), fun H9 p9 vs9 s9 _ e9 hf9 => fin pp npp H9 p9 vs9 s9 e9 hf9⟩
          | call n a =>
            have hn : ¬ n = letN := of_decide_eq_false hdef
            have hnd9 := hnd4
            obtain ⟨np, qa, ws, rfl, e1, e2, hA⟩ := hnd4
            refine ⟨_, rfl, np, _, _, _, rfl, rfl, SqT.of e1, rfl, rfl, true, kc_word.1, ?_⟩
            refine ⟨_, rfl, np, _, _, _, rfl, rfl, SqT.of e1, rfl, rfl, false, ?_, ?_⟩
            · rw [let_sV, dec_s]; exact congrArg V.bl (decide_eq_false hn)
            refine ⟨_, rfl, by show 0 ≤ sizeLine; decide, fun pp npp => ?_⟩
            have s5 := same_upd (o := .lst []) (Same.refl H4) npp
            exact ⟨_, rfl, _, rfl, .ref np, .call n a, pp, [], _, kn, bl, rfl, hnd9.keep (TKeep.same s5), by omega, by omega, SqL.of upd_same, ⟨kd, rfl, s5 _ _ ek4⟩, SqL.of (s5 _ _ ebl4), fun H9 p9 vs9 s9 _ e9 hf9 => fin pp npp H9 p9 vs9 s9 e9 hf9⟩
      · rintro σ' H5 ⟨kn2, fs, vs2, f2, x6, x7, rfl, s5, ebl5, ek5, kl5, ef5, hf5, c1, c2⟩
        refine ⟨_, rfl, !vs2.isEmpty, .inl ⟨vs2, SqL.of ef5, rfl⟩, ?_⟩
        match vs2, fs, hf5, ef5 with
        | [], [], _, _ =>
          exact ⟨kn2, r2, _, _, _, _, rfl, hr2, s5, ebl5, ek5, kl5, c2 rfl, by omega, b4, by omega⟩
        | v :: vs2, f :: fs, hf5, ef5 =>
          refine ⟨_, rfl, f2, _, 0, _, rfl, rfl, SqL.of ef5, atI_nat (j := 0) rfl, ?_⟩
          refine q H5 v s5 ?_
          rw [c1 f fs rfl]
          exact hf5.1
        | [], _ :: _, h, _ => exact h.elim
        | _ :: _, [], h, _ => exact h.elim
    · rintro σ' H2 ⟨kn, r, x4, x5, x6, x7, rfl, hr1, s3, ebl, ek, kl, ec, _⟩
      rw [List.drop_length] at hr1
      have e9 := hr1.last
      subst e9
      refine q H2 .non s3 ?_
      rw [← ec]
      rfl
end
end Vf

set_option Elab.async false
set_option linter.all false
set_option maxRecDepth 100000
set_option maxHeartbeats 4000000
namespace Vf
open PySem PySem.Spec PyProof.Rows L2 TL
/-! ### rows shuffled -/
theorem nodup_sub {ts : List (List Nat)} : ∀ {us : List (List Nat)}, us.Nodup → (∀ x ∈ us, x ∈ ts) → us.length ≤ ts.length := by
  intro us
  induction us generalizing ts with
  | nil => exact fun _ _ => Nat.zero_le _
  | cons x us ih =>
    intro hn hs
    have ⟨h1, h2⟩ := List.nodup_cons.mp hn
    have hx := hs x List.mem_cons_self
    have := ih (ts := ts.erase x) h2 fun y hy => by
      exact (List.mem_erase_of_ne (fun e => h1 (by rw [← e]; exact hy))).mpr (hs y (List.mem_cons_of_mem _ hy))
    rw [List.length_erase_of_mem hx] at this
    have : 0 < ts.length := List.length_pos_of_mem hx
    rw [List.length_cons]
    omega
theorem seqIx {n k : Nat} (h : k < n) : seqIndex? (k : Int) n = some k := by
  unfold seqIndex?
  simp only [if_neg (show ¬ ((k : Int) < 0) by omega)]
  rw [if_pos (by rw [decide_eq_true (show (0 : Int) ≤ (k : Int) by omega), decide_eq_true (show (k : Int) < (n : Int) by omega)]; rfl)]
  rfl
theorem erase_map {α β : Type} (f : α → β) : ∀ (l : List α) (k : Nat), (l.map f).eraseIdx k = (l.eraseIdx k).map f
  | [], _ => rfl
  | _ :: _, 0 => rfl
  | x :: l, k + 1 => congrArg (List.cons (f x)) (erase_map f l k)
theorem erase_perm {α : Type} {z : α} : ∀ {l : List α} {k : Nat}, l[k]? = some z → (z :: l.eraseIdx k).Perm l
  | [], _, h => by cases h
  | x :: l, 0, h => by
    have e := Option.some.inj h
    subst e
    exact List.Perm.refl _
  | x :: l, k + 1, h => (List.Perm.swap x z _).trans (List.Perm.cons x (erase_perm (l := l) (k := k) h))
section
variable {P : Program} {w : World} {K : PySem.W.Frag} {mg : Str → Option Value} {base : Heap}
def spShuf (K : PySem.W.Frag) : Sp := fun vs H Q _ => ∃ (d l r : Addr) (zs : List (List Nat)), vs = [.ref d, .ref r] ∧ DI d l H ∧ H r = some (.lst (zs.map sV)) ∧ zs.length ≤ 1000 ∧
  ∀ H' p (us : List (List Nat)), Kp d H H' → DI d l H' → H p = none → H' p = some (.lst (us.map sV)) → us.Perm zs → Q (.ref p) H'
theorem ok_shuffled (T : Txt K mg) : FnOk P w K mg base CX0 2 T.a_law_shuffled T.d_law_shuffled ["_law_d", "_law_row"] (spShuf K) := by
  have G_law_draw : FnOk P w K mg base CX0 1 T.a_law_draw T.d_law_draw ["_law_d", "_law_many"] spDraw := ok_draw T
  refine T.D_law_shuffled.F.ok sc_law_shuffled (fun vs H Q E h => ?_) (fun cdv A outer s H vs Q E hr h => ?_)
  · obtain ⟨d, l, r, zs, rfl, _⟩ := h
    rfl
  · obtain ⟨d, l, r, zs, rfl, hD, hr1, hl, q⟩ := h
    refine ⟨_, (pss_cons (ps_set (i := 2) sc_law_shuffled.nd rfl (.inl rfl) (pe_callTy call_list_of (by rfl) T.n_list (by decide +kernel) (pa_cons (pv 1) pa_nil)))
      (pss_cons (ps_set (i := 3) sc_law_shuffled.nd rfl (.inl rfl) (pe_lst pa_nil))
      (pss_cons (ps_while PassesOwn.never (pt_truth (pv 2) (by intro _; rfl)) (pss_one (ps_expr (pe_bm PySem.F.plainAttrs_list PySem.F.slot_list_append PySem.F.type_list_append mt_append (pv 3) (pa_cons (pe_bm PySem.F.plainAttrs_list PySem.F.slot_list_pop PySem.F.type_list_pop mt_popAt (pv 2) (pa_cons (pe_call G_law_draw (hr.mono (by decide)) (by rfl) T.D_law_draw.G T.D_law_draw.F.kp T.D_law_draw.B .nil pass0 (pa_cons (pv 0) (pa_cons (pe_callB call_len_seq (by rfl) T.n_len PySem.boot_len (pa_cons (pv 2) pa_nil)) pa_nil))) pa_nil)) pa_nil)))))
      (pss_one (ps_ret (pv 3)))))), ?_⟩
    refine ⟨_, rfl, r, _, rfl, .inl (SqL.of hr1), fun L nL => ?_⟩
    have D1 := hD.new (o := .lst (zs.map sV)) nL
    have K1 := (Kp.refl d H).new (o := .lst (zs.map sV)) nL
    refine ⟨by show 0 ≤ sizeLine; decide, fun F nF => ?_⟩
    have D2 := D1.new (o := .lst []) nF
    have K2 := K1.new (o := .lst []) nF
    have eL : upd (upd H L (.lst (zs.map sV))) F (.lst []) L = some (.lst (zs.map sV)) := by rw [upd_ne (ne_of_none upd_same nF)]; exact upd_same
    have nLF : L ≠ F := ne_of_none upd_same nF
    have ndL := hD.nd nL
    have nFH : H F = none := by rw [upd_ne nLF.symm] at nF; exact nF
    have ndF := hD.nd nFH
    refine ⟨fun m σ H' => ∃ (ls fs : List (List Nat)), m = ls.length ∧ σ = [some (.ref d), some (.ref r), some (.ref L), some (.ref F)] ∧ Kp d H H' ∧ DI d l H' ∧ H' L = some (.lst (ls.map sV)) ∧ H' F = some (.lst (fs.map sV)) ∧ (ls ++ fs).Perm zs,
      ⟨_, zs, [], rfl, rfl, K2, D2, eL, upd_same, by rw [List.append_nil]⟩, fun m σ H' hW => ?_⟩
    obtain ⟨ls, fs, rfl, rfl, K3, D3, e1, e2, hp⟩ := hW
    have pl := hp.length_eq
    rw [List.length_append] at pl
    refine ⟨_, rfl, !(ls.map sV).isEmpty, .inl ⟨_, SqL.of e1, rfl⟩, ?_⟩
    cases ls with
    | nil =>
      exact ⟨_, rfl, q H' F fs K3 D3 nFH e2 hp⟩
    | cons z0 ls =>
      rw [List.length_cons] at pl
      refine ⟨fun σ' H1 => ∃ (ls2 fs2 : List (List Nat)), ls2.length = ls.length ∧ σ' = [some (.ref d), some (.ref r), some (.ref L), some (.ref F)] ∧ Kp d H H1 ∧ DI d l H1 ∧ H1 L = some (.lst (ls2.map sV)) ∧ H1 F = some (.lst (fs2.map sV)) ∧ (ls2 ++ fs2).Perm zs, fun σ' H1 hN => ?_, ?_⟩
      · obtain ⟨ls2, fs2, el, rfl, a1, a2, a3, a4, a5⟩ := hN
        exact ⟨ls2.length, by rw [List.length_cons]; omega, ls2, fs2, rfl, rfl, a1, a2, a3, a4, a5⟩
      · refine ⟨.ref F, rfl, .inl ⟨rfl, _, SqL.of e2⟩, .ref L, rfl, .inl ⟨rfl, _, SqL.of e1⟩, _, rfl, _, rfl, L, _, rfl, .inl (SqL.of e1), d, l, _, rfl, D3, by rw [List.length_map, List.length_cons]; omega, fun H4 i K4 D4 i1 i2 => ?_⟩
        have e1' := K4 _ _ ndL.1 e1
        have e2' := K4 _ _ ndF.1 e2
        rw [List.length_map] at i1 i2
        obtain ⟨k, hk, rfl⟩ : ∃ k : Nat, k < (z0 :: ls).length ∧ i = (k : Int) := by
          by_cases h : ((z0 :: ls).length : Int) < 2
          · exact ⟨0, by rw [List.length_cons]; omega, i1 h⟩
          · have := i2 (by omega)
            exact ⟨i.toNat, by omega, by omega⟩
        have g : (z0 :: ls)[k]? = some (z0 :: ls)[k] := List.getElem?_eq_getElem hk
        obtain ⟨z, ez⟩ : ∃ z, (z0 :: ls)[k] = z := ⟨_, rfl⟩
        rw [ez] at g
        have lk : (z0 :: ls).length = ls.length + 1 := rfl
        refine ⟨L, _, (k : Int), k, sV z, rfl, rfl, e1', by omega, by omega, ?_, get_sV g, ?_⟩
        · have := seqIx (n := ((z0 :: ls).map sV).length) (k := k) (by rw [List.length_map]; exact hk)
          exact this
        have e2'' : upd H4 L (.lst (((z0 :: ls).map sV).eraseIdx k)) F = some (.lst (fs.map sV)) := by rw [upd_ne nLF.symm]; exact e2'
        refine ⟨F, _, _, rfl, rfl, e2'', by rw [List.length_map]; exact lt_size (by omega), ?_⟩
        refine ⟨(z0 :: ls).eraseIdx k, fs ++ [z], ?_, rfl, ((K3.trans K4).mut nL).mut nFH, (D4.at ndL.1 ndL.2).at ndF.1 ndF.2, ?_, ?_, ?_⟩
        · rw [List.length_eraseIdx_of_lt hk]; rfl
        · rw [upd_ne nLF, upd_same, erase_map]
        · rw [upd_same, snoc_sV]
        · have p1 : ((z0 :: ls).eraseIdx k ++ (fs ++ [z])).Perm ((z0 :: ls) ++ fs) := by
            have p2 : (z :: (z0 :: ls).eraseIdx k).Perm (z0 :: ls) := erase_perm g
            refine (List.Perm.append_left _ (List.perm_append_singleton z fs)).trans ?_
            refine List.perm_middle.trans ?_
            exact List.Perm.append_right fs p2
          exact p1.trans hp
/-! ### the pool -/
def poolS : List Str := ["b", "qu", "zed", "anna", "omega", "kestrel", "willow", "orchards", "f", "ix", "tom", "lena", "birch", "copper", "lantern", "riverbed", "g", "du", "sam", "nora"]
def poolN : List (List Nat) := poolS.map fun s => s.cps.toList
def OkN (z : List Nat) : Prop := z.length ≤ 100 ∧ Low z
def okB (z : List Nat) : Bool := decide (z.length ≤ 100) && z.all fun c => decide (c < 1114112)
theorem ok_of {z : List Nat} (h : okB z = true) : OkN z := by
  have ⟨h1, h2⟩ := Bool.and_eq_true_iff.mp h
  exact ⟨of_decide_eq_true h1, fun c hc => of_decide_eq_true (List.all_eq_true.mp h2 c hc)⟩
theorem pool_ok : ∀ z ∈ poolN, OkN z := fun z hz => ok_of (List.all_eq_true.mp (by decide +kernel : poolN.all okB = true) z hz)
theorem bl_ok : ∀ z ∈ blN, OkN z := fun z hz => ok_of (List.all_eq_true.mp (by decide +kernel : blN.all okB = true) z hz)
theorem let_ok : OkN letN := ok_of (by decide +kernel)
theorem pool_nd : poolN.Nodup := by decide +kernel
theorem pool_map : poolS.map V.str = poolN.map sV := by
  unfold poolN
  rw [List.map_map]
  exact List.map_congr_left fun s _ => by show V.str s = V.str (mkS s.cps.toList); rw [mkS_of]
def sPool : Str := "b qu zed anna omega kestrel willow orchards f ix tom lena birch copper lantern riverbed g du sam nora"
theorem pool_split : Txt.split sPool (" " : Str) = poolS := by decide +kernel
def spNames : Sp := fun vs H Q _ => ∃ (d l : Addr), vs = [.ref d, .int 12] ∧ DI d l H ∧
  ∀ H' p (us : List (List Nat)), Kp d H H' → DI d l H' → H p = none → H' p = some (.lst (us.map sV)) → us.length = 12 → us.Nodup → (∀ z ∈ us, OkN z) → Q (.ref p) H'
theorem ok_names (T : Txt K mg) : FnOk P w K mg base CX0 3 T.a_law_names T.d_law_names ["_law_d", "_law_many"] spNames := by
  have G_law_shuffled : FnOk P w K mg base CX0 2 T.a_law_shuffled T.d_law_shuffled ["_law_d", "_law_row"] (spShuf K) := ok_shuffled T
  refine T.D_law_names.F.ok sc_law_names (fun vs H Q E h => ?_) (fun cdv A outer s H vs Q E hr h => ?_)
  · obtain ⟨d, l, rfl, _⟩ := h
    rfl
  · obtain ⟨d, l, rfl, hD, q⟩ := h
    refine ⟨_, (pss_cons (ps_set (i := 2) sc_law_names.nd rfl (.inl rfl) pe_str)
      (pss_one (ps_ret (pe_slice sl_list (pe_call G_law_shuffled (hr.mono (by decide)) (by rfl) T.D_law_shuffled.G T.D_law_shuffled.F.kp T.D_law_shuffled.B .nil pass0 (pa_cons (pv 0) (pa_cons (pe_split (pv 2) pe_str) pa_nil))) po_none (po_some (pv 1)))))), ?_⟩
    refine ⟨_, rfl, _, rfl, ⟨_, rfl⟩, sPool, (" " : Str), rfl, rfl, by decide +kernel, by decide +kernel, fun p np => ?_⟩
    rw [pool_split, pool_map]
    refine ⟨d, l, p, poolN, rfl, hD.new np, upd_same, by decide +kernel, fun H2 p2 us K2 D2 n2 e2 hp => ?_⟩
    refine ⟨_, rfl, _, rfl, p2, _, rfl, SqL.of e2, fun p3 n3 => ?_⟩
    have e12 : cutV (us.map sV) none (some 12) = (us.take 12).map sV := cut_lo (ts := us) (i := 12) (by rw [hp.length_eq]; decide +kernel)
    rw [e12]
    have K3 := ((Kp.refl d H).new (o := .lst (poolN.map sV)) np).trans K2
    have nd : us.Nodup := hp.nodup_iff.mpr pool_nd
    refine q _ p3 (us.take 12) (K3.new n3) (D2.new n3) (K3.freeD D2 n3) upd_same ?_ ?_ fun z hz => pool_ok z (hp.mem_iff.mp (List.mem_of_mem_take hz))
    · rw [List.length_take, hp.length_eq]; decide +kernel
    · exact List.Nodup.sublist (List.take_sublist 12 us) nd
end
end Vf

set_option Elab.async false
set_option linter.all false
set_option maxRecDepth 100000
set_option maxHeartbeats 4000000
namespace Vf
open PySem PySem.Spec PyProof.Rows L2 TL
theorem low_W {z : List Nat} (h : ∀ c ∈ z, cW c = true) : Low z := fun c hc => by
  have h1 := h c hc
  unfold cW at h1
  have h2 : c ∈ sW.cps.toList := of_decide_eq_true h1
  have h3 : sW.cps.toList.all (fun c => decide (c < 1114112)) = true := by decide +kernel
  exact of_decide_eq_true (List.all_eq_true.mp h3 c h2)
theorem have_key {d l : Addr} {H : Hp} {G : Hp → Prop} {R : Prop} (k : ∀ Hx, Kp d H Hx → DI d l Hx → G Hx) (r : (∀ Hx, Kp d H Hx → DI d l Hx → G Hx) → R) : R := r k
/-! ### what a list of a comprehension holds, any values -/
def PvG (R : Hp → V → Prop) (d l : Addr) (H : Hp) (D : Addr) (i : Nat) (H' : Hp) : Prop := ∃ vs : List V, vs.length = i ∧ (∀ v ∈ vs, R H' v) ∧ Kp d H H' ∧ DI d l H' ∧ H' D = some (.lst vs)
def Stay (R : Hp → V → Prop) : Prop := ∀ H1 H2 v, TKeep H1 H2 → R H1 v → R H2 v
theorem PvG.start {R : Hp → V → Prop} {d l D : Addr} {H : Hp} (hD : DI d l H) (nD : H D = none) : PvG R d l H D 0 (upd H D (.lst [])) :=
  ⟨[], rfl, (fun _ h => nomatch h), (Kp.refl d H).new nD, hD.new nD, upd_same⟩
theorem PvG.dice {R : Hp → V → Prop} {d l D : Addr} {H H1 : Hp} {i : Nat} (p : PvG R d l H D i H1) : DI d l H1 := by
  obtain ⟨_, _, _, _, h, _⟩ := p
  exact h
theorem PvG.kp {R : Hp → V → Prop} {d l D : Addr} {H H1 : Hp} {i : Nat} (p : PvG R d l H D i H1) : Kp d H H1 := by
  obtain ⟨_, _, _, h, _, _⟩ := p
  exact h
theorem PvG.step {R : Hp → V → Prop} (st : Stay R) {d l D : Addr} {H H1 H2 : Hp} {i : Nat} {y : V} (hD : DI d l H) (nD : H D = none) (p : PvG R d l H D i H1) (hi : i < 100000) (K2 : Kp d H1 H2) (D2 : DI d l H2) (r : R H2 y) :
    ∃ acc, H2 D = some (.lst acc) ∧ acc.length < sizeLine ∧ PvG R d l H D (i + 1) (upd H2 D (.lst (acc ++ [y]))) := by
  obtain ⟨vs, hl, hR, K1, D1, e1⟩ := p
  have n1 := hD.nd nD
  have e2 := K2 _ _ n1.1 e1
  have t1 : TKeep H1 (upd H2 D (.lst (vs ++ [y]))) := (TKeep.kp K2 D1).trans (TKeep.mut e2)
  refine ⟨vs, e2, by rw [hl]; exact lt_size hi, vs ++ [y], by rw [List.length_append, hl]; rfl, fun v hv => ?_, (K1.trans K2).mut nD, D2.at n1.1 n1.2, upd_same⟩
  rcases List.mem_append.mp hv with h | h
  · exact st _ _ _ t1 (hR v h)
  · rw [List.mem_singleton.mp h]
    exact st _ _ _ (TKeep.mut e2) r
/-! ### rows of the scope -/
def SR (H : Hp) (v : V) : Prop := ∃ (p : Addr) (z : List Nat) (k : Nat), v = .ref p ∧ H p = some (.tup [sV z, .int (k : Int)]) ∧ OkN z ∧ k ≤ 3
theorem SR.stay : Stay SR := fun H1 H2 v t h => by
  obtain ⟨p, z, k, e, a, b⟩ := h
  exact ⟨p, z, k, e, t _ _ a, b⟩
def ScO (H : Hp) (d sc : Addr) : Prop := sc ≠ d ∧ ∃ vs, H sc = some (.lst vs) ∧ vs.length ≤ 100 ∧ ∀ v ∈ vs, SR H v
theorem ScO.keep {H H' : Hp} {d l sc : Addr} (h : ScO H d sc) (k : Kp d H H') (hD : DI d l H) : ScO H' d sc := by
  obtain ⟨n, vs, e, a, b⟩ := h
  exact ⟨n, vs, k _ _ n e, a, fun v hv => SR.stay _ _ _ (TKeep.kp k hD) (b v hv)⟩
def PoO (H : Hp) (d po : Addr) (zs : List (List Nat)) : Prop := po ≠ d ∧ H po = some (.lst (zs.map sV)) ∧ zs.length ≤ 100 ∧ ∀ z ∈ zs, OkN z
theorem PoO.keep {H H' : Hp} {d po : Addr} {zs : List (List Nat)} (h : PoO H d po zs) (k : Kp d H H') : PoO H' d po zs := ⟨h.1, k _ _ h.1 h.2.1, h.2.2⟩
/-! ### nodes drawn -/
def nB : Nat → Nat
  | 0 => 10
  | n + 1 => 1 + 3 * (2 + 2 * nB n)
theorem nB_le : ∀ n, nB n ≤ nB (n + 1)
  | 0 => by decide
  | n + 1 => by
    have := nB_le n
    show 1 + 3 * (2 + 2 * nB n) ≤ 1 + 3 * (2 + 2 * nB (n + 1))
    omega
def NO (n : Nat) (H : Hp) (v : V) : Prop := ∃ nd, NV H v nd ∧ depN nd ≤ n + 1 ∧ BN 100 nd ∧ (toksT (nd.tr .nil)).length ≤ nB n
theorem NO.stay {n : Nat} : Stay (NO n) := fun H1 H2 v t h => by
  obtain ⟨nd, a, b⟩ := h
  exact ⟨nd, a.keep t, b⟩
def TO (n m : Nat) (H : Hp) (v : V) : Prop := ∃ t, TV H v t ∧ depT t ≤ n + 1 ∧ BT 100 t ∧ (toksT t).length ≤ m * nB n ∧ lenT t ≤ m
/-- nodes side by side -/
theorem tr_of {n : Nat} {H : Hp} : ∀ {vs : List V}, (∀ v ∈ vs, NO n H v) → ∃ t, RepT H t vs ∧ depT t ≤ n + 1 ∧ BT 100 t ∧ (toksT t).length ≤ vs.length * nB n
  | [], _ => ⟨.nil, by simp only [RepT], by simp only [depT]; omega, trivial, by simp only [toksT, List.length_nil]; omega⟩
  | v :: vs, h => by
    obtain ⟨r, hr, d1, b1, l1⟩ := tr_of (vs := vs) fun u hu => h u (List.mem_cons_of_mem _ hu)
    obtain ⟨nd, hv, d2, b2, l2⟩ := h v List.mem_cons_self
    refine ⟨nd.tr r, ?_, by rw [depT_tr]; omega, ?_, ?_⟩
    · cases nd with
      | word z =>
        obtain ⟨p, rfl, e⟩ := hv
        simp only [Nd.tr, RepT]
        exact ⟨p, vs, rfl, e, hr⟩
      | call nm a =>
        obtain ⟨p, q, us, rfl, e, e2, hA⟩ := hv
        simp only [Nd.tr, RepT]
        exact ⟨p, q, us, vs, rfl, e, e2, hA, hr⟩
    · cases nd with
      | word z => exact ⟨b2, b1⟩
      | call nm a => exact ⟨b2.1, b2.2, b1⟩
    · rw [toksT_tr, List.length_cons, Nat.succ_mul]
      omega
section
variable {P : Program} {w : World} {K : PySem.W.Frag} {mg : Str → Option Value} {base : Heap}
def spNode (n : Nat) : Sp := fun vs H Q _ => ∃ (d l sc po : Addr) (zs : List (List Nat)) (k : Nat) (odd : Int), vs = [.ref d, .ref sc, .ref po, .int (k : Int), .int odd] ∧ k < n ∧ DI d l H ∧ ScO H d sc ∧ PoO H d po zs ∧ 0 ≤ odd ∧ odd ≤ 1000 ∧ ∀ H' v, Kp d H H' → DI d l H' → NO k H' v → Q v H'
def spTree (n : Nat) : Sp := fun vs H Q _ => ∃ (d l sc po : Addr) (zs : List (List Nat)) (m k : Nat) (odd : Int), vs = [.ref d, .int (m : Int), .ref sc, .ref po, .int (k : Int), .int odd] ∧ k < n ∧ m ≤ 100 ∧ DI d l H ∧ ScO H d sc ∧ PoO H d po zs ∧ 0 ≤ odd ∧ odd ≤ 1000 ∧ ∀ H' v, Kp d H H' → DI d l H' → TO k m H' v → Q v H'
theorem ok_treeG (T : Txt K mg) (n : Nat) (G_law_node : FnOk P w K mg base CX0 (2 * n + 5) T.a_law_node T.d_law_node ["_law_d", "_law_scope", "_law_pool", "_law_deep_here", "_law_odd"] (spNode n)) :
    FnOk P w K mg base CX0 (2 * n + 6) T.a_law_tree T.d_law_tree ["_law_d", "_law_many", "_law_scope", "_law_pool", "_law_deep_here", "_law_odd"] (spTree n) := by
  refine T.D_law_tree.F.ok (k := 2 * n + 5) sc_law_tree (fun vs H Q E h => ?_) (fun cdv A outer s H vs Q E hr h => ?_)
  · obtain ⟨d, l, sc, po, zs, m, k, odd, rfl, _⟩ := h
    rfl
  · obtain ⟨d, l, sc, po, zs, m, k, odd, rfl, hk, hm, hD, hsc, hpo, o0, o1, q⟩ := h
    refine ⟨_, (pss_one (ps_ret (pe_callTy call_tuple_of (by rfl) T.n_tuple (by decide +kernel) (pa_cons (pe_lc (own := [("_law_k", 6)]) (g := gName 6) (tt := tYes) rfl sc_law_tree.nd (pi_range1 (by rfl) T.n_range (pa_cons (pv 1) pa_nil)) (blkOk_by (own := [("_law_k", 6)]) (N := ["_law_d", "_law_many", "_law_scope", "_law_pool", "_law_deep_here", "_law_odd", "_law_k"]) (sc := defScope s_law_tree) (by decide +kernel)) (fun _ _ _ _ _ => (pg_name (i := 6) sc_law_tree.nd rfl (.inl rfl))) (fun _ _ _ _ _ => pts_nil) (fun _ _ _ _ _ => (pe_call G_law_node hr (by rfl) T.D_law_node.G T.D_law_node.F.kp T.D_law_node.B .nil pass0 (pa_cons (pv 0) (pa_cons (pv 2) (pa_cons (pv 3) (pa_cons (pv 4) (pa_cons (pv 5) pa_nil)))))))) pa_nil)))), ?_⟩
    refine ⟨_, rfl, _, rfl, by omega, by omega, fun D nD => ?_⟩
    refine lc_range (lo := 0) (n := ((m : Int)).toNat) (PvG (NO k) d l H D) (PvG.start hD nD) (fun i H1 hi p => ⟨rfl, ?_⟩) (fun H1 p => ?_)
    · exact ⟨_, rfl, _, rfl, _, rfl, _, rfl, _, rfl, d, l, sc, po, zs, k, odd, rfl, hk, p.dice, hsc.keep p.kp hD, hpo.keep p.kp, o0, o1, fun H2 v k2 d2 hv => p.step NO.stay hD nD (by omega) k2 d2 hv⟩
    · obtain ⟨vs, hl, hR, K1, D1, e1⟩ := p
      refine ⟨D, vs, rfl, .inl ⟨SqL.of e1, fun c nc => ?_⟩⟩
      have tk := TKeep.new (o := .tup vs) nc
      obtain ⟨t, ht, d1, b1, l1⟩ := tr_of fun v hv => NO.stay _ _ _ tk (hR v hv)
      have hl2 : vs.length = m := by omega
      refine q _ (.ref c) (K1.new nc) (D1.new nc) ⟨t, ⟨c, vs, rfl, upd_same, ht⟩, d1, b1, by rw [← hl2]; exact l1, by rw [← ht.lenT]; omega⟩
theorem repA_app {H : Hp} {a : Ar} {vs : List V} {v : V} {t : Tr} (h : RepA H a vs) (k : TV H v t) : RepA H (appA a (.cons t .nil)) (vs ++ [v]) := by
  obtain ⟨p, us, rfl, e, r⟩ := k
  exact RepA.app h (by simp only [RepA]; exact ⟨p, us, [], rfl, e, r, rfl⟩)
theorem BA_app {L : Nat} : ∀ {a : Ar} {t : Tr}, BA L a → BT L t → BA L (appA a (.cons t .nil))
  | .nil, _, _, h => ⟨h, trivial⟩
  | .cons _ r, _, h, k => ⟨h.1, BA_app h.2 k⟩
/-- the arguments so far -/
def AO (n i : Nat) (H : Hp) (vs : List V) : Prop := ∃ a, RepA H a vs ∧ depA a ≤ n + 1 ∧ BA 100 a ∧ (toksA a).length + 1 ≤ 1 + i * (2 + 2 * nB (n - 1) * (if n = 0 then 0 else 1) + (if n = 0 then 1 else 0))
theorem AO.keep {n i : Nat} {H H' : Hp} {vs : List V} (h : AO n i H vs) (t : TKeep H H') : AO n i H' vs := by
  obtain ⟨a, r, b⟩ := h
  exact ⟨a, r.keep t, b⟩
theorem AO.more {n i : Nat} {H : Hp} {vs : List V} {v : V} {t : Tr} (h : AO n i H vs) (k : TV H v t) (d : depT t ≤ n) (b : BT 100 t) (l : (toksT t).length ≤ 2 * nB (n - 1) * (if n = 0 then 0 else 1) + (if n = 0 then 1 else 0)) : AO n (i + 1) H (vs ++ [v]) := by
  obtain ⟨a, r, d1, b1, l1⟩ := h
  refine ⟨_, repA_app r k, ?_, BA_app b1 b, ?_⟩
  · rw [depA_app]; simp only [depA]; omega
  · rw [toksA_app, List.length_append, Nat.succ_mul]
    simp only [toksA, List.length_cons, List.length_append, List.length_nil]
    omega
theorem AO.fin {n k : Nat} (h : k ≤ 3) : 1 + k * (2 + 2 * nB (n - 1) * (if n = 0 then 0 else 1) + (if n = 0 then 1 else 0)) ≤ nB n := by
  cases n with
  | zero =>
    show 1 + k * (2 + 2 * nB 0 * 0 + 1) ≤ 10
    omega
  | succ n =>
    show 1 + k * (2 + 2 * nB n * 1 + 0) ≤ 1 + 3 * (2 + 2 * nB n)
    have : k * (2 + 2 * nB n * 1 + 0) ≤ 3 * (2 + 2 * nB n * 1 + 0) := Nat.mul_le_mul_right _ h
    omega
theorem ok_node (T : Txt K mg) : ∀ n : Nat, FnOk P w K mg base CX0 (2 * n + 5) T.a_law_node T.d_law_node ["_law_d", "_law_scope", "_law_pool", "_law_deep_here", "_law_odd"] (spNode n)
  | 0 => by
    refine T.D_law_node.F.ok sc_law_node (fun vs H Q E h => ?_) (fun cdv A outer s H vs Q E hr h => ?_)
    · obtain ⟨d, l, sc, po, zs, k, odd, rfl, _⟩ := h
      rfl
    · obtain ⟨d, l, sc, po, zs, k, odd, rfl, hk, _⟩ := h
      exact absurd hk (Nat.not_lt_zero _)
  | n + 1 => by
    have G_law_draw : FnOk P w K mg base CX0 1 T.a_law_draw T.d_law_draw ["_law_d", "_law_many"] spDraw := ok_draw T
    have G_law_pick : FnOk P w K mg base CX0 2 T.a_law_pick T.d_law_pick ["_law_d", "_law_row"] (spPick K) := ok_pick T
    have G_law_word : FnOk P w K mg base CX0 3 T.a_law_word T.d_law_word ["_law_d", "_law_low", "_law_high"] spWord := ok_word T
    have G_law_built : FnOk P w K mg base CX0 1 T.a_law_built T.d_law_built [] spBuilt := ok_built T
    have G_law_tree : FnOk P w K mg base CX0 (2 * n + 6) T.a_law_tree T.d_law_tree ["_law_d", "_law_many", "_law_scope", "_law_pool", "_law_deep_here", "_law_odd"] (spTree n) := ok_treeG T n (ok_node T n)
    refine T.D_law_node.F.ok (k := 2 * n + 6) sc_law_node (fun vs H Q E h => ?_) (fun cdv A outer s H vs Q E hr h => ?_)
    · obtain ⟨d, l, sc, po, zs, k, odd, rfl, _⟩ := h
      rfl
    · obtain ⟨d, l, sc, po, zs, k, odd, rfl, hk, hD, hsc, hpo, o0, o1, q⟩ := h
      refine ⟨_, (pss_cons (ps_set (i := 5) sc_law_node.nd rfl (.inl rfl) (pe_call G_law_draw (hr.mono (by omega)) (by rfl) T.D_law_draw.G T.D_law_draw.F.kp T.D_law_draw.B .nil pass0 (pa_cons (pv 0) (pa_cons pe_int pa_nil))))
      (Evl.pss_cut (ps_if (PW.pt (pw_and (pt_cmpR op_gt (pv 4) pe_int (nomark _)) (pw_and1 (pt_cmpR op_eq (pe_call G_law_draw (hr.mono (by omega)) (by rfl) T.D_law_draw.G T.D_law_draw.F.kp T.D_law_draw.B .nil pass0 (pa_cons (pv 0) (pa_cons (pv 4) pa_nil))) pe_int (nomark _))))) (pss_cons (ps_set (i := 6) sc_law_node.nd rfl (.inl rfl) (pe_call G_law_pick (hr.mono (by omega)) (by rfl) T.D_law_pick.G T.D_law_pick.F.kp T.D_law_pick.B .nil pass0 (pa_cons (pv 0) (pa_cons (pe_op op_cat (pv 2) (pe_lst (pa_cons pe_str pa_nil))) pa_nil))))
      (pss_one (ps_set (i := 7) sc_law_node.nd rfl (.inl rfl) (pe_call G_law_draw (hr.mono (by omega)) (by rfl) T.D_law_draw.G T.D_law_draw.F.kp T.D_law_draw.B .nil pass0 (pa_cons (pv 0) (pa_cons pe_int pa_nil)))))) (pss_one (ps_if (PW.pt (pw_or (pt_cmpR op_lt (pv 5) pe_int (nomark _)) (pw_or1 (PW.pt (pw_and (pt_cmpR op_lt (pv 5) pe_int (nomark _)) (pw_and1 (pt_not (pt_truth (pv 1) (by intro _; rfl))))))))) (pss_one (ps_ret (pe_tup (pa_cons pe_str (pa_cons (pe_call G_law_word (hr.mono (by omega)) (by rfl) T.D_law_word.G T.D_law_word.F.kp T.D_law_word.B .nil pass0 (pa_cons (pv 0) (pa_cons pe_int (pa_cons pe_int pa_nil)))) pa_nil))))) (pss_one (ps_if (pt_cmpR op_lt (pv 5) pe_int (nomark _)) (pss_one (ps_asg (pe_call G_law_pick (hr.mono (by omega)) (by rfl) T.D_law_pick.G T.D_law_pick.F.kp T.D_law_pick.B .nil pass0 (pa_cons (pv 0) (pa_cons (pv 1) pa_nil))) (pg_tup (by rfl) (pgs_cons (pg_name (i := 6) sc_law_node.nd rfl (.inl rfl)) (pgs_cons (pg_name (i := 7) sc_law_node.nd rfl (.inl rfl)) pgs_nil))))) (pss_cons (ps_set (i := 6) sc_law_node.nd rfl (.inl rfl) (pe_call G_law_pick (hr.mono (by omega)) (by rfl) T.D_law_pick.G T.D_law_pick.F.kp T.D_law_pick.B .nil pass0 (pa_cons (pv 0) (pa_cons (pe_call0 G_law_built (hr.mono (by omega)) (by rfl) T.D_law_built.G T.D_law_built.F.kp T.D_law_built.B .nil pass0) pa_nil))))
      (pss_one (ps_set (i := 7) sc_law_node.nd rfl (.inl rfl) (pe_call G_law_draw (hr.mono (by omega)) (by rfl) T.D_law_draw.G T.D_law_draw.F.kp T.D_law_draw.B .nil pass0 (pa_cons (pv 0) (pa_cons pe_int pa_nil)))))))))))
      (pss_cons (ps_set (i := 8) sc_law_node.nd rfl (.inl rfl) (pe_lst pa_nil))
      (pss_cons (ps_for PassesOwn.never rfl (pi_range1 (by rfl) T.n_range (pa_cons (pv 7) pa_nil)) (pg_name (i := 9) sc_law_node.nd rfl (.inl rfl)) (pss_one (ps_if (pt_cmpR op_gt (pv 3) pe_int (nomark _)) (pss_one (ps_expr (pe_bm PySem.F.plainAttrs_list PySem.F.slot_list_append PySem.F.type_list_append mt_append (pv 8) (pa_cons (pe_call G_law_tree (hr.mono (by omega)) (by rfl) T.D_law_tree.G T.D_law_tree.F.kp T.D_law_tree.B .nil pass0 (pa_cons (pv 0) (pa_cons (pe_call G_law_draw (hr.mono (by omega)) (by rfl) T.D_law_draw.G T.D_law_draw.F.kp T.D_law_draw.B .nil pass0 (pa_cons (pv 0) (pa_cons pe_int pa_nil))) (pa_cons (pv 1) (pa_cons (pv 2) (pa_cons (pe_op op_sub (pv 3) pe_int) (pa_cons (pv 4) pa_nil))))))) pa_nil)))) (pss_one (ps_expr (pe_bm PySem.F.plainAttrs_list PySem.F.slot_list_append PySem.F.type_list_append mt_append (pv 8) (pa_cons (pe_tup (pa_cons (pe_tup (pa_cons pe_str (pa_cons (pe_call G_law_word (hr.mono (by omega)) (by rfl) T.D_law_word.G T.D_law_word.F.kp T.D_law_word.B .nil pass0 (pa_cons (pv 0) (pa_cons pe_int (pa_cons pe_int pa_nil)))) pa_nil))) pa_nil)) pa_nil)))))))
      (pss_one (ps_ret (pe_tup (pa_cons pe_str (pa_cons (pv 6) (pa_cons (pe_callTy call_tuple_of (by rfl) T.n_tuple (by decide +kernel) (pa_cons (pv 8) pa_nil)) pa_nil)))))))))), ?_⟩
      refine ⟨_, rfl, d, l, _, rfl, hD, by decide, fun H1 kind K1 D1 _ _ => ?_⟩
      -- a word
      have wordQ : ∀ (H3 : Hp) (z : List Nat) (p : Addr), Kp d H H3 → DI d l H3 → H3 p = none → z.length ≤ 3 → (∀ c ∈ z, cW c = true) → Q (.ref p) (upd H3 p (.tup [V.str "word", sV z])) := by
        intro H3 z p K3 D3 np zl hz
        refine q _ _ (K3.new np) (D3.new np) ⟨.word z, ⟨p, rfl, upd_same⟩, by show 0 ≤ k + 1; omega, ⟨by omega, low_W hz⟩, ?_⟩
        show 1 ≤ nB k
        cases k with
        | zero => decide
        | succ k => show 1 ≤ 1 + 3 * (2 + 2 * nB k); omega
      refine ⟨fun σ' H' => ∃ (z : List Nat) (m : Nat), σ' = [some (.ref d), some (.ref sc), some (.ref po), some (.int (k : Int)), some (.int odd), some (.int kind), some (sV z), some (.int (m : Int)), none, none] ∧ OkN z ∧ m ≤ 3 ∧ Kp d H H' ∧ DI d l H', ?_, ?_⟩
      · refine have_key (d := d) (l := l) (H := H) (G := ?G) ?k ?r
        case r =>
          intro key
          refine ⟨_, rfl, _, _, rfl, rfl, decide (0 < odd), rfl, ?_⟩
          by_cases h0 : 0 < odd
          · rw [decide_eq_true h0]
            refine ⟨_, rfl, _, rfl, d, l, odd, rfl, D1, by omega, fun H2 r K2 D2 _ _ => ⟨rfl, decide (r = 1), ?_, ?_⟩⟩
            · exact congrArg V.bl (decide_eq_decide.mpr ⟨fun e => V.int.inj e, fun e => by rw [e]⟩)
            have K12 := K1.trans K2
            by_cases h1 : r = 1
            · rw [decide_eq_true h1]
              have hpo2 := hpo.keep K12
              refine ⟨_, rfl, _, rfl, by show 1 ≤ sizeLine; decide, fun p np => ?_⟩
              have e2 := same_upd (o := .lst [V.str "let"]) (Same.refl H2) np _ _ hpo2.2.1
              refine ⟨po, p, _, _, rfl, rfl, e2, upd_same, by rw [List.length_map]; exact Nat.le_trans (show _ ≤ 1000 by have := hpo2.2.2.1; show zs.length + 1 ≤ 1000; omega) (by decide), fun p2 np2 => ?_⟩
              have D3 := (D2.new (o := .lst [V.str "let"]) np)
              have D4 := D3.new (o := .lst (zs.map sV ++ [V.str "let"])) np2
              have K4 := (K12.new (o := .lst [V.str "let"]) np).new (o := .lst (zs.map sV ++ [V.str "let"])) np2
              refine ⟨d, l, _, _, rfl, D4, .inl ⟨p2, rfl, (D3.nd np2).1, SqL.of upd_same⟩, by rw [List.length_append]; show 0 < _ + 1; omega, by rw [List.length_append, List.length_map]; have := hpo2.2.2.1; show zs.length + 1 ≤ 1000; omega, fun H5 v K5 D5 hv => ?_⟩
              obtain ⟨z, rfl, hz⟩ : ∃ z, v = sV z ∧ OkN z := by
                rcases List.mem_append.mp hv with h | h
                · obtain ⟨z, hz, rfl⟩ := List.mem_map.mp h
                  exact ⟨z, rfl, hpo2.2.2.2 z hz⟩
                · rw [List.mem_singleton.mp h, let_sV]
                  exact ⟨letN, rfl, let_ok⟩
              refine ⟨_, rfl, d, l, _, rfl, D5, by decide, fun H6 m K6 D6 _ m2 => ?_⟩
              have m3 := m2 (by decide)
              refine ⟨z, m.toNat, ?_, hz, by omega, (K4.trans K5).trans K6, D6⟩
              rw [show ((m.toNat : Nat) : Int) = m from by omega]
              rfl
            · rw [decide_eq_false h1]
              exact key H2 K12 D2
          · rw [decide_eq_false h0]
            exact key H1 K1 D1
        case k =>
          intro Hx Kx Dx
          have hscx := hsc.keep Kx hD
          obtain ⟨nsc, vs, evs, vl, vr⟩ := hscx
          refine ⟨_, rfl, _, _, rfl, rfl, decide (kind < 3), rfl, ?_⟩
          by_cases h3 : kind < 3
          · rw [decide_eq_true h3]
            refine ⟨_, rfl, d, l, _, _, rfl, Dx, by decide, by decide, by decide, fun H3 z K3 D3 l1 l2 hz => ⟨by show 2 ≤ sizeLine; decide, fun p np => ?_⟩⟩
            exact wordQ H3 z p (Kx.trans K3) D3 np (by omega) hz
          rw [decide_eq_false h3]
          refine ⟨_, rfl, _, _, rfl, rfl, decide (kind < 6), rfl, ?_⟩
          by_cases h6 : kind < 6
          · rw [decide_eq_true h6]
            refine ⟨_, rfl, !vs.isEmpty, .inl ⟨vs, SqL.of evs, rfl⟩, ?_⟩
            cases vs with
            | nil =>
              refine ⟨_, rfl, d, l, _, _, rfl, Dx, by decide, by decide, by decide, fun H3 z K3 D3 l1 l2 hz => ⟨by show 2 ≤ sizeLine; decide, fun p np => ?_⟩⟩
              exact wordQ H3 z p (Kx.trans K3) D3 np (by omega) hz
            | cons v0 vs =>
              refine ⟨_, rfl, _, _, rfl, rfl, true, bl_of (decide_eq_true h6), ?_⟩
              refine ⟨_, rfl, _, rfl, d, l, _, _, rfl, Dx, .inl ⟨sc, rfl, nsc, SqL.of evs⟩, by rw [List.length_cons]; omega, by omega, fun H3 v K3 D3 hv => ?_⟩
              obtain ⟨p, z, m, rfl, ep, hz, hm⟩ := SR.stay _ _ _ (TKeep.kp K3 Dx) (vr v hv)
              refine ⟨p, _, rfl, SqT.of ep, rfl, ?_⟩
              exact ⟨_, _, rfl, _, _, rfl, rfl, z, m, rfl, hz, hm, Kx.trans K3, D3⟩
          · rw [decide_eq_false h6]
            refine ⟨_, rfl, _, _, rfl, rfl, false, bl_of (decide_eq_false h6), ?_⟩
            refine ⟨_, rfl, rfl, fun H3 p s3 np e3 => ?_⟩
            have D3 := Dx.keep s3
            have K3 := Kx.trans (fun b o _ e => s3 b o e : Kp d Hx H3)
            have npd : p ≠ d := (Dx.nd np).1
            refine ⟨d, l, _, _, rfl, D3, .inl ⟨p, rfl, npd, SqL.of e3⟩, by rw [List.length_map]; decide +kernel, by rw [List.length_map]; decide +kernel, fun H4 v K4 D4 hv => ?_⟩
            obtain ⟨z, hz, rfl⟩ := List.mem_map.mp hv
            refine ⟨_, rfl, d, l, _, rfl, D4, by decide, fun H6 m K6 D6 _ m2 => ?_⟩
            have m3 := m2 (by decide)
            refine ⟨z, m.toNat, ?_, bl_ok z hz, by omega, (K3.trans K4).trans K6, D6⟩
            rw [show ((m.toNat : Nat) : Int) = m from by omega]
            rfl
      · rintro σ' H2 ⟨z, m, rfl, hz, hm, K2, D2⟩
        refine ⟨by show 0 ≤ sizeLine; decide, fun pl npl => ?_⟩
        have nplH := K2.freeD D2 npl
        have ndp := hD.nd nplH
        refine ⟨_, rfl, _, rfl, by omega, by omega, ?_⟩
        refine for_range (lo := 0) (n := ((m : Int)).toNat) (fun i σ' H' => ∃ (vs : List V) (x9 : Option V), σ' = [some (.ref d), some (.ref sc), some (.ref po), some (.int (k : Int)), some (.int odd), some (.int kind), some (sV z), some (.int (m : Int)), some (.ref pl), x9] ∧ Kp d H H' ∧ DI d l H' ∧ H' pl = some (.lst vs) ∧ vs.length = i ∧ AO k i H' vs)
          ⟨[], none, rfl, K2.new npl, D2.new npl, upd_same, rfl, ⟨.nil, by simp only [RepA], by simp only [depA]; omega, trivial, by simp only [toksA, List.length_nil]; omega⟩⟩ ?_ ?_
        · rintro i σ' H3 hi ⟨vs, x9, rfl, K3, D3, e3, vl, ao⟩
          refine ⟨_, rfl, _, _, rfl, rfl, decide (0 < k), ?_, ?_⟩
          · exact congrArg V.bl (decide_eq_decide.mpr (by omega))
          -- one more argument
          have put : ∀ (H4 : Hp) (v : V) (t : Tr), Kp d H3 H4 → DI d l H4 → TV H4 v t → depT t ≤ k → BT 100 t → (toksT t).length ≤ 2 * nB (k - 1) * (if k = 0 then 0 else 1) + (if k = 0 then 1 else 0) → ∃ (l_1 : Addr) (xs : List V) (y : V), V.ref pl = .ref l_1 ∧ [v] = [y] ∧ H4 l_1 = some (.lst xs) ∧ xs.length < sizeLine ∧
              ∃ (vs : List V) (x9 : Option V), [some (V.ref d), some (.ref sc), some (.ref po), some (.int (k : Int)), some (.int odd), some (.int kind), some (sV z), some (.int (m : Int)), some (.ref pl), some (.int (0 + (i : Int)))] = [some (V.ref d), some (.ref sc), some (.ref po), some (.int (k : Int)), some (.int odd), some (.int kind), some (sV z), some (.int (m : Int)), some (.ref pl), x9] ∧ Kp d H (upd H4 l_1 (.lst (xs ++ [y]))) ∧ DI d l (upd H4 l_1 (.lst (xs ++ [y]))) ∧ (upd H4 l_1 (.lst (xs ++ [y]))) pl = some (.lst vs) ∧ vs.length = i + 1 ∧ AO k (i + 1) (upd H4 l_1 (.lst (xs ++ [y]))) vs := by
            intro H4 v t K4 D4 hv dt bt lt
            have e4 := K4 _ _ ndp.1 e3
            have tkm := TKeep.mut (o := .lst (vs ++ [v])) e4
            exact ⟨pl, vs, v, rfl, rfl, e4, lt_size (by omega), vs ++ [v], _, rfl, (K3.trans K4).mut nplH, D4.at ndp.1 ndp.2, upd_same, by rw [List.length_append, vl]; rfl, ((ao.keep (TKeep.kp K4 D3)).more hv dt bt lt).keep tkm⟩
          cases k with
          | zero =>
            refine ⟨.ref pl, rfl, .inl ⟨rfl, _, SqL.of e3⟩, ?_⟩
            refine ⟨_, rfl, d, l, _, _, rfl, D3, by decide, by decide, by decide, fun H4 z2 K4 D4 l1 l2 hz2 => ⟨by show 2 ≤ sizeLine; decide, fun p np => ⟨by show 1 ≤ sizeLine; decide, fun p2 np2 => ?_⟩⟩⟩
            have D5 := (D4.new (o := .tup [V.str "word", sV z2]) np)
            have K5 := (K4.new (o := .tup [V.str "word", sV z2]) np).new (o := .tup [V.ref p]) np2
            have e5 : upd (upd H4 p (.tup [V.str "word", sV z2])) p2 (.tup [V.ref p]) p = some (.tup [V.str "word", sV z2]) := by
              rw [upd_ne (ne_of_none upd_same np2)]; exact upd_same
            exact put _ (.ref p2) (.word z2 .nil) K5 (D5.new np2) ⟨p2, [.ref p], rfl, upd_same, by simp only [RepT]; exact ⟨p, [], rfl, e5, rfl⟩⟩ (by simp only [depT]; omega) ⟨⟨by omega, low_W hz2⟩, trivial⟩ (by simp only [toksT, List.length_cons, List.length_nil]; decide)
          | succ k =>
            rw [decide_eq_true (Nat.succ_pos k)]
            refine ⟨.ref pl, rfl, .inl ⟨rfl, _, SqL.of e3⟩, ?_⟩
            refine ⟨_, rfl, _, rfl, d, l, _, rfl, D3, by decide, fun H4 r K4 D4 _ r2 => ?_⟩
            have r3 := r2 (by decide)
            obtain ⟨j, rfl, hj⟩ : ∃ j : Nat, r = (j : Int) ∧ j ≤ 2 := ⟨r.toNat, by omega, by omega⟩
            have K34 := K3.trans K4
            refine ⟨_, rfl, _, rfl, _, rfl, _, _, rfl, rfl, _, rfl, d, l, sc, po, zs, j, k, odd, ?_, by omega, by omega, D4, hsc.keep K34 hD, hpo.keep K34, o0, o1, fun H5 v K5 D5 ⟨t, hv, dt, bt, lt, _⟩ => ?_⟩
            · show [V.ref d, V.int (j : Int), V.ref sc, V.ref po, V.int (((k + 1 : Nat) : Int) - 1), V.int odd] = _
              rw [show (((k + 1 : Nat) : Int) - 1) = (k : Int) from by omega]
            · refine put H5 v t (K4.trans K5) D5 hv dt bt ?_
              have : j * nB k ≤ 2 * nB k := Nat.mul_le_mul_right _ hj
              show (toksT t).length ≤ 2 * nB k * 1 + 0
              omega
        · rintro σ' H3 ⟨vs, x9, rfl, K3, D3, e3, vl, ao⟩
          refine ⟨_, rfl, _, rfl, pl, vs, rfl, .inl ⟨SqL.of e3, fun c nc => ⟨by show 3 ≤ sizeLine; decide, fun p np => ?_⟩⟩⟩
          obtain ⟨a, hA, da, ba, la⟩ := ao
          have tk1 := TKeep.new (o := .tup vs) nc
          have tk2 := TKeep.new (o := .tup [V.str "call", sV z, .ref c]) np
          have ec : upd (upd H3 c (.tup vs)) p (.tup [V.str "call", sV z, .ref c]) c = some (.tup vs) := tk2 _ _ upd_same
          refine q _ (.ref p) ((K3.new nc).new np) ((D3.new nc).new np) ⟨.call z a, ⟨p, c, vs, rfl, upd_same, ec, (hA.keep tk1).keep tk2⟩, da, ⟨hz, ba⟩, ?_⟩
          have vm : vs.length = m := by omega
          have f := AO.fin (n := k) (k := m) hm
          simp only [Nd.tr, toksT, List.length_cons, List.length_append, List.length_nil]
          have : ((m : Int)).toNat = m := by omega
          rw [this] at la
          omega
end
end Vf

set_option Elab.async false
set_option linter.all false
set_option maxRecDepth 100000
set_option maxHeartbeats 4000000
namespace Vf
open PySem PySem.Spec PyProof.Rows L2 TL
/-! ### words of a definition -/
def WN (H : Hp) (v : V) : Prop := ∃ nd, NV H v nd ∧ depN nd = 0 ∧ BN 100 nd ∧ (toksT (nd.tr .nil)).length ≤ 1
theorem WN.stay : Stay WN := fun H1 H2 v t h => by
  obtain ⟨nd, a, b⟩ := h
  exact ⟨nd, a.keep t, b⟩
theorem wn_word {H : Hp} {p : Addr} {z : List Nat} (e : H p = some (.tup [V.str "word", sV z])) (h : OkN z) : WN H (.ref p) := ⟨.word z, ⟨p, rfl, e⟩, rfl, h, by show 1 ≤ 1; decide⟩
theorem tr_of2 {H : Hp} : ∀ {vs : List V}, (∀ v ∈ vs, WN H v) → ∃ t, RepT H t vs ∧ depT t = 0 ∧ BT 100 t ∧ (toksT t).length ≤ vs.length
  | [], _ => ⟨.nil, by simp only [RepT], by simp only [depT], trivial, by simp only [toksT, List.length_nil]; omega⟩
  | v :: vs, h => by
    obtain ⟨r, hr, d1, b1, l1⟩ := tr_of2 (vs := vs) fun u hu => h u (List.mem_cons_of_mem _ hu)
    obtain ⟨nd, hv, d2, b2, l2⟩ := h v List.mem_cons_self
    refine ⟨nd.tr r, ?_, by rw [depT_tr]; omega, ?_, ?_⟩
    · cases nd with
      | word z =>
        obtain ⟨p, rfl, e⟩ := hv
        simp only [Nd.tr, RepT]
        exact ⟨p, vs, rfl, e, hr⟩
      | call nm a =>
        obtain ⟨p, q, us, rfl, e, e2, hA⟩ := hv
        simp only [Nd.tr, RepT]
        exact ⟨p, q, us, vs, rfl, e, e2, hA, hr⟩
    · cases nd with
      | word z => exact ⟨b2, b1⟩
      | call nm a => exact ⟨b2.1, b2.2, b1⟩
    · rw [toksT_tr, List.length_cons]; omega
/-- arguments of a call as a value -/
def AV (H : Hp) (v : V) : Prop := ∃ (q : Addr) (vs : List V) (a : Ar), v = .ref q ∧ H q = some (.tup vs) ∧ RepA H a vs ∧ depA a ≤ 4 ∧ BA 100 a ∧ (toksA a).length ≤ 2000
/-- a body -/
def BV (H : Hp) (v : V) : Prop := ∃ t, TV H v t ∧ depT t ≤ 3 ∧ BT 100 t ∧ (toksT t).length ≤ 1300
theorem BV.stay : Stay BV := fun H1 H2 v t h => by
  obtain ⟨u, a, b⟩ := h
  exact ⟨u, a.keep t, b⟩
theorem av_two {H : Hp} {p c : Addr} {vs : List V} {b : V} (ep : H p = some (.tup [.ref c, b])) (ec : H c = some (.tup vs)) (hw : ∀ v ∈ vs, WN H v) (vl : vs.length ≤ 20) (hb : BV H b) : AV H (.ref p) := by
  obtain ⟨t, ht, d1, b1, l1⟩ := tr_of2 hw
  obtain ⟨u, ⟨q, us, rfl, eq, hu⟩, d2, b2, l2⟩ := hb
  refine ⟨p, _, .cons t (.cons u .nil), rfl, ep, ?_, ?_, ⟨b1, b2, trivial⟩, ?_⟩
  · simp only [RepA]
    exact ⟨c, vs, [.ref q], rfl, ec, ht, q, us, [], rfl, eq, hu, rfl⟩
  · simp only [depA]; omega
  · simp only [toksA, List.length_cons, List.length_append, List.length_nil]; omega
theorem cut_mid {xs : List V} {a b : Nat} : (∀ v ∈ cutV xs (some (a : Int)) (some (b : Int)), v ∈ xs) ∧ (cutV xs (some (a : Int)) (some (b : Int))).length ≤ b - a := by
  unfold cutV
  rw [HT.sIx_nat, HT.sIx_nat]
  refine ⟨fun v hv => List.mem_of_mem_drop (List.mem_of_mem_take hv), ?_⟩
  rw [List.length_take]
  omega
theorem str_ok (s : Str) (h : okB s.cps.toList = true) : ∃ z, V.str s = sV z ∧ OkN z := ⟨s.cps.toList, by show V.str s = V.str (mkS s.cps.toList); rw [mkS_of], ok_of h⟩
/-- behind the one change -/
def BM (d l nh sc : Addr) (b : V) (kind : Int) (j : Nat) (H : Hp) : L2.St → Hp → Prop := fun σ' H' => ∃ (W : Addr) (vs : List V), σ' = [some (.ref d), some (.ref nh), some b, some (.ref sc), some (.int kind), some (.ref W), some (.int (j : Int)), none] ∧ H' W = some (.lst vs) ∧ (∀ v ∈ vs, WN H' v) ∧ vs.length ≤ 12 ∧ Kp d H H' ∧ DI d l H' ∧ BV H' b
section
variable {P : Program} {w : World} {K : PySem.W.Frag} {mg : Str → Option Value} {base : Heap}
def spBent (K : PySem.W.Frag) : Sp := fun vs H Q _ => ∃ (d l nh sc : Addr) (b : V) (us : List (List Nat)), vs = [.ref d, .ref nh, b, .ref sc] ∧ DI d l H ∧ nh ≠ d ∧ H nh = some (.lst (us.map sV)) ∧ 1 ≤ us.length ∧ us.length ≤ 6 ∧ (∀ z ∈ us, OkN z) ∧ BV H b ∧ ScO H d sc ∧
  ∀ H' v, Kp d H H' → DI d l H' → AV H' v → Q v H'
theorem ok_bent (T : Txt K mg) : FnOk P w K mg base CX0 3 T.a_law_bent T.d_law_bent ["_law_d", "_law_names_here", "_law_body", "_law_scope"] (spBent K) := by
  have G_law_draw : FnOk P w K mg base CX0 1 T.a_law_draw T.d_law_draw ["_law_d", "_law_many"] spDraw := ok_draw T
  have G_law_pick : FnOk P w K mg base CX0 2 T.a_law_pick T.d_law_pick ["_law_d", "_law_row"] (spPick K) := ok_pick T
  have G_law_built : FnOk P w K mg base CX0 1 T.a_law_built T.d_law_built [] spBuilt := ok_built T
  refine T.D_law_bent.F.ok sc_law_bent (fun vs H Q E h => ?_) (fun cdv A outer s H vs Q E hr h => ?_)
  · obtain ⟨d, l, nh, sc, b, us, rfl, _⟩ := h
    rfl
  · obtain ⟨d, l, nh, sc, b, us, rfl, hD, nhd, enh, u1, u6, hu, hb, hsc, q⟩ := h
    refine ⟨_, (pss_cons (ps_set (i := 4) sc_law_bent.nd rfl (.inl rfl) (pe_call G_law_draw (hr.mono (by decide)) (by rfl) T.D_law_draw.G T.D_law_draw.F.kp T.D_law_draw.B .nil pass0 (pa_cons (pv 0) (pa_cons pe_int pa_nil))))
      (pss_cons (ps_setLc (i := 5) (own := [("_law_name", 7)]) (g := gName 7) (tt := tYes) rfl sc_law_bent.nd rfl rfl (sw_true rfl rfl rfl (by decide +kernel)) (pi_list (pv 1)) (blkOk_by (own := [("_law_name", 7)]) (N := ["_law_d", "_law_names_here", "_law_body", "_law_scope", "_law_kind", "_law_words", "_law_place", "_law_name"]) (sc := defScope s_law_bent) (by decide +kernel)) (fun _ _ _ _ _ => (pg_name (i := 7) sc_law_bent.nd rfl (.inl rfl))) (fun _ _ _ _ _ => pts_nil) (fun _ _ _ _ _ => (pe_tup (pa_cons pe_str (pa_cons (pv 7) pa_nil)))))
      (pss_cons (ps_set (i := 6) sc_law_bent.nd rfl (.inl rfl) (pe_call G_law_draw (hr.mono (by decide)) (by rfl) T.D_law_draw.G T.D_law_draw.F.kp T.D_law_draw.B .nil pass0 (pa_cons (pv 0) (pa_cons (pe_callB call_len_seq (by rfl) T.n_len PySem.boot_len (pa_cons (pv 5) pa_nil)) pa_nil))))
      (Evl.pss_cut (ps_if (pt_cmpR op_eq (pv 4) pe_int (nomark _)) (pss_one (ps_set (i := 5) sc_law_bent.nd rfl (.inl rfl) (pe_op op_cat (pv 5) (pe_lc (own := [("_law_name", 7)]) (g := gName 7) (tt := tYes) rfl sc_law_bent.nd (pi_list (pe_lst (pa_cons pe_str (pa_cons pe_str (pa_cons pe_str (pa_cons pe_str pa_nil)))))) (blkOk_by (own := [("_law_name", 7)]) (N := ["_law_d", "_law_names_here", "_law_body", "_law_scope", "_law_kind", "_law_words", "_law_place", "_law_name"]) (sc := defScope s_law_bent) (by decide +kernel)) (fun _ _ _ _ _ => (pg_name (i := 7) sc_law_bent.nd rfl (.inl rfl))) (fun _ _ _ _ _ => pts_nil) (fun _ _ _ _ _ => (pe_tup (pa_cons pe_str (pa_cons (pv 7) pa_nil)))))))) (pss_one (ps_if (pt_cmpR op_eq (pv 4) pe_int (nomark _)) (pss_one (ps_asg (pe_tup (pa_cons pe_str (pa_cons (pe_call G_law_pick (hr.mono (by decide)) (by rfl) T.D_law_pick.G T.D_law_pick.F.kp T.D_law_pick.B .nil pass0 (pa_cons (pv 0) (pa_cons (pe_lst (pa_cons pe_str (pa_cons pe_str (pa_cons pe_str (pa_cons pe_str (pa_cons pe_str (pa_cons pe_str pa_nil))))))) pa_nil))) pa_nil))) (pg_sub (pv 5) (pv 6) set_list))) (pss_one (ps_if (pt_cmpR op_eq (pv 4) pe_int (nomark _)) (pss_one (ps_asg (pe_tup (pa_cons pe_str (pa_cons (pe_call G_law_pick (hr.mono (by decide)) (by rfl) T.D_law_pick.G T.D_law_pick.F.kp T.D_law_pick.B .nil pass0 (pa_cons (pv 0) (pa_cons (pe_op op_cat (pe_call0 G_law_built (hr.mono (by decide)) (by rfl) T.D_law_built.G T.D_law_built.F.kp T.D_law_built.B .nil pass0) (pe_lst (pa_cons pe_str pa_nil))) pa_nil))) pa_nil))) (pg_sub (pv 5) (pv 6) set_list))) (pss_one (ps_if (pt_cmpR op_eq (pv 4) pe_int (nomark _)) (pss_one (ps_expr (pe_bm PySem.F.plainAttrs_list PySem.F.slot_list_append PySem.F.type_list_append mt_append (pv 5) (pa_cons (pe_ix ix_list (pv 5) (pv 6) (fun _ _ => rfl)) pa_nil)))) (pss_one (ps_if (pt_cmpR op_eq (pv 4) pe_int (nomark _)) (pss_one (ps_asg (pe_tup (pa_cons pe_str (pa_cons (pe_ix ix_list (pv 1) pe_int (fun _ _ => rfl)) (pa_cons (pe_tup pa_nil) pa_nil)))) (pg_sub (pv 5) (pv 6) set_list))) (pss_one (ps_if (pt_cmpR op_eq (pv 4) pe_int (nomark _)) (pss_one (ps_set (i := 5) sc_law_bent.nd rfl (.inl rfl) (pe_lst pa_nil))) (pss_one (ps_if (pt_cmpR op_eq (pv 4) pe_int (nomark _)) (pss_one (ps_ret (pe_ix ix_tup (pe_tup (pa_cons (pe_tup (pa_cons (pe_callTy call_tuple_of (by rfl) T.n_tuple (by decide +kernel) (pa_cons (pv 5) pa_nil)) pa_nil)) (pa_cons (pe_tup (pa_cons (pe_callTy call_tuple_of (by rfl) T.n_tuple (by decide +kernel) (pa_cons (pv 5) pa_nil)) (pa_cons (pv 2) (pa_cons (pe_tup pa_nil) pa_nil)))) (pa_cons (pe_tup pa_nil) pa_nil)))) (pe_call G_law_draw (hr.mono (by decide)) (by rfl) T.D_law_draw.G T.D_law_draw.F.kp T.D_law_draw.B .nil pass0 (pa_cons (pv 0) (pa_cons pe_int pa_nil))) (fun _ _ => rfl)))) (pss_one (ps_if (pt_truth (pv 3) (by intro _; rfl)) (pss_one (ps_asg (pe_tup (pa_cons pe_str (pa_cons (pe_ix ix_seq (pe_call G_law_pick (hr.mono (by decide)) (by rfl) T.D_law_pick.G T.D_law_pick.F.kp T.D_law_pick.B .nil pass0 (pa_cons (pv 0) (pa_cons (pv 3) pa_nil))) pe_int (fun _ _ => rfl)) pa_nil))) (pg_sub (pv 5) pe_int set_list))) pss_nil)))))))))))))))
      (pss_one (ps_ret (pe_tup (pa_cons (pe_callTy call_tuple_of (by rfl) T.n_tuple (by decide +kernel) (pa_cons (pv 5) pa_nil)) (pa_cons (pv 2) pa_nil))))))))), ?_⟩
    refine ⟨_, rfl, d, l, _, rfl, hD, by decide, fun H1 kind K1 D1 _ _ => ?_⟩
    have enh1 := K1 _ _ nhd enh
    refine ⟨_, rfl, nh, rfl, ⟨_, SqL.of enh1⟩, fun W nW => ?_⟩
    have nWd := D1.nd nW
    have nWH := K1.freeD D1 nW
    have ndW := hD.nd nWH
    -- a word's node
    refine lc_list (K := K) (a := nh) (xs := us.map sV) (PvG WN d l H1 W) (PvG.start D1 nW) ?_ ?_ ?_
    · rintro i H' _ p
      exact SqL.of (p.kp _ _ nhd enh1)
    · rintro i x H' hx p
      rw [List.getElem?_map] at hx
      obtain ⟨z, hz, rfl⟩ : ∃ z, us[i]? = some z ∧ sV z = x := by
        cases h : us[i]? with
        | none => rw [h] at hx; cases hx
        | some z => rw [h] at hx; exact ⟨z, rfl, Option.some.inj hx⟩
      have hi := (List.getElem?_eq_some_iff.mp hz).1
      refine ⟨rfl, ?_⟩
      refine ⟨_, rfl, by show 2 ≤ sizeLine; decide, fun c nc => ?_⟩
      exact p.step WN.stay D1 nW (by omega) ((Kp.refl d H').new nc) (p.dice.new nc) (wn_word upd_same (hu z (List.mem_of_getElem? hz)))
    · rintro H2 ⟨vs, vl, hvs, K2, D2, e2⟩
      rw [List.length_map] at vl
      have K12 := K1.trans K2
      refine ⟨_, rfl, _, rfl, W, _, rfl, .inl (SqL.of e2), d, l, _, rfl, D2, by omega, fun H3 r K3 D3 r1 r2 => ?_⟩
      obtain ⟨j, rfl, hj⟩ : ∃ j : Nat, r = (j : Int) ∧ j < vs.length := by
        by_cases h : (vs.length : Int) < 2
        · exact ⟨0, r1 h, by omega⟩
        · have := r2 (by omega)
          exact ⟨r.toNat, by omega, by omega⟩
      have e3 := K3 _ _ nWd.1 e2
      have tk3 := TKeep.kp K3 D2
      have hvs3 : ∀ v ∈ vs, WN H3 v := fun v hv => WN.stay _ _ _ tk3 (hvs v hv)
      have K13 := K12.trans K3
      have hb3 : BV H3 b := BV.stay _ _ _ (TKeep.kp K13 hD) hb
      have enh3 := K13 _ _ nhd enh
      obtain ⟨nsc, rs, ers, rl, hrs⟩ := hsc.keep K13 hD
      have nWnh : W ≠ nh := fun z => by rw [z, enh1] at nW; cases nW
      -- a word's place stored, a list put in its place
      have stays : ∀ (H4 : Hp) (W2 : Addr) (vs2 : List V), Kp d H3 H4 → DI d l H4 → H4 W2 = some (.lst vs2) → (∀ v ∈ vs2, WN H4 v) → vs2.length ≤ 12 → BM d l nh sc b kind j H [some (.ref d), some (.ref nh), some b, some (.ref sc), some (.int kind), some (.ref W2), some (.int (j : Int)), none] H4 :=
        fun H4 W2 vs2 K4 D4 e4 w4 l4 => ⟨W2, vs2, rfl, e4, w4, l4, K13.trans K4, D4, BV.stay _ _ _ (TKeep.kp K4 D3) hb3⟩
      have store : ∀ (H4 : Hp) (y : V) (i : Nat), Kp d H3 H4 → DI d l H4 → WN H4 y → BM d l nh sc b kind j H [some (.ref d), some (.ref nh), some b, some (.ref sc), some (.int kind), some (.ref W), some (.int (j : Int)), none] (upd H4 W (.lst (vs.set i y))) := by
        intro H4 y i K4 D4 hy
        have e4 := K4 _ _ nWd.1 e3
        have tkm := TKeep.mut (o := .lst (vs.set i y)) e4
        refine ⟨W, _, rfl, upd_same, fun v hv => ?_, by rw [List.length_set]; omega, (K13.trans K4).mut nWH, D4.at ndW.1 ndW.2, BV.stay _ _ _ ((TKeep.kp K4 D3).trans tkm) hb3⟩
        rcases List.mem_or_eq_of_mem_set hv with h | rfl
        · exact WN.stay _ _ _ ((TKeep.kp K4 D3).trans tkm) (hvs3 v h)
        · exact WN.stay _ _ _ tkm hy
      have ixn : ∀ {n i : Nat}, i < n → ixN n (i : Int) = some i := fun {n i} h => by
        unfold ixN
        rw [if_pos (by omega), if_pos (by omega), Int.toNat_natCast]
      have wordP : ∀ (H4 : Hp) (v : V) (p : Addr), (∃ z, v = sV z ∧ OkN z) → H4 p = none → WN (upd H4 p (.tup [V.str "word", v])) (.ref p) := by
        rintro H4 v p ⟨z, rfl, hz⟩ np
        exact wn_word upd_same hz
      refine ⟨BM d l nh sc b kind j H, ?_, ?_⟩
      · refine ⟨_, rfl, rfl, _, rfl, ite2 (fun _ => ?_) (fun _ => ?_)⟩
        · -- four more words
          refine ⟨_, rfl, by show 4 ≤ sizeLine; decide, fun L nL => ?_⟩
          have s4 := same_upd (o := .lst [V.str "one", V.str "two", V.str "three", V.str "four"]) (Same.refl H3) nL
          have D4 := D3.new (o := .lst [V.str "one", V.str "two", V.str "three", V.str "four"]) nL
          have eL : upd H3 L (.lst [V.str "one", V.str "two", V.str "three", V.str "four"]) L = some (.lst [V.str "one", V.str "two", V.str "three", V.str "four"]) := upd_same
          have e4 := s4 _ _ e3
          have nLd := (D3.nd nL).1
          have K4 : Kp d H3 (upd H3 L (.lst [V.str "one", V.str "two", V.str "three", V.str "four"])) := (Kp.refl d H3).new nL
          obtain ⟨H4, hH4⟩ : ∃ H4, upd H3 L (.lst [V.str "one", V.str "two", V.str "three", V.str "four"]) = H4 := ⟨_, rfl⟩
          rw [hH4] at D4 eL e4 K4 ⊢
          refine ⟨L, rfl, ⟨_, SqL.of eL⟩, fun D nD => ?_⟩
          refine lc_list (K := K) (a := L) (xs := [V.str "one", V.str "two", V.str "three", V.str "four"]) (PvG WN d l H4 D) (PvG.start D4 nD) ?_ ?_ ?_
          · rintro i H' _ p
            exact SqL.of (p.kp _ _ nLd eL)
          · rintro i x H' hx p
            have hz : ∃ z, x = sV z ∧ OkN z := by
              match i, hx with
              | 0, hx => rw [← Option.some.inj hx]; exact str_ok _ (by decide +kernel)
              | 1, hx => rw [← Option.some.inj hx]; exact str_ok _ (by decide +kernel)
              | 2, hx => rw [← Option.some.inj hx]; exact str_ok _ (by decide +kernel)
              | 3, hx => rw [← Option.some.inj hx]; exact str_ok _ (by decide +kernel)
              | _ + 4, hx => cases hx
            have hi : i < 4 := (List.getElem?_eq_some_iff.mp hx).1
            refine ⟨rfl, ?_⟩
            refine ⟨_, rfl, by show 2 ≤ sizeLine; decide, fun c nc => ?_⟩
            exact p.step WN.stay D4 nD (by omega) ((Kp.refl d H').new nc) (p.dice.new nc) (wordP H' x c hz nc)
          · rintro H5 ⟨vs5, vl5, hvs5, K5, D5, e5⟩
            have vl5 : vs5.length = 4 := vl5
            have e45 := K5 _ _ nWd.1 e4
            refine ⟨W, D, _, _, rfl, rfl, e45, e5, Nat.le_trans (show _ ≤ 1000 by omega) (by decide), fun p np => ?_⟩
            have tk5 := TKeep.kp K5 D4
            have tkn := TKeep.new (o := .lst (vs ++ vs5)) np
            refine stays _ p (vs ++ vs5) ((K4.trans K5).new np) (D5.new np) upd_same (fun v hv => ?_) (by rw [List.length_append]; omega)
            rcases List.mem_append.mp hv with h | h
            · exact WN.stay _ _ _ (((TKeep.kp K4 D3).trans tk5).trans tkn) (hvs3 v h)
            · exact WN.stay _ _ _ tkn (hvs5 v h)
        refine ⟨_, rfl, rfl, _, rfl, ite2 (fun _ => ?_) (fun _ => ?_)⟩
        · -- an odd word
          refine ⟨_, rfl, by show 6 ≤ sizeLine; decide, fun L nL => ?_⟩
          refine ⟨d, l, _, _, rfl, D3.new nL, .inl ⟨L, rfl, (D3.nd nL).1, SqL.of upd_same⟩, by show 0 < 6; decide, by show 6 ≤ 1000; decide, fun H4 v K4 D4 hv => ⟨by show 2 ≤ sizeLine; decide, fun p np => ?_⟩⟩
          have hz : ∃ z, v = sV z ∧ OkN z := by
            simp only [List.mem_cons, List.not_mem_nil, or_false] at hv
            rcases hv with rfl | rfl | rfl | rfl | rfl | rfl <;> exact str_ok _ (by decide +kernel)
          have K34 := ((Kp.refl d H3).new nL).trans K4
          have D5 := D4.new (o := .tup [V.str "word", v]) np
          refine ⟨_, rfl, _, rfl, W, vs, (j : Int), j, rfl, rfl, (K34.new np) _ _ nWd.1 e3, ixn hj, ?_⟩
          exact store _ _ j (K34.new np) D5 (wordP H4 v p hz np)
        refine ⟨_, rfl, rfl, _, rfl, ite2 (fun _ => ?_) (fun _ => ?_)⟩
        · -- a built-in name
          refine ⟨_, rfl, rfl, fun H4 bp s4 nbp ebp => ?_⟩
          have D4 := D3.keep s4
          refine ⟨by show 1 ≤ sizeLine; decide, fun L nL => ?_⟩
          have s5 := same_upd (o := .lst [V.str "let"]) s4 nL
          have s5' := same_upd (o := .lst [V.str "let"]) (Same.refl H4) nL
          refine ⟨bp, L, _, _, rfl, rfl, s5' _ _ ebp, upd_same, by decide +kernel, fun L2 nL2 => ?_⟩
          have D5 := D4.new (o := .lst [V.str "let"]) nL
          have D6 := D5.new (o := .lst (blN.map sV ++ [V.str "let"])) nL2
          have K6 : Kp d H3 _ := (Kp.of_same s5).new (o := .lst (blN.map sV ++ [V.str "let"])) nL2
          refine ⟨d, l, _, _, rfl, D6, .inl ⟨L2, rfl, (D5.nd nL2).1, SqL.of upd_same⟩, by decide +kernel, by decide +kernel, fun H7 v K7 D7 hv => ⟨by show 2 ≤ sizeLine; decide, fun p np => ?_⟩⟩
          have hz : ∃ z, v = sV z ∧ OkN z := by
            rcases List.mem_append.mp hv with h | h
            · obtain ⟨z, hz, rfl⟩ := List.mem_map.mp h
              exact ⟨z, rfl, bl_ok z hz⟩
            · rw [List.mem_singleton.mp h]; exact str_ok _ (by decide +kernel)
          have K37 := K6.trans K7
          refine ⟨_, rfl, _, rfl, W, vs, (j : Int), j, rfl, rfl, (K37.new np) _ _ nWd.1 e3, ixn hj, ?_⟩
          exact store _ _ j (K37.new np) (D7.new np) (wordP H7 v p hz np)
        refine ⟨_, rfl, rfl, _, rfl, ite2 (fun _ => ?_) (fun _ => ?_)⟩
        · -- one twice
          have g : vs[j]? = some vs[j] := List.getElem?_eq_getElem hj
          refine ⟨.ref W, rfl, .inl ⟨rfl, _, SqL.of e3⟩, _, rfl, _, rfl, W, _, _, _, rfl, rfl, SqL.of e3, atI_nat g, W, _, _, rfl, rfl, e3, lt_size (by omega), ?_⟩
          have tkm := TKeep.mut (o := .lst (vs ++ [vs[j]])) e3
          refine ⟨W, _, rfl, upd_same, fun v hv => ?_, by rw [List.length_append]; show vs.length + 1 ≤ 12; omega, K13.mut nWH, D3.at ndW.1 ndW.2, BV.stay _ _ _ tkm hb3⟩
          rcases List.mem_append.mp hv with h | h
          · exact WN.stay _ _ _ tkm (hvs3 v h)
          · rw [List.mem_singleton.mp h]; exact WN.stay _ _ _ tkm (hvs3 _ (List.getElem_mem hj))
        refine ⟨_, rfl, rfl, _, rfl, ite2 (fun _ => ?_) (fun _ => ?_)⟩
        · -- a call
          have g0 : us[0]? = some us[0] := List.getElem?_eq_getElem (by omega)
          refine ⟨_, rfl, nh, _, 0, _, rfl, rfl, SqL.of enh3, atI_nat (j := 0) (get_sV g0), by show 0 ≤ sizeLine; decide, fun e1 ne1 => ⟨by show 3 ≤ sizeLine; decide, fun p np => ?_⟩⟩
          have K5 : Kp d H3 _ := ((Kp.refl d H3).new (o := .tup []) ne1).new (o := .tup [V.str "call", sV us[0], .ref e1]) np
          have ee : upd (upd H3 e1 (.tup [])) p (.tup [V.str "call", sV us[0], .ref e1]) e1 = some (.tup []) := by rw [upd_ne (ne_of_none upd_same np)]; exact upd_same
          refine ⟨_, rfl, _, rfl, W, vs, (j : Int), j, rfl, rfl, K5 _ _ nWd.1 e3, ixn hj, ?_⟩
          exact store _ _ j K5 ((D3.new ne1).new np) ⟨.call us[0] .nil, ⟨p, e1, [], rfl, upd_same, ee, by simp only [RepA]⟩, rfl, ⟨hu _ (List.getElem_mem _), trivial⟩, by show 1 ≤ 1; decide⟩
        refine ⟨_, rfl, rfl, _, rfl, ite2 (fun _ => ?_) (fun _ => ?_)⟩
        · -- none
          refine ⟨by show 0 ≤ sizeLine; decide, fun p np => ?_⟩
          exact stays _ p [] ((Kp.refl d H3).new np) (D3.new np) upd_same (fun v hv => nomatch hv) (by show 0 ≤ 12; decide)
        refine ⟨_, rfl, rfl, _, rfl, ite2 (fun _ => ?_) (fun _ => ?_)⟩
        · -- another number of arguments
          refine ⟨_, rfl, W, vs, rfl, .inl ⟨SqL.of e3, fun c1 nc1 => ⟨by show 1 ≤ sizeLine; decide, fun p1 np1 => ?_⟩⟩⟩
          have s1 := same_upd (o := .tup vs) (Same.refl H3) nc1
          have s2 := same_upd (o := .tup [.ref c1]) s1 np1
          refine ⟨_, rfl, W, vs, rfl, .inl ⟨SqL.of (s2 _ _ e3), fun c2 nc2 => ⟨_, rfl, by show 0 ≤ sizeLine; decide, fun e1 ne1 => ⟨by show 3 ≤ sizeLine; decide, fun p2 np2 => ?_⟩⟩⟩⟩
          refine ⟨by show 0 ≤ sizeLine; decide, fun p3 np3 => ⟨by show 3 ≤ sizeLine; decide, fun p4 np4 => ?_⟩⟩
          have t1 : TKeep H3 (upd H3 c1 (.tup vs)) := TKeep.new nc1
          have t2 := TKeep.new (o := .tup [.ref c1]) np1
          have t3 := TKeep.new (o := .tup vs) nc2
          have t4 := TKeep.new (o := .tup []) ne1
          have t5 := TKeep.new (o := .tup [.ref c2, b, .ref e1]) np2
          have t6 := TKeep.new (o := .tup []) np3
          have t7 := TKeep.new (o := .tup [.ref p1, .ref p2, .ref p3]) np4
          have K9 : Kp d H3 _ := (((((((Kp.refl d H3).new (o := .tup vs) nc1).new (o := .tup [.ref c1]) np1).new (o := .tup vs) nc2).new (o := .tup []) ne1).new (o := .tup [.ref c2, b, .ref e1]) np2).new (o := .tup []) np3).new (o := .tup [.ref p1, .ref p2, .ref p3]) np4
          have D9 := (((((((D3.new (o := .tup vs) nc1).new (o := .tup [.ref c1]) np1).new (o := .tup vs) nc2).new (o := .tup []) ne1).new (o := .tup [.ref c2, b, .ref e1]) np2).new (o := .tup []) np3).new (o := .tup [.ref p1, .ref p2, .ref p3]) np4)
          refine ⟨_, rfl, d, l, _, rfl, D9, by decide, fun H10 r K10 D10 _ r2 => ?_⟩
          have r3 := r2 (by decide)
          have t10 := TKeep.kp K10 D9
          have t67 := (t6.trans t7).trans t10
          have t57 := t5.trans t67
          have t37 := t3.trans (t4.trans t57)
          have all := t1.trans (t2.trans t37)
          have hvs9 : ∀ v ∈ vs, WN H10 v := fun v hv => WN.stay _ _ _ all (hvs3 v hv)
          have hb9 := BV.stay _ _ _ all hb3
          have ep4 := t10 _ _ (upd_same (a := p4) (o := .tup [.ref p1, .ref p2, .ref p3]))
          have ep1 := t37 _ _ (upd_same (a := p1) (o := .tup [.ref c1]))
          have ec1 := (t2.trans t37) _ _ (upd_same (a := c1) (o := .tup vs))
          have ec2 := (t4.trans t57) _ _ (upd_same (a := c2) (o := .tup vs))
          have ee1 := t57 _ _ (upd_same (a := e1) (o := .tup []))
          have ep2 := t67 _ _ (upd_same (a := p2) (o := .tup [.ref c2, b, .ref e1]))
          have ep3 := (t7.trans t10) _ _ (upd_same (a := p3) (o := .tup []))
          obtain ⟨t, ht, d1, b1, l1⟩ := tr_of2 hvs9
          obtain ⟨u, ⟨bq, bus, rfl, eq, hbu⟩, d2, b2, l2⟩ := hb9
          have K310 := (K13.trans K9).trans K10
          have fin1 : Q (.ref p1) H10 := q _ _ K310 D10 ⟨p1, _, .cons t .nil, rfl, ep1, by simp only [RepA]; exact ⟨c1, vs, [], rfl, ec1, ht, rfl⟩, by simp only [depA]; omega, ⟨b1, trivial⟩, by simp only [toksA, List.length_cons, List.length_append, List.length_nil]; omega⟩
          have fin2 : Q (.ref p2) H10 := q _ _ K310 D10 ⟨p2, _, .cons t (.cons u (.cons .nil .nil)), rfl, ep2, by simp only [RepA, RepT]; exact ⟨c2, vs, _, rfl, ec2, ht, bq, bus, _, rfl, eq, hbu, e1, [], [], rfl, ee1, rfl, rfl⟩, by simp only [depA, depT]; omega, ⟨b1, b2, trivial, trivial⟩, by simp only [toksA, toksT, List.length_cons, List.length_append, List.length_nil]; omega⟩
          have fin3 : Q (.ref p3) H10 := q _ _ K310 D10 ⟨p3, [], .nil, rfl, ep3, by simp only [RepA], by simp only [depA]; omega, trivial, by simp only [toksA, List.length_nil]; omega⟩
          obtain ⟨j9, rfl, hj9⟩ : ∃ j9 : Nat, r = (j9 : Int) ∧ j9 < 3 := ⟨r.toNat, by omega, by omega⟩
          match j9, hj9 with
          | 0, _ => exact ⟨p4, _, _, _, rfl, rfl, SqT.of ep4, atI_nat (j := 0) rfl, fin1⟩
          | 1, _ => exact ⟨p4, _, _, _, rfl, rfl, SqT.of ep4, atI_nat (j := 1) rfl, fin2⟩
          | 2, _ => exact ⟨p4, _, _, _, rfl, rfl, SqT.of ep4, atI_nat (j := 2) rfl, fin3⟩
        · refine ⟨_, rfl, !rs.isEmpty, .inl ⟨rs, SqL.of ers, rfl⟩, ?_⟩
          cases rs with
          | nil => exact stays H3 W vs (Kp.refl d H3) D3 e3 hvs3 (by omega)
          | cons r0 rs =>
            refine ⟨_, rfl, _, rfl, d, l, _, _, rfl, D3, .inl ⟨sc, rfl, nsc, SqL.of ers⟩, by rw [List.length_cons]; omega, by omega, fun H4 v K4 D4 hv => ?_⟩
            obtain ⟨rp, z, k, rfl, er, hz, _⟩ := SR.stay _ _ _ (TKeep.kp K4 D3) (hrs v hv)
            refine .inr (.inl ⟨rp, _, _, _, rfl, rfl, SqT.of er, atI_nat (j := 0) rfl, by show 2 ≤ sizeLine; decide, fun p np => ?_⟩)
            have D5 := D4.new (o := .tup [V.str "word", sV z]) np
            refine ⟨_, rfl, W, vs, 0, 0, rfl, rfl, (K4.new np) _ _ nWd.1 e3, ixn (i := 0) (by omega), ?_⟩
            exact store _ _ 0 (K4.new np) D5 (wordP H4 (sV z) p ⟨z, rfl, hz⟩ np)
      · rintro σ' H4 ⟨W2, vs2, rfl, e4, w4, l4, K4, D4, hb4⟩
        refine ⟨_, rfl, W2, vs2, rfl, .inl ⟨SqL.of e4, fun c nc => ⟨_, rfl, by show 2 ≤ sizeLine; decide, fun p np => ?_⟩⟩⟩
        have tk1 := TKeep.new (o := .tup vs2) nc
        have tk2 := TKeep.new (o := .tup [.ref c, b]) np
        exact q _ (.ref p) ((K4.new nc).new np) ((D4.new nc).new np) (av_two upd_same (tk2 _ _ upd_same) (fun v hv => WN.stay _ _ _ (tk1.trans tk2) (w4 v hv)) (by omega) (BV.stay _ _ _ (tk1.trans tk2) hb4))
end
end Vf

set_option Elab.async false
set_option linter.all false
set_option maxRecDepth 100000
set_option maxHeartbeats 4000000
namespace Vf
open PySem PySem.Spec PyProof.Rows L2 TL
def OS (H : Hp) (v : V) : Prop := ∃ z, v = sV z ∧ OkN z
theorem OS.stay : Stay OS := fun _ _ _ _ h => h
/-- a definition as a node, its row -/
def LN (H : Hp) (v : V) : Prop := ∃ nd, NV H v nd ∧ depN nd ≤ 4 ∧ BN 100 nd ∧ (toksT (nd.tr .nil)).length ≤ 2100
theorem LN.stay : Stay LN := fun H1 H2 v t h => by
  obtain ⟨nd, a, b⟩ := h
  exact ⟨nd, a.keep t, b⟩
theorem AV.stay : Stay AV := fun H1 H2 v t h => by
  obtain ⟨q, vs, a, e, e1, r, b⟩ := h
  exact ⟨q, vs, a, e, t _ _ e1, r.keep t, b⟩
theorem cut_midS {ts : List (List Nat)} {a b : Nat} : ∃ ps : List (List Nat), cutV (ts.map sV) (some (a : Int)) (some (b : Int)) = ps.map sV ∧ (∀ z ∈ ps, z ∈ ts) ∧ ps.length ≤ b - a := by
  unfold cutV
  rw [HT.sIx_nat, HT.sIx_nat]
  refine ⟨(ts.drop (min a (ts.map sV).length)).take (min b (ts.map sV).length - min a (ts.map sV).length), by rw [List.map_take, List.map_drop], fun z hz => List.mem_of_mem_drop (List.mem_of_mem_take hz), ?_⟩
  rw [List.length_take]
  omega
section
variable {P : Program} {w : World} {K : PySem.W.Frag} {mg : Str → Option Value} {base : Heap}
def spLet : Sp := fun vs H Q _ => ∃ (d l sc po : Addr) (zs : List (List Nat)) (odd : Int) (rs : List V), vs = [.ref d, .ref sc, .ref po, .int 2, .int odd] ∧ DI d l H ∧ sc ≠ d ∧ H sc = some (.lst rs) ∧ rs.length ≤ 11 ∧ (∀ v ∈ rs, SR H v) ∧ PoO H d po zs ∧ zs.length = 12 ∧ zs.Nodup ∧ 0 ≤ odd ∧ odd ≤ 1000 ∧
  ∀ H' p v r, Kp d H H' → DI d l H' → H' p = some (.tup [v, r]) → LN H' v → SR H' r → Q (.ref p) H'
theorem ok_let (T : Txt K mg) : FnOk P w K mg base CX0 13 T.a_law_let T.d_law_let ["_law_d", "_law_scope", "_law_pool", "_law_deep_here", "_law_odd"] spLet := by
  have G_law_draw : FnOk P w K mg base CX0 1 T.a_law_draw T.d_law_draw ["_law_d", "_law_many"] spDraw := ok_draw T
  have G_law_pick : FnOk P w K mg base CX0 2 T.a_law_pick T.d_law_pick ["_law_d", "_law_row"] (spPick K) := ok_pick T
  have G_law_tree : FnOk P w K mg base CX0 12 T.a_law_tree T.d_law_tree ["_law_d", "_law_many", "_law_scope", "_law_pool", "_law_deep_here", "_law_odd"] (spTree 3) := ok_treeG T 3 (ok_node T 3)
  have G_law_bent : FnOk P w K mg base CX0 3 T.a_law_bent T.d_law_bent ["_law_d", "_law_names_here", "_law_body", "_law_scope"] (spBent K) := ok_bent T
  refine T.D_law_let.F.ok sc_law_let (fun vs H Q E h => ?_) (fun cdv A outer s H vs Q E hr h => ?_)
  · obtain ⟨d, l, sc, po, zs, odd, rs, rfl, _⟩ := h
    rfl
  · obtain ⟨d, l, sc, po, zs, odd, rs, rfl, hD, nsc, ers, rl, hrs, hpo, zl, zn, o0, o1, q⟩ := h
    refine ⟨_, (pss_cons (ps_set (i := 5) sc_law_let.nd rfl (.inr rfl) (pe_lc (own := [("_law_row", 13)]) (g := gName 13) (tt := tYes) rfl sc_law_let.nd (pi_list (pv 1)) (blkOk_by (own := [("_law_row", 13)]) (N := ["_law_d", "_law_scope", "_law_pool", "_law_deep_here", "_law_odd", "_law_used", "_law_name", "_law_others", "_law_start", "_law_params", "_law_inner", "_law_body", "_law_parts", "_law_row", "_law_one"]) (sc := defScope s_law_let) (by decide +kernel)) (fun _ _ _ _ _ => (pg_name (i := 13) sc_law_let.nd rfl (.inl rfl))) (fun _ _ _ _ _ => pts_nil) (fun _ _ _ _ _ => (pe_ix (r := rIxT K) ix_tup (pv 13) pe_int (fun _ _ => rfl)))))
      (pss_cons (ps_set (i := 6) sc_law_let.nd rfl (.inr rfl) (pe_call G_law_pick (hr.mono (by decide)) (by rfl) T.D_law_pick.G T.D_law_pick.F.kp T.D_law_pick.B .nil pass0 (pa_cons (pv 0) (pa_cons (pe_lc (own := [("_law_one", 14)]) (g := gName 14) rfl sc_law_let.nd (pi_list (pv 2)) (blkOk_by (own := [("_law_one", 14)]) (N := ["_law_d", "_law_scope", "_law_pool", "_law_deep_here", "_law_odd", "_law_used", "_law_name", "_law_others", "_law_start", "_law_params", "_law_inner", "_law_body", "_law_parts", "_law_row", "_law_one"]) (sc := defScope s_law_let) (by decide +kernel)) (fun _ _ _ _ _ => (pg_name (i := 14) sc_law_let.nd rfl (.inl rfl))) (fun _ _ _ _ _ => (pts_one (pt_cmpR (r := rIn K true) op_notIn_seq (pv 14) (pv 5) (by rfl)))) (fun _ _ _ _ _ => (pv 14))) pa_nil))))
      (pss_cons (ps_set (i := 7) sc_law_let.nd rfl (.inl rfl) (pe_op op_cat (pv 5) (pe_lc (own := [("_law_one", 14)]) (g := gName 14) rfl sc_law_let.nd (pi_list (pv 2)) (blkOk_by (own := [("_law_one", 14)]) (N := ["_law_d", "_law_scope", "_law_pool", "_law_deep_here", "_law_odd", "_law_used", "_law_name", "_law_others", "_law_start", "_law_params", "_law_inner", "_law_body", "_law_parts", "_law_row", "_law_one"]) (sc := defScope s_law_let) (by decide +kernel)) (fun _ _ _ _ _ => (pg_name (i := 14) sc_law_let.nd rfl (.inl rfl))) (fun _ _ _ _ _ => (pts_one (PW.pt (pw_and (pt_cmpR (r := rIn K true) op_notIn_seq (pv 14) (pv 5) (by rfl)) (pw_and1 (pt_cmpR op_ne (pv 14) (pv 6) (nomark _))))))) (fun _ _ _ _ _ => (pv 14)))))
      (pss_cons (ps_set (i := 8) sc_law_let.nd rfl (.inl rfl) (pe_call G_law_pick (hr.mono (by decide)) (by rfl) T.D_law_pick.G T.D_law_pick.F.kp T.D_law_pick.B .nil pass0 (pa_cons (pv 0) (pa_cons (pe_lst (pa_cons pe_int (pa_cons pe_int (pa_cons pe_int (pa_cons pe_int (pa_cons pe_int pa_nil)))))) pa_nil))))
      (pss_cons (ps_set (i := 9) sc_law_let.nd rfl (.inr rfl) (pe_slice sl_list (pv 7) (po_some (pv 8)) (po_some (pe_op op_add (pv 8) (pe_call G_law_draw (hr.mono (by decide)) (by rfl) T.D_law_draw.G T.D_law_draw.F.kp T.D_law_draw.B .nil pass0 (pa_cons (pv 0) (pa_cons pe_int pa_nil)))))))
      (pss_cons (ps_set (i := 10) sc_law_let.nd rfl (.inl rfl) (pe_op op_cat (pe_lc (own := [("_law_one", 14)]) (g := gName 14) (tt := tYes) rfl sc_law_let.nd (pi_list (pv 9)) (blkOk_by (own := [("_law_one", 14)]) (N := ["_law_d", "_law_scope", "_law_pool", "_law_deep_here", "_law_odd", "_law_used", "_law_name", "_law_others", "_law_start", "_law_params", "_law_inner", "_law_body", "_law_parts", "_law_row", "_law_one"]) (sc := defScope s_law_let) (by decide +kernel)) (fun _ _ _ _ _ => (pg_name (i := 14) sc_law_let.nd rfl (.inl rfl))) (fun _ _ _ _ _ => pts_nil) (fun _ _ _ _ _ => (pe_tup (pa_cons (pv 14) (pa_cons pe_int pa_nil))))) (pe_lc (own := [("_law_row", 13)]) (g := gName 13) rfl sc_law_let.nd (pi_list (pv 1)) (blkOk_by (own := [("_law_row", 13)]) (N := ["_law_d", "_law_scope", "_law_pool", "_law_deep_here", "_law_odd", "_law_used", "_law_name", "_law_others", "_law_start", "_law_params", "_law_inner", "_law_body", "_law_parts", "_law_row", "_law_one"]) (sc := defScope s_law_let) (by decide +kernel)) (fun _ _ _ _ _ => (pg_name (i := 13) sc_law_let.nd rfl (.inl rfl))) (fun _ _ _ _ _ => (pts_one (pt_cmpR (r := rIn K true) op_notIn_seq (pe_ix (r := rIxT K) ix_tup (pv 13) pe_int (fun _ _ => rfl)) (pv 9) (by rfl)))) (fun _ _ _ _ _ => (pv 13)))))
      (pss_cons (ps_set (i := 11) sc_law_let.nd rfl (.inl rfl) (pe_call G_law_tree (hr.mono (by decide)) (by rfl) T.D_law_tree.G T.D_law_tree.F.kp T.D_law_tree.B .nil pass0 (pa_cons (pv 0) (pa_cons (pe_call G_law_draw (hr.mono (by decide)) (by rfl) T.D_law_draw.G T.D_law_draw.F.kp T.D_law_draw.B .nil pass0 (pa_cons (pv 0) (pa_cons pe_int pa_nil))) (pa_cons (pv 10) (pa_cons (pv 2) (pa_cons (pv 3) (pa_cons (pv 4) pa_nil))))))))
      (pss_cons (ps_set (i := 12) sc_law_let.nd rfl (.inl rfl) (pe_tup (pa_cons (pe_callTy call_tuple_of (by rfl) T.n_tuple (by decide +kernel) (pa_cons (pe_lc (own := [("_law_one", 14)]) (g := gName 14) (tt := tYes) rfl sc_law_let.nd (pi_list (pe_op op_cat (pe_lst (pa_cons (pv 6) pa_nil)) (pv 9))) (blkOk_by (own := [("_law_one", 14)]) (N := ["_law_d", "_law_scope", "_law_pool", "_law_deep_here", "_law_odd", "_law_used", "_law_name", "_law_others", "_law_start", "_law_params", "_law_inner", "_law_body", "_law_parts", "_law_row", "_law_one"]) (sc := defScope s_law_let) (by decide +kernel)) (fun _ _ _ _ _ => (pg_name (i := 14) sc_law_let.nd rfl (.inl rfl))) (fun _ _ _ _ _ => pts_nil) (fun _ _ _ _ _ => (pe_tup (pa_cons pe_str (pa_cons (pv 14) pa_nil))))) pa_nil)) (pa_cons (pv 11) pa_nil))))
      (Evl.pss_cut (ps_if (PW.pt (pw_and (pt_cmpR op_gt (pv 4) pe_int (nomark _)) (pw_and1 (pt_cmpR op_eq (pe_call G_law_draw (hr.mono (by decide)) (by rfl) T.D_law_draw.G T.D_law_draw.F.kp T.D_law_draw.B .nil pass0 (pa_cons (pv 0) (pa_cons (pv 4) pa_nil))) pe_int (nomark _))))) (pss_one (ps_set (i := 12) sc_law_let.nd rfl (.inl rfl) (pe_call G_law_bent (hr.mono (by decide)) (by rfl) T.D_law_bent.G T.D_law_bent.F.kp T.D_law_bent.B .nil pass0 (pa_cons (pv 0) (pa_cons (pe_op op_cat (pe_lst (pa_cons (pv 6) pa_nil)) (pv 9)) (pa_cons (pv 11) (pa_cons (pv 1) pa_nil))))))) pss_nil)
      (pss_one (ps_ret (pe_tup (pa_cons (pe_tup (pa_cons pe_str (pa_cons pe_str (pa_cons (pv 12) pa_nil)))) (pa_cons (pe_tup (pa_cons (pv 6) (pa_cons (pe_callB call_len_seq (by rfl) T.n_len PySem.boot_len (pa_cons (pv 9) pa_nil)) pa_nil))) pa_nil)))))))))))))), ?_⟩
    have npo := hpo.1
    -- the names in use
    refine ⟨_, rfl, sc, rfl, ⟨_, SqL.of ers⟩, fun U nU => ?_⟩
    have ndU := hD.nd nU
    refine lc_list (K := K) (a := sc) (xs := rs) (fun i H' => ∃ us : List (List Nat), us.length = i ∧ (∀ z ∈ us, OkN z) ∧ Same H H' ∧ H' U = some (.lst (us.map sV)))
      ⟨[], rfl, (fun _ h => nomatch h), same_upd (Same.refl H) nU, upd_same⟩ ?_ ?_ ?_
    · rintro i H' _ ⟨_, _, _, s1, _⟩
      exact SqL.of (s1 _ _ ers)
    · rintro i x H' hx ⟨us, ul, hu, s1, eU⟩
      obtain ⟨p, z, k, rfl, ep, hz, _⟩ := hrs x (List.mem_of_getElem? hx)
      have hi := (List.getElem?_eq_some_iff.mp hx).1
      refine ⟨rfl, ?_⟩
      refine ⟨_, rfl, p, _, _, _, rfl, rfl, SqT.of (s1 _ _ ep), atI_nat (j := 0) rfl, _, eU, by rw [List.length_map]; exact lt_size (by omega), us ++ [z], by rw [List.length_append, ul]; rfl, fun y hy => ?_, same_mut s1 nU, by rw [upd_same, snoc_sV]⟩
      rcases List.mem_append.mp hy with h | h
      · exact hu y h
      · rw [List.mem_singleton.mp h]; exact hz
    rintro H1 ⟨us, ul, hu, s1, eU⟩
    have K1 : Kp d H H1 := Kp.of_same s1
    have D1 := hD.keep s1
    have epo1 := s1 _ _ hpo.2.1
    -- a name that is not in use
    refine ⟨_, rfl, _, rfl, po, rfl, ⟨_, SqL.of epo1⟩, fun F nF => ?_⟩
    have filt : ∀ (g : List Nat → Bool) (i : Nat) (z : List Nat), zs[i]? = some z → (zs.take (i + 1)).filter g = (zs.take i).filter g ++ (if g z then [z] else []) := fun g i z hz => by
      rw [take_succ' hz, List.filter_append, List.filter_cons, List.filter_nil]
    refine lc_list (K := K) (a := po) (xs := zs.map sV) (fun i H' => Same H1 H' ∧ H' F = some (.lst (((zs.take i).filter fun z => !decide (z ∈ us)).map sV)))
      ⟨same_upd (Same.refl H1) nF, upd_same⟩ ?_ ?_ ?_
    · rintro i H' _ ⟨s2, _⟩
      exact SqL.of (s2 _ _ epo1)
    · rintro i x H' hx ⟨s2, eF⟩
      rw [List.getElem?_map] at hx
      obtain ⟨z, hz, rfl⟩ : ∃ z, zs[i]? = some z ∧ sV z = x := by
        cases h : zs[i]? with
        | none => rw [h] at hx; cases hx
        | some z => rw [h] at hx; exact ⟨z, rfl, Option.some.inj hx⟩
      refine ⟨rfl, ?_⟩
      refine ⟨_, rfl, _, rfl, U, us.map sV, rfl, .inl (SqL.of (s2 _ _ eU)), rfl, flat_all _, !decide (z ∈ us), congrArg V.bl (congrArg Bool.not (inV_s z us)), ?_⟩
      rw [filt _ i z hz]
      by_cases hm : z ∈ us
      · rw [decide_eq_true hm]
        refine ⟨s2, ?_⟩
        rw [show (if (!true) = true then [z] else []) = [] from rfl, List.append_nil]
        exact eF
      · rw [decide_eq_false hm]
        refine ⟨_, rfl, _, eF, ?_, same_mut s2 nF, ?_⟩
        · rw [List.length_map]
          exact lt_size (Nat.lt_of_le_of_lt (List.length_filter_le _ _) (by rw [List.length_take]; omega))
        · rw [upd_same, ← snoc_sV]; rfl
    rintro H2 ⟨s2, eF⟩
    rw [List.length_map, List.take_length] at eF
    have D2 := D1.keep s2
    have nFd := (D1.nd nF).1
    obtain ⟨fs, efs⟩ : ∃ fs, zs.filter (fun z => !decide (z ∈ us)) = fs := ⟨_, rfl⟩
    rw [efs] at eF
    have fpos : 0 < fs.length := by
      rcases Nat.eq_zero_or_pos fs.length with h | h
      · have e : fs = [] := List.eq_nil_of_length_eq_zero h
        rw [e] at efs
        have := nodup_sub (ts := us) zn fun x hx => by
          have := List.filter_eq_nil_iff.mp efs x hx
          simpa using this
        omega
      · exact h
    have fsub : ∀ z ∈ fs, OkN z := fun z hz => by
      rw [← efs] at hz
      exact hpo.2.2.2 z (List.mem_filter.mp hz).1
    have flen : fs.length ≤ 12 := by rw [← efs, ← zl]; exact List.length_filter_le _ _
    refine ⟨d, l, _, _, rfl, D2, .inl ⟨F, rfl, nFd, SqL.of eF⟩, by rw [List.length_map]; exact fpos, by rw [List.length_map]; omega, fun H3 v K3 D3 hv => ?_⟩
    obtain ⟨nm, hnm, rfl⟩ := List.mem_map.mp hv
    have nmo := fsub nm hnm
    have K03 := (K1.trans (Kp.of_same s2)).trans K3
    have eU3 := K3 _ _ ndU.1 (s2 _ _ eU)
    have epo3 := K3 _ _ npo (s2 _ _ epo1)
    -- the others
    refine ⟨_, rfl, _, rfl, po, rfl, ⟨_, SqL.of epo3⟩, fun O nO => ?_⟩
    have nOd := D3.nd nO
    refine lc_list (K := K) (a := po) (xs := zs.map sV) (fun i H' => ∃ ws : List (List Nat), ws.length ≤ i ∧ (∀ z ∈ ws, OkN z) ∧ Same H3 H' ∧ H' O = some (.lst (ws.map sV)))
      ⟨[], Nat.le_refl _, (fun _ h => nomatch h), same_upd (Same.refl H3) nO, upd_same⟩ ?_ ?_ ?_
    · rintro i H' _ ⟨_, _, _, s4, _⟩
      exact SqL.of (s4 _ _ epo3)
    · rintro i x H' hx ⟨ws, wl, hws, s4, eO⟩
      rw [List.getElem?_map] at hx
      obtain ⟨z, hz, rfl⟩ : ∃ z, zs[i]? = some z ∧ sV z = x := by
        cases h : zs[i]? with
        | none => rw [h] at hx; cases hx
        | some z => rw [h] at hx; exact ⟨z, rfl, Option.some.inj hx⟩
      have hi := (List.getElem?_eq_some_iff.mp hz).1
      have zo := hpo.2.2.2 z (List.mem_of_getElem? hz)
      refine ⟨rfl, ?_⟩
      refine ⟨_, rfl, _, rfl, U, us.map sV, rfl, .inl (SqL.of (s4 _ _ eU3)), rfl, flat_all _, !decide (z ∈ us), congrArg V.bl (congrArg Bool.not (inV_s z us)), ?_⟩
      by_cases hm : z ∈ us
      · rw [decide_eq_true hm]
        exact ⟨ws, by omega, hws, s4, eO⟩
      · rw [decide_eq_false hm]
        refine ⟨_, rfl, _, rfl, rfl, !decide (z = nm), congrArg V.bl (congrArg Bool.not (dec_s z nm)), ?_⟩
        by_cases hm2 : z = nm
        · rw [decide_eq_true hm2]
          exact ⟨ws, by omega, hws, s4, eO⟩
        · rw [decide_eq_false hm2]
          refine ⟨_, rfl, _, eO, by rw [List.length_map]; exact lt_size (by omega), ws ++ [z], by rw [List.length_append]; show ws.length + 1 ≤ i + 1; omega, fun y hy => ?_, same_mut s4 nO, by rw [upd_same, snoc_sV]⟩
          rcases List.mem_append.mp hy with h | h
          · exact hws y h
          · rw [List.mem_singleton.mp h]; exact zo
    rintro H4 ⟨ws, wl, hws, s4, eO⟩
    rw [List.length_map] at wl
    have K04 := K03.trans (Kp.of_same s4)
    have D4 := D3.keep s4
    refine ⟨U, O, _, _, rfl, rfl, s4 _ _ eU3, eO, by rw [List.length_map, List.length_map]; exact Nat.le_trans (show _ ≤ 1000 by omega) (by decide), fun N nN => ?_⟩
    rw [← List.map_append]
    have D5 := D4.new (o := .lst ((us ++ ws).map sV)) nN
    have K05 := K04.new (o := .lst ((us ++ ws).map sV)) nN
    have nNd := (D4.nd nN).1
    have eN : upd H4 N (.lst ((us ++ ws).map sV)) N = some (.lst ((us ++ ws).map sV)) := upd_same
    obtain ⟨H5, hH5⟩ : ∃ H5, upd H4 N (.lst ((us ++ ws).map sV)) = H5 := ⟨_, rfl⟩
    rw [hH5] at D5 K05 eN ⊢
    have okU : ∀ z ∈ us ++ ws, OkN z := fun z hz => by
      rcases List.mem_append.mp hz with h | h
      · exact hu z h
      · exact hws z h
    -- the parameters
    refine ⟨_, rfl, by show 5 ≤ sizeLine; decide, fun L nL => ?_⟩
    refine ⟨d, l, _, _, rfl, D5.new nL, .inl ⟨L, rfl, (D5.nd nL).1, SqL.of upd_same⟩, by show 0 < 5; decide, by show 5 ≤ 1000; decide, fun H6 v K6 D6 hv => ?_⟩
    obtain ⟨st, rfl, _⟩ : ∃ st : Nat, v = .int (st : Int) ∧ st ≤ 6 := by
      simp only [List.mem_cons, List.not_mem_nil, or_false] at hv
      rcases hv with rfl | rfl | rfl | rfl | rfl
      · exact ⟨0, rfl, by decide⟩
      · exact ⟨0, rfl, by decide⟩
      · exact ⟨1, rfl, by decide⟩
      · exact ⟨3, rfl, by decide⟩
      · exact ⟨6, rfl, by decide⟩
    have K56 := ((Kp.refl d H5).new (o := .lst [V.int 0, .int 0, .int 1, .int 3, .int 6]) nL).trans K6
    refine ⟨_, rfl, _, rfl, _, rfl, _, rfl, _, rfl, d, l, _, rfl, D6, by decide, fun H7 r K7 D7 _ r2 => ?_⟩
    have r3 := r2 (by decide)
    obtain ⟨j, rfl, hj⟩ : ∃ j : Nat, r = (j : Int) ∧ j ≤ 3 := ⟨r.toNat, by omega, by omega⟩
    have K57 := K56.trans K7
    refine ⟨_, _, rfl, rfl, _, rfl, N, _, rfl, SqL.of (K57 _ _ nNd eN), fun R nR => ?_⟩
    obtain ⟨ps, eps, psub, plen⟩ := cut_midS (ts := us ++ ws) (a := st) (b := st + j)
    rw [show ((st : Int) + (j : Int)) = ((st + j : Nat) : Int) from by omega, eps]
    have pok : ∀ z ∈ ps, OkN z := fun z hz => okU z (psub z hz)
    have D8 := D7.new (o := .lst (ps.map sV)) nR
    have K08 := (K05.trans K57).new (o := .lst (ps.map sV)) nR
    have nRd := (D7.nd nR).1
    have eR : upd H7 R (.lst (ps.map sV)) R = some (.lst (ps.map sV)) := upd_same
    obtain ⟨H8, hH8⟩ : ∃ H8, upd H7 R (.lst (ps.map sV)) = H8 := ⟨_, rfl⟩
    rw [hH8] at D8 K08 eR ⊢
    have ers8 := K08 _ _ nsc ers
    have epo8 := hpo.keep K08
    have hrs8 : ∀ v ∈ rs, SR H8 v := fun v hv => SR.stay _ _ _ (TKeep.kp K08 hD) (hrs v hv)
    -- the rows within
    refine ⟨_, rfl, R, rfl, ⟨_, SqL.of eR⟩, fun A1 nA => ?_⟩
    refine lc_list (K := K) (a := R) (xs := ps.map sV) (PvG SR d l H8 A1) (PvG.start D8 nA) ?_ ?_ ?_
    · rintro i H' _ p
      exact SqL.of (p.kp _ _ nRd eR)
    · rintro i x H' hx p
      rw [List.getElem?_map] at hx
      obtain ⟨z, hz, rfl⟩ : ∃ z, ps[i]? = some z ∧ sV z = x := by
        cases h : ps[i]? with
        | none => rw [h] at hx; cases hx
        | some z => rw [h] at hx; exact ⟨z, rfl, Option.some.inj hx⟩
      have hi := (List.getElem?_eq_some_iff.mp hz).1
      refine ⟨rfl, ?_⟩
      refine ⟨_, rfl, by show 2 ≤ sizeLine; decide, fun c nc => ?_⟩
      exact p.step SR.stay D8 nA (by omega) ((Kp.refl d H').new nc) (p.dice.new nc) ⟨c, z, 0, rfl, upd_same, pok z (List.mem_of_getElem? hz), by decide⟩
    rintro H9 ⟨vs1, vl1, hv1, K9, D9, e9⟩
    rw [List.length_map] at vl1
    have ers9 := K9 _ _ nsc ers8
    have eR9 := K9 _ _ nRd eR
    have nAd := (D8.nd nA).1
    have hrs9 : ∀ v ∈ rs, SR H9 v := fun v hv => SR.stay _ _ _ (TKeep.kp K9 D8) (hrs8 v hv)
    refine ⟨_, rfl, sc, rfl, ⟨_, SqL.of ers9⟩, fun B nB' => ?_⟩
    refine lc_list (K := K) (a := sc) (xs := rs) (fun i H' => ∃ vs2 : List V, vs2.length ≤ i ∧ (∀ v ∈ vs2, SR H9 v) ∧ Same H9 H' ∧ H' B = some (.lst vs2))
      ⟨[], Nat.le_refl _, (fun _ h => nomatch h), same_upd (Same.refl H9) nB', upd_same⟩ ?_ ?_ ?_
    · rintro i H' _ ⟨_, _, _, s5, _⟩
      exact SqL.of (s5 _ _ ers9)
    · rintro i x H' hx ⟨vs2, vl2, hv2, s5, eB⟩
      have hxs := hrs9 x (List.mem_of_getElem? hx)
      obtain ⟨p, z, k, rfl, ep, hz, hk⟩ := id hxs
      have hi := (List.getElem?_eq_some_iff.mp hx).1
      refine ⟨rfl, ?_⟩
      refine ⟨_, rfl, p, _, _, _, rfl, rfl, SqT.of (s5 _ _ ep), atI_nat (j := 0) rfl, _, rfl, R, ps.map sV, rfl, .inl (SqL.of (s5 _ _ eR9)), rfl, flat_all _, !decide (z ∈ ps), congrArg V.bl (congrArg Bool.not (inV_s z ps)), ?_⟩
      by_cases hm : z ∈ ps
      · rw [decide_eq_true hm]
        exact ⟨vs2, by omega, hv2, s5, eB⟩
      · rw [decide_eq_false hm]
        refine ⟨_, rfl, _, eB, lt_size (by omega), vs2 ++ [.ref p], by rw [List.length_append]; show vs2.length + 1 ≤ i + 1; omega, fun y hy => ?_, same_mut s5 nB', upd_same⟩
        rcases List.mem_append.mp hy with h | h
        · exact hv2 y h
        · rw [List.mem_singleton.mp h]; exact hxs
    rintro H10 ⟨vs2, vl2, hv2, s5, eB⟩
    have D10 := D9.keep s5
    refine ⟨A1, B, _, _, rfl, rfl, s5 _ _ e9, eB, Nat.le_trans (show _ ≤ 1000 by omega) (by decide), fun I nI => ?_⟩
    have D11 := D10.new (o := .lst (vs1 ++ vs2)) nI
    have K911 := (Kp.of_same s5 (d := d)).new (o := .lst (vs1 ++ vs2)) nI
    have K011 := (K08.trans K9).trans K911
    have tk11 : TKeep H9 (upd H10 I (.lst (vs1 ++ vs2))) := (TKeep.same s5).trans (TKeep.new nI)
    have sco : ScO (upd H10 I (.lst (vs1 ++ vs2))) d I := ⟨(D10.nd nI).1, vs1 ++ vs2, upd_same, by rw [List.length_append]; omega, fun v hv => by
      rcases List.mem_append.mp hv with h | h
      · exact SR.stay _ _ _ tk11 (hv1 v h)
      · exact SR.stay _ _ _ tk11 (hv2 v h)⟩
    have eR11 := K911 _ _ nRd eR9
    obtain ⟨H11, hH11⟩ : ∃ H11, upd H10 I (.lst (vs1 ++ vs2)) = H11 := ⟨_, rfl⟩
    rw [hH11] at D11 K011 sco eR11 ⊢
    -- the body
    refine ⟨_, rfl, _, rfl, d, l, _, rfl, D11, by decide, fun H12 m K12 D12 _ m2 => ?_⟩
    have m3 := m2 (by decide)
    obtain ⟨mm, rfl, hmm⟩ : ∃ mm : Nat, m = (mm : Int) ∧ mm ≤ 3 := ⟨m.toNat, by omega, by omega⟩
    refine ⟨_, rfl, _, rfl, _, rfl, _, rfl, d, l, I, po, zs, mm, 2, odd, rfl, by decide, by omega, D12, sco.keep K12 D11, hpo.keep (K011.trans K12), o0, o1, fun H13 b K13 D13 ⟨t, ht, dt, bt, lt, _⟩ => ?_⟩
    have K1113 := K12.trans K13
    have K013 := K011.trans K1113
    have eR13 := K1113 _ _ nRd eR11
    have hbv : BV H13 b := ⟨t, ht, dt, bt, by
      have e1 : nB 2 = 409 := by decide
      rw [e1] at lt
      omega⟩
    -- the words
    refine ⟨_, rfl, by show 1 ≤ sizeLine; decide, fun X1 nX1 => ⟨_, rfl, X1, R, _, _, rfl, rfl, upd_same, same_upd (Same.refl H13) nX1 _ _ eR13, by rw [List.length_map]; exact Nat.le_trans (show _ ≤ 1000 by show 1 + ps.length ≤ 1000; omega) (by decide), fun X2 nX2 => ?_⟩⟩
    have s13 := same_upd (o := .lst ([sV nm] ++ ps.map sV)) (same_upd (o := .lst [sV nm]) (Same.refl H13) nX1) nX2
    have D14 := (D13.new (o := .lst [sV nm]) nX1).new (o := .lst ([sV nm] ++ ps.map sV)) nX2
    have nX2d := ((D13.new (o := .lst [sV nm]) nX1).nd nX2).1
    have eX2 : upd (upd H13 X1 (.lst [sV nm])) X2 (.lst ([sV nm] ++ ps.map sV)) X2 = some (.lst ((nm :: ps).map sV)) := upd_same
    obtain ⟨H14, hH14⟩ : ∃ H14, upd (upd H13 X1 (.lst [sV nm])) X2 (.lst ([sV nm] ++ ps.map sV)) = H14 := ⟨_, rfl⟩
    rw [hH14] at s13 D14 eX2 ⊢
    have okN : ∀ z ∈ nm :: ps, OkN z := fun z hz => by
      rcases List.mem_cons.mp hz with rfl | h
      · exact nmo
      · exact pok z h
    refine ⟨X2, rfl, ⟨_, SqL.of eX2⟩, fun W nW => ?_⟩
    refine lc_list (K := K) (a := X2) (xs := (nm :: ps).map sV) (PvG WN d l H14 W) (PvG.start D14 nW) ?_ ?_ ?_
    · rintro i H' _ p
      exact SqL.of (p.kp _ _ nX2d eX2)
    · rintro i x H' hx p
      rw [List.getElem?_map] at hx
      obtain ⟨z, hz, rfl⟩ : ∃ z, (nm :: ps)[i]? = some z ∧ sV z = x := by
        cases h : (nm :: ps)[i]? with
        | none => rw [h] at hx; cases hx
        | some z => rw [h] at hx; exact ⟨z, rfl, Option.some.inj hx⟩
      have hi := (List.getElem?_eq_some_iff.mp hz).1
      rw [List.length_cons] at hi
      refine ⟨rfl, ?_⟩
      refine ⟨_, rfl, by show 2 ≤ sizeLine; decide, fun c nc => ?_⟩
      exact p.step WN.stay D14 nW (by omega) ((Kp.refl d H').new nc) (p.dice.new nc) (wn_word upd_same (okN z (List.mem_of_getElem? hz)))
    rintro H15 ⟨vs3, vl3, hv3, K15, D15, e15⟩
    rw [List.length_map, List.length_cons] at vl3
    refine ⟨W, vs3, rfl, .inl ⟨SqL.of e15, fun c nc => ⟨_, rfl, by show 2 ≤ sizeLine; decide, fun pp npp => ?_⟩⟩⟩
    have K1315 := (Kp.of_same s13 (d := d)).trans K15
    have t1 := TKeep.new (o := .tup vs3) nc
    have t2 := TKeep.new (o := .tup [.ref c, b]) npp
    have av : AV (upd (upd H15 c (.tup vs3)) pp (.tup [.ref c, b])) (.ref pp) := av_two upd_same (t2 _ _ upd_same) (fun v hv => WN.stay _ _ _ (t1.trans t2) (hv3 v hv)) (by omega) (BV.stay _ _ _ (((TKeep.same s13).trans (TKeep.kp K15 D14)).trans (t1.trans t2)) hbv)
    have D17 := (D15.new (o := .tup vs3) nc).new (o := .tup [.ref c, b]) npp
    have K1317 := (K1315.new (o := .tup vs3) nc).new (o := .tup [.ref c, b]) npp
    obtain ⟨H17, hH17⟩ : ∃ H17, upd (upd H15 c (.tup vs3)) pp (.tup [.ref c, b]) = H17 := ⟨_, rfl⟩
    rw [hH17] at av D17 K1317 ⊢
    -- bent or not
    refine ⟨fun σ' H' => ∃ v, σ' = [some (.ref d), some (.ref sc), some (.ref po), some (.int 2), some (.int odd), some (.ref U), some (sV nm), some (.ref N), some (.int (st : Int)), some (.ref R), some (.ref I), some b, some v, none, none] ∧ Kp d H13 H' ∧ DI d l H' ∧ AV H' v, ?_, ?_⟩
    · refine ⟨_, rfl, _, _, rfl, rfl, decide (0 < odd), rfl, ?_⟩
      by_cases h0 : 0 < odd
      · rw [decide_eq_true h0]
        refine ⟨_, rfl, _, rfl, d, l, odd, rfl, D17, by omega, fun H18 r K18 D18 _ _ => ⟨rfl, decide (r = 1), ?_, ?_⟩⟩
        · exact congrArg V.bl (decide_eq_decide.mpr ⟨fun e => V.int.inj e, fun e => by rw [e]⟩)
        have K1318 := K1317.trans K18
        by_cases h1 : r = 1
        · rw [decide_eq_true h1]
          have eR18 := K1318 _ _ nRd eR13
          refine ⟨_, rfl, _, rfl, by show 1 ≤ sizeLine; decide, fun Y1 nY1 => ⟨_, rfl, Y1, R, _, _, rfl, rfl, upd_same, same_upd (Same.refl H18) nY1 _ _ eR18, by rw [List.length_map]; exact Nat.le_trans (show _ ≤ 1000 by show 1 + ps.length ≤ 1000; omega) (by decide), fun Y2 nY2 => ?_⟩⟩
          have D19 := (D18.new (o := .lst [sV nm]) nY1).new (o := .lst ([sV nm] ++ ps.map sV)) nY2
          have K1319 := (K1318.new (o := .lst [sV nm]) nY1).new (o := .lst ([sV nm] ++ ps.map sV)) nY2
          have K019 := K013.trans K1319
          refine ⟨_, rfl, _, rfl, d, l, Y2, sc, b, nm :: ps, rfl, D19, ((D18.new (o := .lst [sV nm]) nY1).nd nY2).1, upd_same, by rw [List.length_cons]; omega, by rw [List.length_cons]; omega, okN, BV.stay _ _ _ (TKeep.kp K1319 D13) hbv, ⟨nsc, rs, K019 _ _ nsc ers, by omega, fun v hv => SR.stay _ _ _ (TKeep.kp K019 hD) (hrs v hv)⟩, fun H20 v K20 D20 hv => ?_⟩
          exact ⟨v, rfl, K1319.trans K20, D20, hv⟩
        · rw [decide_eq_false h1]
          exact ⟨_, rfl, K1318, D18, AV.stay _ _ _ (TKeep.kp K18 D17) av⟩
      · rw [decide_eq_false h0]
        exact ⟨_, rfl, K1317, D17, av⟩
    · rintro σ' H18 ⟨v, rfl, K18, D18, ⟨aq, avs, aa, rfl, eaq, hAr, da, ba, la⟩⟩
      have eR18 := K18 _ _ nRd eR13
      refine ⟨_, rfl, by show 3 ≤ sizeLine; decide, fun x1 nx1 => ?_⟩
      have u1 := TKeep.new (o := .tup [V.str "call", V.str "let", .ref aq]) nx1
      refine ⟨_, rfl, _, rfl, R, _, rfl, .inl (SqL.of (same_upd (Same.refl H18) nx1 _ _ eR18)), by show 2 ≤ sizeLine; decide, fun x2 nx2 => ⟨by show 2 ≤ sizeLine; decide, fun x3 nx3 => ?_⟩⟩
      have u2 := TKeep.new (o := .tup [sV nm, .int ((ps.map sV).length : Nat)]) nx2
      have u3 := TKeep.new (o := .tup [.ref x1, .ref x2]) nx3
      have ex1 := (u2.trans u3) _ _ (upd_same (a := x1) (o := .tup [V.str "call", V.str "let", .ref aq]))
      have ex2 := u3 _ _ (upd_same (a := x2) (o := .tup [sV nm, .int ((ps.map sV).length : Nat)]))
      refine q _ x3 (.ref x1) (.ref x2) (((K013.trans K18).new nx1).new nx2 |>.new nx3) (((D18.new nx1).new nx2).new nx3) upd_same ⟨.call letN aa, ⟨x1, aq, avs, rfl, ?_, (u1.trans (u2.trans u3)) _ _ eaq, hAr.keep (u1.trans (u2.trans u3))⟩, da, ⟨let_ok, ba⟩, ?_⟩ ⟨x2, nm, ps.length, rfl, ?_, nmo, by omega⟩
      · rw [ex1, let_sV]; rfl
      · simp only [Nd.tr, toksT, List.length_cons, List.length_append, List.length_nil]
        omega
      · rw [ex2, List.length_map]
end
end Vf

set_option Elab.async false
set_option linter.all false
set_option maxRecDepth 100000
set_option maxHeartbeats 4000000
namespace Vf
open PySem PySem.Spec PyProof.Rows L2 TL
theorem NO.ln {H : Hp} {v : V} (h : NO 2 H v) : LN H v := by
  obtain ⟨nd, a, b, c, e⟩ := h
  have e1 : nB 2 = 409 := by decide
  exact ⟨nd, a, by omega, c, by omega⟩
theorem ln_tr {H : Hp} : ∀ {vs : List V}, (∀ v ∈ vs, LN H v) → ∃ t, RepT H t vs ∧ depT t ≤ 4 ∧ BT 100 t ∧ (toksT t).length ≤ vs.length * 2100
  | [], _ => ⟨.nil, by simp only [RepT], by simp only [depT]; omega, trivial, by simp only [toksT, List.length_nil]; omega⟩
  | v :: vs, h => by
    obtain ⟨r, hr, d1, b1, l1⟩ := ln_tr (vs := vs) fun u hu => h u (List.mem_cons_of_mem _ hu)
    obtain ⟨nd, hv, d2, b2, l2⟩ := h v List.mem_cons_self
    refine ⟨nd.tr r, ?_, by rw [depT_tr]; omega, ?_, ?_⟩
    · cases nd with
      | word z =>
        obtain ⟨p, rfl, e⟩ := hv
        simp only [Nd.tr, RepT]
        exact ⟨p, vs, rfl, e, hr⟩
      | call nm a =>
        obtain ⟨p, q, us, rfl, e, e2, hA⟩ := hv
        simp only [Nd.tr, RepT]
        exact ⟨p, q, us, vs, rfl, e, e2, hA, hr⟩
    · cases nd with
      | word z => exact ⟨b2, b1⟩
      | call nm a => exact ⟨b2.1, b2.2, b1⟩
    · rw [toksT_tr, List.length_cons, Nat.succ_mul]
      omega
section
variable {P : Program} {w : World} {K : PySem.W.Frag} {mg : Str → Option Value} {base : Heap}
def spWorld : Sp := fun vs H Q _ => ∃ (d l po : Addr) (zs : List (List Nat)) (m : Nat) (odd : Int), vs = [.ref d, .int (m : Int), .ref po, .int 2, .int odd] ∧ DI d l H ∧ m ≤ 10 ∧ PoO H d po zs ∧ zs.length = 12 ∧ zs.Nodup ∧ 0 ≤ odd ∧ odd ≤ 1000 ∧
  ∀ H' p vs, Kp d H H' → DI d l H' → H p = none → H' p = some (.lst vs) → (∀ v ∈ vs, LN H' v) → vs.length = m → Q (.ref p) H'
theorem ok_world (T : Txt K mg) : FnOk P w K mg base CX0 14 T.a_law_world T.d_law_world ["_law_d", "_law_many", "_law_pool", "_law_deep_here", "_law_odd"] spWorld := by
  have G_law_draw : FnOk P w K mg base CX0 1 T.a_law_draw T.d_law_draw ["_law_d", "_law_many"] spDraw := ok_draw T
  have G_law_let : FnOk P w K mg base CX0 13 T.a_law_let T.d_law_let ["_law_d", "_law_scope", "_law_pool", "_law_deep_here", "_law_odd"] spLet := ok_let T
  have G_law_node : FnOk P w K mg base CX0 11 T.a_law_node T.d_law_node ["_law_d", "_law_scope", "_law_pool", "_law_deep_here", "_law_odd"] (spNode 3) := ok_node T 3
  refine T.D_law_world.F.ok sc_law_world (fun vs H Q E h => ?_) (fun cdv A outer s H vs Q E hr h => ?_)
  · obtain ⟨d, l, po, zs, m, odd, rfl, _⟩ := h
    rfl
  · obtain ⟨d, l, po, zs, m, odd, rfl, hD, hm, hpo, zl, zn, o0, o1, q⟩ := h
    refine ⟨_, (pss_cons (ps_set (i := 5) sc_law_world.nd rfl (.inl rfl) (pe_lst pa_nil))
      (pss_cons (ps_set (i := 6) sc_law_world.nd rfl (.inl rfl) (pe_lst pa_nil))
      (pss_cons (ps_for PassesOwn.never rfl (pi_range1 (by rfl) T.n_range (pa_cons (pv 1) pa_nil)) (pg_name (i := 7) sc_law_world.nd rfl (.inl rfl)) (pss_one (ps_if (pt_cmpR op_eq (pe_call G_law_draw (hr.mono (by decide)) (by rfl) T.D_law_draw.G T.D_law_draw.F.kp T.D_law_draw.B .nil pass0 (pa_cons (pv 0) (pa_cons pe_int pa_nil))) pe_int (nomark _)) (pss_cons (ps_asg (pe_call G_law_let (hr.mono (by decide)) (by rfl) T.D_law_let.G T.D_law_let.F.kp T.D_law_let.B .nil pass0 (pa_cons (pv 0) (pa_cons (pv 5) (pa_cons (pv 2) (pa_cons (pv 3) (pa_cons (pv 4) pa_nil)))))) (pg_tup (by rfl) (pgs_cons (pg_name (i := 8) sc_law_world.nd rfl (.inl rfl)) (pgs_cons (pg_name (i := 9) sc_law_world.nd rfl (.inl rfl)) pgs_nil))))
      (pss_cons (ps_set (i := 5) sc_law_world.nd rfl (.inl rfl) (pe_op op_cat (pv 5) (pe_lst (pa_cons (pv 9) pa_nil))))
      (pss_one (ps_expr (pe_bm PySem.F.plainAttrs_list PySem.F.slot_list_append PySem.F.type_list_append mt_append (pv 6) (pa_cons (pv 8) pa_nil)))))) (pss_one (ps_expr (pe_bm PySem.F.plainAttrs_list PySem.F.slot_list_append PySem.F.type_list_append mt_append (pv 6) (pa_cons (pe_call G_law_node (hr.mono (by decide)) (by rfl) T.D_law_node.G T.D_law_node.F.kp T.D_law_node.B .nil pass0 (pa_cons (pv 0) (pa_cons (pv 5) (pa_cons (pv 2) (pa_cons (pv 3) (pa_cons (pv 4) pa_nil)))))) pa_nil)))))))
      (pss_one (ps_ret (pv 6)))))), ?_⟩
    refine ⟨by show 0 ≤ sizeLine; decide, fun S nS => ?_⟩
    have D1 := hD.new (o := .lst []) nS
    have K1 := (Kp.refl d H).new (o := .lst []) nS
    have nSd := (hD.nd nS).1
    have eS : upd H S (.lst []) S = some (.lst []) := upd_same
    obtain ⟨H1, hH1⟩ : ∃ H1, upd H S (.lst []) = H1 := ⟨_, rfl⟩
    rw [hH1] at D1 K1 eS ⊢
    refine ⟨by show 0 ≤ sizeLine; decide, fun L nL => ?_⟩
    have nLH := K1.freeD D1 nL
    have ndL := hD.nd nLH
    have nSL : S ≠ L := fun z => by rw [z, nL] at eS; cases eS
    refine ⟨_, rfl, _, rfl, by omega, by omega, ?_⟩
    refine for_range (lo := 0) (n := ((m : Int)).toNat) (fun i σ' H' => ∃ (S : Addr) (rs vs : List V) (x7 x8 x9 : Option V), σ' = [some (.ref d), some (.int (m : Int)), some (.ref po), some (.int 2), some (.int odd), some (.ref S), some (.ref L), x7, x8, x9] ∧ Kp d H H' ∧ DI d l H' ∧ S ≠ d ∧ S ≠ L ∧ H' S = some (.lst rs) ∧ rs.length ≤ i ∧ (∀ v ∈ rs, SR H' v) ∧ H' L = some (.lst vs) ∧ (∀ v ∈ vs, LN H' v) ∧ vs.length = i)
      ⟨S, [], [], none, none, none, rfl, K1.new nL, D1.new nL, nSd, nSL, by rw [upd_ne nSL]; exact eS, Nat.le_refl _, (fun _ h => nomatch h), upd_same, (fun _ h => nomatch h), rfl⟩ ?_ ?_
    · rintro i σ' H2 hi ⟨S, rs, vs, x7, x8, x9, rfl, K2, D2, nSd, nSL, eS, rl, hrs, eL, hvs, vl⟩
      refine ⟨_, rfl, d, l, _, rfl, D2, by decide, fun H3 r K3 D3 _ _ => ⟨rfl, decide (r = 1), ?_, ?_⟩⟩
      · exact congrArg V.bl (decide_eq_decide.mpr ⟨fun e => V.int.inj e, fun e => by rw [e]⟩)
      have K03 := K2.trans K3
      have tk3 := TKeep.kp K3 D2
      have eS3 := K3 _ _ nSd eS
      have eL3 := K3 _ _ ndL.1 eL
      have hrs3 : ∀ v ∈ rs, SR H3 v := fun v hv => SR.stay _ _ _ tk3 (hrs v hv)
      have hvs3 : ∀ v ∈ vs, LN H3 v := fun v hv => LN.stay _ _ _ tk3 (hvs v hv)
      by_cases h1 : r = 1
      · rw [decide_eq_true h1]
        refine ⟨_, rfl, _, rfl, _, rfl, _, rfl, _, rfl, d, l, S, po, zs, odd, rs, rfl, D3, nSd, eS3, by omega, hrs3, hpo.keep K03, zl, zn, o0, o1, fun H4 p v rw' K4 D4 ep hv hrow => ?_⟩
        refine ⟨p, _, rfl, SqT.of ep, rfl, _, _, rfl, _, _, rfl, rfl, ?_⟩
        have tk4 := TKeep.kp K4 D3
        have eS4 := K4 _ _ nSd eS3
        have eL4 := K4 _ _ ndL.1 eL3
        refine ⟨_, rfl, _, rfl, by show 1 ≤ sizeLine; decide, fun X nX => ?_⟩
        have eSX := same_upd (o := .lst [rw']) (Same.refl H4) nX _ _ eS4
        refine ⟨S, X, _, _, rfl, rfl, eSX, upd_same, Nat.le_trans (show _ ≤ 1000 by show rs.length + 1 ≤ 1000; omega) (by decide), fun S2 nS2 => ?_⟩
        have s5 := same_upd (o := .lst (rs ++ [rw'])) (same_upd (o := .lst [rw']) (Same.refl H4) nX) nS2
        have D5 := (D4.new (o := .lst [rw']) nX).new (o := .lst (rs ++ [rw'])) nS2
        have nS2d := ((D4.new (o := .lst [rw']) nX).nd nS2).1
        have eL5 := s5 _ _ eL4
        have nS2L : S2 ≠ L := fun z => by
          have := same_upd (o := .lst [rw']) (Same.refl H4) nX _ _ eL4
          rw [z, this] at nS2; cases nS2
        refine ⟨.ref L, rfl, .inl ⟨rfl, _, SqL.of eL5⟩, _, rfl, L, vs, v, rfl, rfl, eL5, lt_size (by omega), ?_⟩
        have tkm := TKeep.mut (o := .lst (vs ++ [v])) eL5
        have tk45 := TKeep.same s5
        refine ⟨S2, rs ++ [rw'], vs ++ [v], _, _, _, rfl, ((K03.trans K4).trans (Kp.of_same s5)).mut nLH, D5.at ndL.1 ndL.2, nS2d, nS2L, by rw [upd_ne nS2L]; exact upd_same, by rw [List.length_append]; show rs.length + 1 ≤ i + 1; omega, fun y hy => ?_, upd_same, fun y hy => ?_, by rw [List.length_append, vl]; rfl⟩
        · rcases List.mem_append.mp hy with h | h
          · exact SR.stay _ _ _ ((tk4.trans tk45).trans tkm) (hrs3 y h)
          · rw [List.mem_singleton.mp h]; exact SR.stay _ _ _ (tk45.trans tkm) hrow
        · rcases List.mem_append.mp hy with h | h
          · exact LN.stay _ _ _ ((tk4.trans tk45).trans tkm) (hvs3 y h)
          · rw [List.mem_singleton.mp h]; exact LN.stay _ _ _ (tk45.trans tkm) hv
      · rw [decide_eq_false h1]
        refine ⟨.ref L, rfl, .inl ⟨rfl, _, SqL.of eL3⟩, _, rfl, _, rfl, _, rfl, _, rfl, _, rfl, d, l, S, po, zs, 2, odd, rfl, by decide, D3, ⟨nSd, rs, eS3, by omega, hrs3⟩, hpo.keep K03, o0, o1, fun H4 v K4 D4 hv => ?_⟩
        have tk4 := TKeep.kp K4 D3
        have eL4 := K4 _ _ ndL.1 eL3
        have tkm := TKeep.mut (o := .lst (vs ++ [v])) eL4
        refine ⟨L, vs, v, rfl, rfl, eL4, lt_size (by omega), S, rs, vs ++ [v], _, _, _, rfl, (K03.trans K4).mut nLH, D4.at ndL.1 ndL.2, nSd, nSL, by rw [upd_ne nSL]; exact K4 _ _ nSd eS3, by omega, fun y hy => SR.stay _ _ _ (tk4.trans tkm) (hrs3 y hy), upd_same, fun y hy => ?_, by rw [List.length_append, vl]; rfl⟩
        rcases List.mem_append.mp hy with h | h
        · exact LN.stay _ _ _ (tk4.trans tkm) (hvs3 y h)
        · rw [List.mem_singleton.mp h]; exact LN.stay _ _ _ tkm (NO.ln hv)
    · rintro σ' H2 ⟨S, rs, vs, x7, x8, x9, rfl, K2, D2, nSd, nSL, eS, rl, hrs, eL, hvs, vl⟩
      exact ⟨_, rfl, q H2 L vs K2 D2 nLH eL hvs (by omega)⟩
theorem str_sV (s : Str) : V.str s = sV s.cps.toList := by show V.str s = V.str (mkS s.cps.toList); rw [mkS_of]
end
end Vf

set_option Elab.async false
set_option linter.all false
set_option maxRecDepth 100000
set_option maxHeartbeats 4000000
namespace Vf
open PySem PySem.Spec PyProof.Rows L2 TL
/-! ### the sizes of a tree, as the program finds them (pairs: how often, how deep) and as the law finds them (numbers) -/
abbrev PS := List (Int × Int)
abbrev Sz := List (List Nat × PS)
abbrev Fm := List (List Nat × List Int)
def bes (a b : PS) : PS := List.zipWith (fun x y => (x.1 + y.1, if y.2 > x.2 then y.2 else x.2)) a b
def putAt (p : Int × Int) (s : PS) : PS := s.map fun x => if p.1 * x.1 > 0 then (p.1 * x.1, p.2 + x.2) else (0, 0)
def builtS (k : Nat) : PS := (1, if (1 : Int) < (k : Int) then 1 else (k : Int)) :: List.replicate k (1, 1)
def noneS (ps : List (List Nat)) : PS := List.replicate ps.length (0, 0)
def paramS (ps : List (List Nat)) (n : List Nat) : PS := (0, 0) :: ps.map fun p => if n = p then (1, 0) else (0, 0)
def wholeS (sz : Sz) (n : List Nat) (k : Nat) : PS := match sz.lookup n with
  | some s => s
  | none => builtS k
mutual
def pszT (ps : List (List Nat)) (sz : Sz) : PS → Tr → PS
  | acc, .nil => acc
  | acc, .word _ r => pszT ps sz (bes acc ((1, 0) :: noneS ps)) r
  | acc, .call n a r => pszT ps sz (bes acc (if n ∈ ps then paramS ps n else
      pszA ps sz (wholeS sz n (lenA a)).tail ((wholeS sz n (lenA a)).headD (0, 0) :: noneS ps) a)) r
def pszA (ps : List (List Nat)) (sz : Sz) : PS → PS → Ar → PS
  | _, acc, .nil => acc
  | [], acc, .cons _ _ => acc
  | pl :: pls, acc, .cons t r => pszA ps sz pls (bes acc (putAt pl (pszT ps sz ((0, 0) :: noneS ps) t))) r
end
def dot : List Int → List Int → Int
  | c :: cs, v :: vs => c * v + dot cs vs
  | _, _ => 0
def formS (fm : Fm) (n : List Nat) (k : Nat) : List Int := match fm.lookup n with
  | some f => f
  | none => List.replicate (k + 1) 1
mutual
def lszT (sg : List (List Nat × Int)) (fm : Fm) : Tr → Int
  | .nil => 0
  | .word _ r => 1 + lszT sg fm r
  | .call n a r => (match sg.lookup n with
      | some x => x
      | none => (formS fm n (lenA a)).headD 0 + dot (formS fm n (lenA a)).tail (lszA sg fm a)) + lszT sg fm r
def lszA (sg : List (List Nat × Int)) (fm : Fm) : Ar → List Int
  | .nil => []
  | .cons t r => lszT sg fm t :: lszA sg fm r
end
def fsS (s : PS) : List Int := s.map Prod.fst
def NN (s : PS) : Prop := ∀ x ∈ s, 0 ≤ x.1
theorem bes_length {a b : PS} (h : a.length = b.length) : (bes a b).length = a.length := by
  unfold bes; rw [List.length_zipWith]; omega
theorem put_length {p : Int × Int} {s : PS} : (putAt p s).length = s.length := List.length_map ..
theorem none_length {ps : List (List Nat)} : (noneS ps).length = ps.length := List.length_replicate ..
theorem dot_bes {c : List Int} : ∀ {a b : PS}, a.length = b.length → dot c (fsS (bes a b)) = dot c (fsS a) + dot c (fsS b) := by
  induction c with
  | nil => intro a b _; simp [dot]
  | cons x c ih =>
    intro a b h
    cases a with
    | nil => cases b with
      | nil => rfl
      | cons _ _ => cases h
    | cons u a => cases b with
      | nil => cases h
      | cons v b =>
        have h2 : a.length = b.length := by simpa using h
        show x * (u.1 + v.1) + dot c (fsS (bes a b)) = x * u.1 + dot c (fsS a) + (x * v.1 + dot c (fsS b))
        rw [ih h2, Int.mul_add]; omega
theorem nn_bes : ∀ {a b : PS}, NN a → NN b → NN (bes a b)
  | [], _, _, _ => fun x h => by simp [bes] at h
  | _ :: _, [], _, _ => fun x h => by simp [bes] at h
  | u :: a, v :: b, ha, hb => fun x h => by
    have h' : x ∈ (u.1 + v.1, if v.2 > u.2 then v.2 else u.2) :: bes a b := h
    rcases List.mem_cons.mp h' with e | e
    · rw [e]
      have h1 := ha u List.mem_cons_self
      have h2 := hb v List.mem_cons_self
      show 0 ≤ u.1 + v.1; omega
    · exact nn_bes (fun y hy => ha y (List.mem_cons_of_mem _ hy)) (fun y hy => hb y (List.mem_cons_of_mem _ hy)) x e
theorem nn_put {p : Int × Int} {s : PS} : NN (putAt p s) := fun x h => by
  obtain ⟨y, _, rfl⟩ := List.mem_map.mp h
  split
  · show 0 ≤ p.1 * y.1; omega
  · exact Int.le_refl 0
theorem put_fst {p x : Int × Int} (hp : 0 ≤ p.1) (hx : 0 ≤ x.1) : (if p.1 * x.1 > 0 then (p.1 * x.1, p.2 + x.2) else ((0 : Int), (0 : Int))).1 = p.1 * x.1 := by
  have h := Int.mul_nonneg hp hx
  split
  · rfl
  · show (0 : Int) = _; omega
theorem dot_put {p : Int × Int} (hp : 0 ≤ p.1) {c : List Int} : ∀ {s : PS}, NN s → dot c (fsS (putAt p s)) = p.1 * dot c (fsS s) := by
  induction c with
  | nil => intro s _; simp [dot]
  | cons x c ih =>
    intro s h
    cases s with
    | nil => simp [dot, putAt, fsS]
    | cons u s =>
      have e : fsS (putAt p (u :: s)) = (p.1 * u.1) :: fsS (putAt p s) := by
        show (if p.1 * u.1 > 0 then (p.1 * u.1, p.2 + u.2) else ((0 : Int), (0 : Int))).1 :: fsS (putAt p s) = _
        rw [put_fst hp (h u List.mem_cons_self)]
      rw [e]
      show x * (p.1 * u.1) + dot c (fsS (putAt p s)) = p.1 * (x * u.1 + dot c (fsS s))
      rw [ih fun y hy => h y (List.mem_cons_of_mem _ hy), Int.mul_add, Int.mul_left_comm]
theorem dot_none {ps : List (List Nat)} {c : List Int} : dot c (fsS (noneS ps)) = 0 := by
  unfold noneS fsS
  rw [List.map_replicate]
  generalize ps.length = n
  induction n generalizing c with
  | zero => cases c <;> rfl
  | succ n ih =>
    cases c with
    | nil => rfl
    | cons x c => show x * 0 + dot c (List.replicate n 0) = 0; rw [ih]; omega
theorem nn_none {ps : List (List Nat)} : NN (noneS ps) := fun x h => by
  rw [(List.mem_replicate.mp h).2]; exact Int.le_refl 0
theorem dot_ind {n : List Nat} : ∀ {ps : List (List Nat)} {σ : List Int} {x : Int}, ps.Nodup → ps.length = σ.length → (ps.zip σ).lookup n = some x → dot σ (fsS (ps.map fun p => if n = p then ((1 : Int), (0 : Int)) else (0, 0))) = x
  | [], σ, x, _, _, h => by simp at h
  | p :: ps, [], x, _, h, _ => by simp at h
  | p :: ps, s :: σ, x, hn, hl, h => by
    have hl2 : ps.length = σ.length := by simpa using hl
    obtain ⟨hp, hn2⟩ := List.nodup_cons.mp hn
    show s * (if n = p then ((1 : Int), (0 : Int)) else (0, 0)).1 + dot σ (fsS (ps.map fun p => if n = p then ((1 : Int), (0 : Int)) else (0, 0))) = x
    by_cases e : n = p
    · subst e
      have h2 : some s = some x := by simpa [List.lookup] using h
      have h3 : fsS (ps.map fun p => if n = p then ((1 : Int), (0 : Int)) else (0, 0)) = fsS (noneS ps) := by
        unfold fsS noneS
        rw [List.map_map, List.map_replicate]
        apply List.ext_getElem
        · simp
        · intro i h1 h2
          have hm : n ≠ ps[i]'(by simpa using h1) := fun z => hp (z ▸ List.getElem_mem _)
          simp [hm]
      rw [if_pos rfl, h3, dot_none, Option.some.inj h2]; simp
    · have h2 : (ps.zip σ).lookup n = some x := by
        have e2 : (n == p) = false := by simpa using e
        simpa [List.lookup, e2] using h
      rw [if_neg e, dot_ind hn2 hl2 h2]; simp
/-! ### the program's sizes are the law's -/
structure SzOk (sz : Sz) (fm : Fm) : Prop where
  fst : ∀ n, (sz.lookup n).map fsS = fm.lookup n
  nn : ∀ n s, sz.lookup n = some s → NN s ∧ 0 < s.length
/-- every call has as many arguments as its macro asks, and no macro is unknown -/
def WfN (ps : List (List Nat)) (sz : Sz) (n : List Nat) (k : Nat) : Prop := n ∉ ps → ∀ s, sz.lookup n = some s → s.length = k + 1
mutual
def WfT (ps : List (List Nat)) (sz : Sz) : Tr → Prop
  | .nil => True
  | .word _ r => WfT ps sz r
  | .call n a r => WfN ps sz n (lenA a) ∧ WfA ps sz a ∧ WfT ps sz r
def WfA (ps : List (List Nat)) (sz : Sz) : Ar → Prop
  | .nil => True
  | .cons t r => WfT ps sz t ∧ WfA ps sz r
end
theorem whole_len {ps : List (List Nat)} {sz : Sz} {n : List Nat} {k : Nat} (h : WfN ps sz n k) (hn : n ∉ ps) : (wholeS sz n k).length = k + 1 := by
  unfold wholeS
  cases e : sz.lookup n with
  | some s => exact h hn s e
  | none => show (builtS k).length = k + 1; unfold builtS; rw [List.length_cons, List.length_replicate]
theorem whole_nn {sz : Sz} {fm : Fm} (o : SzOk sz fm) {n : List Nat} {k : Nat} : NN (wholeS sz n k) := by
  unfold wholeS
  cases e : sz.lookup n with
  | some s => exact (o.nn n s e).1
  | none =>
    intro x hx
    rcases List.mem_cons.mp hx with h | h
    · rw [h]; show (0 : Int) ≤ 1; decide
    · rw [(List.mem_replicate.mp h).2]; show (0 : Int) ≤ 1; decide
theorem whole_fst {sz : Sz} {fm : Fm} (o : SzOk sz fm) {n : List Nat} {k : Nat} : fsS (wholeS sz n k) = formS fm n k := by
  unfold wholeS formS
  have h := o.fst n
  cases e : sz.lookup n with
  | some s => rw [e] at h; rw [← h]; rfl
  | none =>
    rw [e] at h; rw [← h]
    show fsS (builtS k) = List.replicate (k + 1) 1
    unfold builtS fsS
    rw [List.map_cons, List.map_replicate, List.replicate_succ]
theorem head_fst {s : PS} : (fsS s).headD 0 = (s.headD (0, 0)).1 := by cases s <;> rfl
theorem tail_fst {s : PS} : (fsS s).tail = fsS s.tail := by cases s <;> rfl
theorem nn_tail {s : PS} (h : NN s) : NN s.tail := fun x hx => h x (List.mem_of_mem_tail hx)
theorem nn_head {s : PS} (h : NN s) : 0 ≤ (s.headD (0, 0)).1 := by
  cases s with
  | nil => exact Int.le_refl 0
  | cons x s => exact h x List.mem_cons_self
theorem zip_some {n : List Nat} : ∀ {ps : List (List Nat)} {σ : List Int}, ps.length = σ.length → n ∈ ps → ∃ x, (ps.zip σ).lookup n = some x
  | [], _, _, h => by cases h
  | p :: ps, [], h, _ => by cases h
  | p :: ps, s :: σ, hl, h => by
    by_cases e : n = p
    · exact ⟨s, by subst e; simp [List.lookup]⟩
    · obtain ⟨x, hx⟩ := zip_some (ps := ps) (σ := σ) (by simpa using hl) ((List.mem_cons.mp h).resolve_left e)
      exact ⟨x, by have e2 : (n == p) = false := by simpa using e
                   simpa [List.lookup, e2] using hx⟩
theorem zip_none {n : List Nat} : ∀ {ps : List (List Nat)} {σ : List Int}, n ∉ ps → (ps.zip σ).lookup n = none
  | [], _, _ => rfl
  | _ :: _, [], _ => rfl
  | p :: ps, s :: σ, h => by
    have e2 : (n == p) = false := beq_eq_false_iff_ne.mpr fun (e : n = p) => h (e ▸ List.mem_cons_self)
    simpa [List.lookup, e2] using zip_none (σ := σ) fun hh => h (List.mem_cons_of_mem _ hh)
theorem cons_none_len {ps : List (List Nat)} {x : Int × Int} : (x :: noneS ps).length = ps.length + 1 := by rw [List.length_cons, none_length]
theorem nn_cons_none {ps : List (List Nat)} {x : Int × Int} (h : 0 ≤ x.1) : NN (x :: noneS ps) := fun y hy => by
  rcases List.mem_cons.mp hy with e | e
  · rw [e]; exact h
  · exact nn_none y e
theorem dot_cons_none {ps : List (List Nat)} {σ : List Int} {x : Int × Int} : dot (1 :: σ) (fsS (x :: noneS ps)) = x.1 := by
  show 1 * x.1 + dot σ (fsS (noneS ps)) = x.1
  rw [dot_none]; omega
section
variable {ps : List (List Nat)} {sz : Sz} {fm : Fm} {σ : List Int}
mutual
theorem pszT_ok (o : SzOk sz fm) (hn : ps.Nodup) (hl : ps.length = σ.length) : ∀ {t : Tr} {acc : PS}, WfT ps sz t → acc.length = ps.length + 1 → NN acc →
    (pszT ps sz acc t).length = ps.length + 1 ∧ NN (pszT ps sz acc t) ∧ dot (1 :: σ) (fsS (pszT ps sz acc t)) = dot (1 :: σ) (fsS acc) + lszT (ps.zip σ) fm t
  | .nil, acc, _, ha, na => by
    simp only [pszT, lszT]
    exact ⟨ha, na, by omega⟩
  | .word _ r, acc, w, ha, na => by
    simp only [pszT, lszT]
    simp only [WfT] at w
    have e1 : acc.length = ((((1 : Int), (0 : Int)) :: noneS ps)).length := by rw [cons_none_len, ha]
    have ⟨h1, h2, h3⟩ := pszT_ok o hn hl (t := r) (acc := bes acc ((1, 0) :: noneS ps)) w (by rw [bes_length e1, ha]) (nn_bes na (nn_cons_none (by show (0 : Int) ≤ 1; decide)))
    refine ⟨h1, h2, ?_⟩
    rw [h3, dot_bes e1, dot_cons_none]; show _ + (1 : Int) + _ = _; omega
  | .call n a r, acc, w, ha, na => by
    simp only [WfT] at w
    obtain ⟨w1, w2, w3⟩ := w
    have key : ∀ N : PS, N.length = ps.length + 1 → NN N → dot (1 :: σ) (fsS N) = (match (ps.zip σ).lookup n with
        | some x => x
        | none => (formS fm n (lenA a)).headD 0 + dot (formS fm n (lenA a)).tail (lszA (ps.zip σ) fm a)) →
        (pszT ps sz (bes acc N) r).length = ps.length + 1 ∧ NN (pszT ps sz (bes acc N) r) ∧ dot (1 :: σ) (fsS (pszT ps sz (bes acc N) r)) = dot (1 :: σ) (fsS acc) + ((match (ps.zip σ).lookup n with
        | some x => x
        | none => (formS fm n (lenA a)).headD 0 + dot (formS fm n (lenA a)).tail (lszA (ps.zip σ) fm a)) + lszT (ps.zip σ) fm r) := fun N nl nn nd => by
      have e1 : acc.length = N.length := by rw [nl, ha]
      have ⟨h1, h2, h3⟩ := pszT_ok o hn hl (t := r) (acc := bes acc N) w3 (by rw [bes_length e1, ha]) (nn_bes na nn)
      exact ⟨h1, h2, by rw [h3, dot_bes e1, nd]; omega⟩
    simp only [pszT, lszT]
    by_cases hm : n ∈ ps
    · rw [if_pos hm]
      obtain ⟨x, hx⟩ := zip_some (σ := σ) hl hm
      refine key (paramS ps n) (by unfold paramS; rw [List.length_cons, List.length_map]) (fun y hy => ?_) ?_
      · rcases List.mem_cons.mp hy with e | e
        · rw [e]; exact Int.le_refl 0
        · obtain ⟨p, _, rfl⟩ := List.mem_map.mp e
          split
          · show (0 : Int) ≤ 1; decide
          · exact Int.le_refl 0
      · rw [hx]
        show 1 * 0 + dot σ (fsS (ps.map fun p => if n = p then ((1 : Int), (0 : Int)) else (0, 0))) = x
        rw [dot_ind hn hl hx]; omega
    · rw [if_neg hm]
      have wl := whole_len w1 hm
      have wn := whole_nn o (n := n) (k := lenA a)
      have wf := whole_fst o (n := n) (k := lenA a)
      have ⟨h1, h2, h3⟩ := pszA_ok o hn hl (a := a) (pls := (wholeS sz n (lenA a)).tail) (acc := (wholeS sz n (lenA a)).headD (0, 0) :: noneS ps) w2 (by rw [List.length_tail]; omega) (nn_tail wn) cons_none_len (nn_cons_none (nn_head wn))
      refine key _ h1 h2 ?_
      rw [h3, zip_none hm, dot_cons_none]
      show _ = (formS fm n (lenA a)).headD 0 + dot (formS fm n (lenA a)).tail (lszA (ps.zip σ) fm a)
      rw [← wf, head_fst, tail_fst]
theorem pszA_ok (o : SzOk sz fm) (hn : ps.Nodup) (hl : ps.length = σ.length) : ∀ {a : Ar} {pls acc : PS}, WfA ps sz a → pls.length = lenA a → NN pls → acc.length = ps.length + 1 → NN acc →
    (pszA ps sz pls acc a).length = ps.length + 1 ∧ NN (pszA ps sz pls acc a) ∧ dot (1 :: σ) (fsS (pszA ps sz pls acc a)) = dot (1 :: σ) (fsS acc) + dot (fsS pls) (lszA (ps.zip σ) fm a)
  | .nil, pls, acc, _, hp, _, ha, na => by
    have e : pls = [] := List.length_eq_zero_iff.mp (by simpa [lenA] using hp)
    subst e
    simp only [pszA, lszA]
    exact ⟨ha, na, by show _ = _ + (0 : Int); omega⟩
  | .cons t r, [], acc, _, hp, _, _, _ => by
    simp only [lenA, List.length_nil] at hp
    omega
  | .cons t r, pl :: pls, acc, w, hp, np, ha, na => by
    simp only [WfA] at w
    have hp2 : pls.length = lenA r := by simp only [lenA, List.length_cons] at hp; omega
    have ⟨g1, g2, g3⟩ := pszT_ok o hn hl (t := t) (acc := (0, 0) :: noneS ps) w.1 cons_none_len (nn_cons_none (Int.le_refl 0))
    have e1 : acc.length = (putAt pl (pszT ps sz ((0, 0) :: noneS ps) t)).length := by rw [put_length, g1, ha]
    have p0 := np pl List.mem_cons_self
    have ⟨h1, h2, h3⟩ := pszA_ok o hn hl (a := r) (pls := pls) (acc := bes acc (putAt pl (pszT ps sz ((0, 0) :: noneS ps) t))) w.2 hp2 (fun y hy => np y (List.mem_cons_of_mem _ hy)) (by rw [bes_length e1, ha]) (nn_bes na nn_put)
    simp only [pszA, lszA]
    refine ⟨h1, h2, ?_⟩
    rw [h3, dot_bes e1, dot_put p0 g2, g3, dot_cons_none]
    show _ = _ + (pl.1 * lszT (ps.zip σ) fm t + dot (fsS pls) (lszA (ps.zip σ) fm r))
    rw [show ((0 : Int), (0 : Int)).1 = (0 : Int) from rfl, Int.zero_add]; omega
end
end
end Vf

set_option Elab.async false
set_option linter.all false
set_option maxRecDepth 100000
set_option maxHeartbeats 4000000
namespace Vf
open PySem PySem.Spec PyProof.Rows L2 TL
/-! ### the length of the expansion: the program's sum over all macros is the law's sum as it goes -/
/-- the top level without its definitions -/
def ndT : Tr → Tr
  | .nil => .nil
  | .word w r => .word w (ndT r)
  | .call n a r => if n = letN then ndT r else .call n a (ndT r)
def szK (sz : Sz) (a : Ar) : Sz := match letOf a with
  | some (m :: ps, b) => sz ++ [(m, pszT ps sz ((0, 0) :: noneS ps) b)]
  | _ => sz
def szs : Tr → Sz → Sz
  | .nil, sz => sz
  | .word _ r, sz => szs r sz
  | .call n a r, sz => if n = letN then szs r (szK sz a) else szs r sz
def formL (ps : List (List Nat)) (b : Tr) (fm : Fm) : List Int :=
  lszT (ps.map fun q => (q, 0)) fm b :: ps.map fun p => lszT (ps.map fun q => (q, if q = p then 1 else 0)) fm b - lszT (ps.map fun q => (q, 0)) fm b
def fmK (fm : Fm) (a : Ar) : Fm := match letOf a with
  | some (m :: ps, b) => fm ++ [(m, formL ps b fm)]
  | _ => fm
def lenL : Tr → Fm → Int
  | .nil, _ => 0
  | .word _ r, fm => 1 + lenL r fm
  | .call n a r, fm => if n = letN then lenL r (fmK fm a) else lszT [] fm (.call n a .nil) + lenL r fm
/-! #### forms -/
theorem zip_map {ps : List (List Nat)} {f : List Nat → Int} : ps.zip (ps.map f) = ps.map fun q => (q, f q) := by
  induction ps with
  | nil => rfl
  | cons p ps ih => rw [List.map_cons, List.zip_cons_cons, ih, List.map_cons]
theorem dot_zero : ∀ {ps : List (List Nat)} {v : List Int}, dot (ps.map fun _ => (0 : Int)) v = 0
  | [], _ => rfl
  | _ :: _, [] => rfl
  | p :: ps, x :: v => by
    show 0 * x + dot (ps.map fun _ => (0 : Int)) v = 0
    rw [dot_zero]; omega
theorem dot_unit : ∀ {ps : List (List Nat)} {v : List Int} {i : Nat} (hi : i < ps.length), ps.Nodup → v.length = ps.length → dot (ps.map fun q => if q = ps[i] then (1 : Int) else 0) v = v[i]?.getD 0
  | [], _, _, hi, _, _ => by cases hi
  | p :: ps, [], _, _, _, h => by cases h
  | p :: ps, x :: v, 0, _, hn, hl => by
    obtain ⟨hp, _⟩ := List.nodup_cons.mp hn
    have e : ps.map (fun q => if q = p then (1 : Int) else 0) = ps.map fun _ => (0 : Int) := List.map_congr_left fun q hq => by
      rw [if_neg fun (z : q = p) => hp (z ▸ hq)]
    show (if p = p then (1 : Int) else 0) * x + dot (ps.map fun q => if q = p then (1 : Int) else 0) v = x
    rw [e, dot_zero, if_pos rfl]; omega
  | p :: ps, x :: v, i + 1, hi, hn, hl => by
    obtain ⟨hp, hn2⟩ := List.nodup_cons.mp hn
    have hi2 : i < ps.length := by simpa using hi
    have hne : p ≠ ps[i] := fun z => hp (z ▸ List.getElem_mem hi2)
    show (if p = ps[i] then (1 : Int) else 0) * x + dot (ps.map fun q => if q = ps[i] then (1 : Int) else 0) v = v[i]?.getD 0
    rw [dot_unit hi2 hn2 (by simpa using hl), if_neg hne]; omega
theorem form_ok {ps : List (List Nat)} {sz : Sz} {fm : Fm} {b : Tr} (o : SzOk sz fm) (hn : ps.Nodup) (w : WfT ps sz b) : fsS (pszT ps sz ((0, 0) :: noneS ps) b) = formL ps b fm ∧ NN (pszT ps sz ((0, 0) :: noneS ps) b) ∧ (pszT ps sz ((0, 0) :: noneS ps) b).length = ps.length + 1 := by
  have h0 := pszT_ok o hn (σ := ps.map fun _ => (0 : Int)) (by rw [List.length_map]) w cons_none_len (nn_cons_none (x := ((0 : Int), (0 : Int))) (Int.le_refl 0))
  have hu := fun p => pszT_ok o hn (σ := ps.map fun q => if q = p then (1 : Int) else 0) (by rw [List.length_map]) w cons_none_len (nn_cons_none (x := ((0 : Int), (0 : Int))) (Int.le_refl 0))
  obtain ⟨l0, n0, d0⟩ := h0
  refine ⟨?_, n0, l0⟩
  have hu2 := fun p => (hu p).2.2
  rw [dot_cons_none, zip_map] at d0
  have hu3 : ∀ p, dot (1 :: ps.map fun q => if q = p then (1 : Int) else 0) (fsS (pszT ps sz ((0, 0) :: noneS ps) b)) = 0 + lszT (ps.map fun q => (q, if q = p then (1 : Int) else 0)) fm b := fun p => by
    rw [hu2 p, dot_cons_none, zip_map]
  generalize pszT ps sz ((0, 0) :: noneS ps) b = R at l0 n0 d0 hu3 ⊢
  cases R with
  | nil => cases l0
  | cons x v =>
    have d1 : 1 * x.1 + dot (ps.map fun _ => (0 : Int)) (fsS v) = 0 + lszT (ps.map fun q => (q, (0 : Int))) fm b := d0
    rw [dot_zero] at d1
    have lv : (fsS v).length = ps.length := by unfold fsS; rw [List.length_map]; simpa using l0
    show x.1 :: fsS v = _
    unfold formL
    have e1 : x.1 = lszT (ps.map fun q => (q, (0 : Int))) fm b := by omega
    rw [← e1]
    congr 1
    apply List.ext_getElem
    · rw [lv, List.length_map]
    · intro i h1 h2
      have hi : i < ps.length := by rw [lv] at h1; exact h1
      rw [List.getElem_map]
      have d2 : 1 * x.1 + dot (ps.map fun q => if q = ps[i] then (1 : Int) else 0) (fsS v) = 0 + lszT (ps.map fun q => (q, if q = ps[i] then (1 : Int) else 0)) fm b := hu3 ps[i]
      rw [dot_unit hi hn lv, List.getElem?_eq_getElem h1] at d2
      have d3 : (some (fsS v)[i]).getD 0 = (fsS v)[i] := rfl
      rw [d3] at d2
      omega
/-! #### what no fault means -/
structure KS (kn : Kn) (sz : Sz) (fm : Fm) : Prop where
  ok : SzOk sz fm
  len : ∀ n, (sz.lookup n).map List.length = (kn.lookup n).map (· + 1)
  bn : ∀ n ∈ bnN, kn.lookup n = none
theorem KS.fm {kn : Kn} {sz : Sz} {fm : Fm} (k : KS kn sz fm) (n : List Nat) : (fm.lookup n).isSome = (kn.lookup n).isSome := by
  rw [← k.ok.fst n, Option.isSome_map]
  have h := congrArg Option.isSome (k.len n)
  rw [Option.isSome_map, Option.isSome_map] at h
  exact h
theorem own_nil {ps : List (List Nat)} {kn : Kn} {n : List Nat} {k : Nat} (h : ownF ps kn n k = []) : n ≠ letN ∧ (n ∈ ps ∨ (n ∉ ps ∧ (kn.lookup n = some k ∨ (kn.lookup n = none ∧ n ∈ bnN)))) := by
  unfold ownF at h
  split at h
  · cases h
  · rename_i h1
    refine ⟨h1, ?_⟩
    split at h
    · rename_i h2; exact .inl h2
    · rename_i h2
      refine .inr ⟨h2, ?_⟩
      split at h
      · rename_i j e
        split at h
        · rename_i ek; exact .inl (by rw [e, ek])
        · cases h
      · rename_i e
        split at h
        · rename_i hb; exact .inr ⟨e, hb⟩
        · cases h
theorem wf_own {ps : List (List Nat)} {kn : Kn} {sz : Sz} {fm : Fm} {n : List Nat} {k : Nat} (ks : KS kn sz fm) (h : ownF ps kn n k = []) : WfN ps sz n k := fun hp s hs => by
  obtain ⟨_, h1 | ⟨_, h1 | ⟨h1, _⟩⟩⟩ := own_nil h
  · exact absurd h1 hp
  · have e := ks.len n
    rw [hs, h1] at e
    exact Option.some.inj e
  · have e := ks.len n
    rw [hs, h1] at e
    cases e
mutual
theorem wfT_of {ps : List (List Nat)} {kn : Kn} {sz : Sz} {fm : Fm} (ks : KS kn sz fm) : ∀ {t : Tr}, fauT ps kn t = [] → WfT ps sz t
  | .nil, _ => by simp only [WfT]
  | .word _ r, h => by
    simp only [fauT] at h
    simp only [WfT]
    exact wfT_of ks h
  | .call n a r, h => by
    simp only [fauT, List.append_eq_nil_iff] at h
    simp only [WfT]
    exact ⟨wf_own ks h.1, wfA_of ks h.2.1, wfT_of ks h.2.2⟩
theorem wfA_of {ps : List (List Nat)} {kn : Kn} {sz : Sz} {fm : Fm} (ks : KS kn sz fm) : ∀ {a : Ar}, fauA ps kn a = [] → WfA ps sz a
  | .nil, _ => by simp only [WfA]
  | .cons t r, h => by
    simp only [fauA, List.append_eq_nil_iff] at h
    simp only [WfA]
    exact ⟨wfT_of ks h.1, wfA_of ks h.2⟩
end
/-- later macros change nothing for what has no fault where earlier ones are known -/
structure Ext (kn : Kn) (fm fm' : Fm) : Prop where
  old : ∀ n, (kn.lookup n).isSome → fm'.lookup n = fm.lookup n
  bn : ∀ n ∈ bnN, fm'.lookup n = none ∧ fm.lookup n = none
theorem form_ext {kn : Kn} {fm fm' : Fm} (e : Ext kn fm fm') {ps : List (List Nat)} {n : List Nat} {k : Nat} (h : ownF ps kn n k = []) (hp : n ∉ ps) : formS fm' n k = formS fm n k := by
  unfold formS
  obtain ⟨_, h1 | ⟨_, h1 | ⟨h1, h2⟩⟩⟩ := own_nil h
  · exact absurd h1 hp
  · rw [e.old n (by rw [h1]; rfl)]
  · rw [(e.bn n h2).1, (e.bn n h2).2]
mutual
theorem lszT_ext {kn : Kn} {fm fm' : Fm} (e : Ext kn fm fm') {ps : List (List Nat)} {sg : List (List Nat × Int)} (hs : ∀ n, n ∈ ps → (sg.lookup n).isSome) : ∀ {t : Tr}, fauT ps kn t = [] → lszT sg fm' t = lszT sg fm t
  | .nil, _ => by simp only [lszT]
  | .word _ r, h => by
    simp only [fauT] at h
    simp only [lszT]
    rw [lszT_ext e hs h]
  | .call n a r, h => by
    simp only [fauT, List.append_eq_nil_iff] at h
    simp only [lszT]
    rw [lszT_ext e hs h.2.2, lszA_ext e hs h.2.1]
    cases es : sg.lookup n with
    | some x => rfl
    | none => rw [form_ext e h.1 fun hp => by have := hs n hp; rw [es] at this; cases this]
theorem lszA_ext {kn : Kn} {fm fm' : Fm} (e : Ext kn fm fm') {ps : List (List Nat)} {sg : List (List Nat × Int)} (hs : ∀ n, n ∈ ps → (sg.lookup n).isSome) : ∀ {a : Ar}, fauA ps kn a = [] → lszA sg fm' a = lszA sg fm a
  | .nil, _ => by simp only [lszA]
  | .cons t r, h => by
    simp only [fauA, List.append_eq_nil_iff] at h
    simp only [lszA]
    rw [lszT_ext e hs h.1, lszA_ext e hs h.2]
end
/-! #### a definition without a fault -/
theorem nms_may {z : List Nat} : ∀ {t : Tr}, z ∈ nms t → mayN z = true
  | .nil, h => by simp only [nms, List.not_mem_nil] at h
  | .word x r, h => by
    simp only [nms] at h
    split at h
    · rename_i hx
      rcases List.mem_cons.mp h with e | e
      · rw [e]; exact hx
      · exact nms_may e
    · exact nms_may h
  | .call _ _ r, h => by
    simp only [nms] at h
    exact nms_may h
theorem look_app {β : Type} {n : List Nat} {l : List (List Nat × β)} {m : List Nat} {v : β} : (l ++ [(m, v)]).lookup n = match l.lookup n with
    | some x => some x
    | none => if n = m then some v else none := by
  induction l with
  | nil =>
    show (match n == m with | true => some v | false => none) = if n = m then some v else none
    by_cases e : n = m
    · rw [if_pos e, beq_iff_eq.mpr e]
    · rw [if_neg e, beq_eq_false_iff_ne.mpr e]
  | cons p l ih =>
    obtain ⟨k, u⟩ := p
    show (match n == k with | true => some u | false => (l ++ [(m, v)]).lookup n) = match (match n == k with | true => some u | false => l.lookup n) with
      | some x => some x
      | none => if n = m then some v else none
    cases n == k with
    | true => rfl
    | false => exact ih
theorem lt_none {kn : Kn} {a : Ar} (h : ltF kn a = none) : ∃ (m : List Nat) (ps : List (List Nat)) (b : Tr), letOf a = some (m :: ps, b) ∧ kn.lookup m = none ∧ fauT ps kn b = [] ∧ m ∉ bnN ∧ ps.Nodup ∧ ltK kn a = kn ++ [(m, ps.length)] := by
  unfold ltF at h
  split at h
  · cases h
  · split at h
    · cases h
    · rename_i b e
      obtain ⟨t, _, e2, ⟨h1, _⟩, h3, _⟩ := letOf_ok e
      rw [← e2] at h3
      simp only [List.length_nil] at h3
      omega
    · rename_i m ps b e
      obtain ⟨t, _, e2, _, _, h4⟩ := letOf_ok e
      split at h
      · cases h
      · rename_i hl
        refine ⟨m, ps, b, e, by cases q : kn.lookup m with | none => rfl | some j => rw [q] at hl; exact absurd rfl hl, List.head?_eq_none_iff.mp h, ?_, ?_, ?_⟩
        · have hm : mayN m = true := nms_may (t := t) (by rw [← e2]; exact List.mem_cons_self)
          unfold mayN at hm
          have h5 := (Bool.and_eq_true_iff.mp hm).2
          intro hb
          rw [decide_eq_true hb] at h5
          cases h5
        · rw [← e2] at h4; exact (List.nodup_cons.mp h4).2
        · unfold ltK; rw [e]
theorem KS.step {kn : Kn} {sz : Sz} {fm : Fm} (k : KS kn sz fm) {m : List Nat} {ps : List (List Nat)} {S : PS} (hm : kn.lookup m = none) (hb : m ∉ bnN) (nS : NN S) (lS : S.length = ps.length + 1) :
    KS (kn ++ [(m, ps.length)]) (sz ++ [(m, S)]) (fm ++ [(m, fsS S)]) := by
  refine ⟨⟨fun n => ?_, fun n s h => ?_⟩, fun n => ?_, fun n hn => ?_⟩
  · rw [look_app, look_app]
    have h := k.ok.fst n
    cases e : sz.lookup n with
    | some x => rw [e] at h; rw [← h]; rfl
    | none =>
      rw [e] at h; rw [← h]
      show (if n = m then some S else none).map fsS = if n = m then some (fsS S) else none
      by_cases e2 : n = m
      · rw [if_pos e2, if_pos e2]; rfl
      · rw [if_neg e2, if_neg e2]; rfl
  · rw [look_app] at h
    cases e : sz.lookup n with
    | some x => rw [e] at h; rw [← Option.some.inj h]; exact k.ok.nn n x e
    | none =>
      rw [e] at h
      have h2 : (if n = m then some S else none) = some s := h
      by_cases e2 : n = m
      · rw [if_pos e2] at h2; rw [← Option.some.inj h2]; exact ⟨nS, by omega⟩
      · rw [if_neg e2] at h2; cases h2
  · rw [look_app, look_app]
    have h := k.len n
    cases e : sz.lookup n with
    | some x =>
      rw [e] at h
      cases e2 : kn.lookup n with
      | none => rw [e2] at h; cases h
      | some j => rw [e2] at h; exact h
    | none =>
      rw [e] at h
      cases e2 : kn.lookup n with
      | some j => rw [e2] at h; cases h
      | none =>
        show (if n = m then some S else none).map List.length = (if n = m then some ps.length else none).map (· + 1)
        by_cases e3 : n = m
        · rw [if_pos e3, if_pos e3]; exact congrArg some lS
        · rw [if_neg e3, if_neg e3]; rfl
  · rw [look_app, k.bn n hn]
    show (if n = m then some ps.length else none) = none
    rw [if_neg fun (z : n = m) => hb (z ▸ hn)]
theorem KS.fbn {kn : Kn} {sz : Sz} {fm : Fm} (k : KS kn sz fm) {n : List Nat} (hn : n ∈ bnN) : fm.lookup n = none := by
  have h := k.fm n
  rw [k.bn n hn] at h
  cases e : fm.lookup n with
  | none => rfl
  | some x => rw [e] at h; cases h
def kns : Tr → Kn → Kn
  | .nil, kn => kn
  | .word _ r, kn => kns r kn
  | .call n a r, kn => if n = letN then kns r (ltK kn a) else kns r kn
def fms : Tr → Fm → Fm
  | .nil, fm => fm
  | .word _ r, fm => fms r fm
  | .call n a r, fm => if n = letN then fms r (fmK fm a) else fms r fm
structure KExt (kn kn' : Kn) : Prop where
  old : ∀ n j, kn.lookup n = some j → kn'.lookup n = some j
  bn : ∀ n ∈ bnN, kn'.lookup n = none
theorem own_ext {ps : List (List Nat)} {kn kn' : Kn} (e : KExt kn kn') {n : List Nat} {k : Nat} (h : ownF ps kn n k = []) : ownF ps kn' n k = [] := by
  have h0 := h
  obtain ⟨h1, h2⟩ := own_nil h
  unfold ownF at h ⊢
  rw [if_neg h1] at h ⊢
  rcases h2 with h2 | ⟨h2, h3⟩
  · rw [if_pos h2] at h ⊢; exact h
  · rw [if_neg h2] at h ⊢
    rcases h3 with h3 | ⟨h3, h4⟩
    · rw [h3] at h; rw [e.old n k h3]; exact h
    · rw [e.bn n h4]
      show (if n ∈ bnN then [] else [F10.unk n]) = []
      rw [if_pos h4]
mutual
theorem fauT_ext {ps : List (List Nat)} {kn kn' : Kn} (e : KExt kn kn') : ∀ {t : Tr}, fauT ps kn t = [] → fauT ps kn' t = []
  | .nil, _ => by simp only [fauT]
  | .word _ r, h => by
    simp only [fauT] at h ⊢
    exact fauT_ext e h
  | .call n a r, h => by
    simp only [fauT, List.append_eq_nil_iff] at h ⊢
    exact ⟨own_ext e h.1, fauA_ext e h.2.1, fauT_ext e h.2.2⟩
theorem fauA_ext {ps : List (List Nat)} {kn kn' : Kn} (e : KExt kn kn') : ∀ {a : Ar}, fauA ps kn a = [] → fauA ps kn' a = []
  | .nil, _ => by simp only [fauA]
  | .cons t r, h => by
    simp only [fauA, List.append_eq_nil_iff] at h ⊢
    exact ⟨fauT_ext e h.1, fauA_ext e h.2⟩
end
/-- the whole tree -/
theorem len_run : ∀ {t : Tr} {kn : Kn} {sz : Sz} {fm : Fm}, KS kn sz fm → chk t kn = none →
    KS (kns t kn) (szs t sz) (fms t fm) ∧ KExt kn (kns t kn) ∧ Ext kn fm (fms t fm) ∧ fauT [] (kns t kn) (ndT t) = [] ∧ lenL t fm = lszT [] (fms t fm) (ndT t)
  | .nil, kn, sz, fm, k, _ => by
    simp only [kns, szs, fms, ndT, lenL, lszT, fauT]
    exact ⟨k, ⟨fun _ _ h => h, k.bn⟩, ⟨fun _ _ => rfl, fun n h => ⟨k.fbn h, k.fbn h⟩⟩, trivial, trivial⟩
  | .word w r, kn, sz, fm, k, h => by
    simp only [chk] at h
    simp only [kns, szs, fms, ndT, lenL, lszT, fauT]
    obtain ⟨h1, h2, h3, h4, h5⟩ := len_run k h
    exact ⟨h1, h2, h3, h4, by rw [h5]⟩
  | .call n a r, kn, sz, fm, k, h => by
    simp only [chk] at h
    simp only [kns, szs, fms, ndT, lenL]
    by_cases en : n = letN
    · rw [if_pos en] at h
      rw [if_pos en, if_pos en, if_pos en, if_pos en, if_pos en]
      have h0 : ltF kn a = none := by
        cases e : ltF kn a with
        | none => rfl
        | some f => rw [e] at h; cases h
      rw [h0] at h
      have h6 : chk r (ltK kn a) = none := h
      obtain ⟨m, ps, b, el, hm, hf, hb, hn, hk⟩ := lt_none h0
      obtain ⟨f1, f2, f3⟩ := form_ok k.ok hn (wfT_of k hf)
      have esz : szK sz a = sz ++ [(m, pszT ps sz ((0, 0) :: noneS ps) b)] := by unfold szK; rw [el]
      have efm : fmK fm a = fm ++ [(m, fsS (pszT ps sz ((0, 0) :: noneS ps) b))] := by unfold fmK; rw [el, f1]
      have k2 := k.step hm hb f2 f3
      rw [← hk, ← esz, ← efm] at k2
      obtain ⟨h1, h2, h3, h4, h5⟩ := len_run k2 h6
      refine ⟨h1, ⟨fun x j hx => h2.old x j ?_, h2.bn⟩, ⟨fun x hx => ?_, fun x hx => ⟨(h3.bn x hx).1, k.fbn hx⟩⟩, h4, h5⟩
      · rw [hk, look_app, hx]
      · have hx2 : (kn.lookup x).isSome = true := hx
        rw [h3.old x (by
          rw [hk, look_app]
          cases e : kn.lookup x with
          | some j => rfl
          | none => rw [e] at hx2; cases hx2), efm, look_app]
        have h7 := k.fm x
        rw [hx2] at h7
        cases e : fm.lookup x with
        | some y => rfl
        | none => rw [e] at h7; cases h7
    · rw [if_neg en] at h
      rw [if_neg en, if_neg en, if_neg en, if_neg en, if_neg en]
      have h0 : fauN [] kn (.call n a) = [] := by
        cases e : fauN [] kn (.call n a) with
        | nil => rfl
        | cons f fs => rw [e] at h; cases h
      rw [h0] at h
      have h6 : chk r kn = none := h
      simp only [fauN, List.append_eq_nil_iff] at h0
      obtain ⟨h1, h2, h3, h4, h5⟩ := len_run k h6
      refine ⟨h1, h2, h3, ?_, ?_⟩
      · simp only [fauT, List.append_eq_nil_iff]
        exact ⟨own_ext h2 h0.1, fauA_ext h2 h0.2, h4⟩
      · have e1 : lszT [] (fms r fm) (.call n a .nil) = lszT [] fm (.call n a .nil) := lszT_ext h3 (ps := []) (fun _ h => by cases h) (by
          simp only [fauT, List.append_eq_nil_iff]
          exact ⟨h0.1, h0.2, trivial⟩)
        rw [← e1, h5]
        simp only [lszT]
        omega
theorem ks_nil : KS [] [] [] := ⟨⟨fun _ => rfl, fun _ _ h => by cases h⟩, fun _ => rfl, fun _ _ => rfl⟩
/-- the program's length of a tree without a fault is the law's -/
theorem len_same {t : Tr} (h : chk t [] = none) : ((pszT [] (szs t []) [(0, 0)] (ndT t)).headD (0, 0)).1 = lenL t [] := by
  obtain ⟨k, _, _, h4, h5⟩ := len_run ks_nil h
  obtain ⟨l1, _, d1⟩ := pszT_ok k.ok (ps := []) (σ := []) List.nodup_nil rfl (acc := [(0, 0)]) (wfT_of k h4) rfl (nn_cons_none (ps := []) (x := ((0 : Int), (0 : Int))) (Int.le_refl 0))
  rw [h5]
  generalize pszT [] (szs t []) [(0, 0)] (ndT t) = R at l1 d1 ⊢
  match R, l1, d1 with
  | [x], _, d1 =>
    have d2 : 1 * x.1 + 0 = (1 * 0 + 0) + lszT [] (fms t []) (ndT t) := d1
    show x.1 = _
    omega
end Vf

set_option Elab.async false
set_option linter.all false
set_option maxRecDepth 100000
set_option maxHeartbeats 4000000
namespace Vf
open PySem PySem.Spec PyProof.Rows L2 TL
/-! ### how deep an expansion is: the program's pairs against the law's reaches -/
def ZP (x : Int × Int) : Prop := 0 ≤ x.1 ∧ 0 ≤ x.2 ∧ (x.1 = 0 → x.2 = 0)
def ZS (s : PS) : Prop := ∀ x ∈ s, ZP x
def hd2 (s : PS) : Int := (s.headD (0, 0)).2
def Le2 (s : PS) (m : Int) : Prop := ∀ x ∈ s, x.2 ≤ m
def JS (s : PS) : Prop := Le2 s (hd2 s)
def mv : List Int → PS → Int
  | c :: cs, x :: xs => max (if x.1 > 0 then x.2 + c else 0) (mv cs xs)
  | _, _ => 0
theorem ZS.nn {s : PS} (h : ZS s) : NN s := fun x hx => (h x hx).1
theorem zs_cons {x : Int × Int} {s : PS} (hx : ZP x) (h : ZS s) : ZS (x :: s) := fun y hy => by
  rcases List.mem_cons.mp hy with e | e
  · rw [e]; exact hx
  · exact h y e
theorem zs_bes : ∀ {a b : PS}, ZS a → ZS b → ZS (bes a b)
  | [], _, _, _ => fun x h => by simp [bes] at h
  | _ :: _, [], _, _ => fun x h => by simp [bes] at h
  | u :: a, v :: b, ha, hb => fun x h => by
    have h' : x ∈ (u.1 + v.1, if v.2 > u.2 then v.2 else u.2) :: bes a b := h
    rcases List.mem_cons.mp h' with e | e
    · rw [e]
      obtain ⟨a1, a2, a3⟩ := ha u List.mem_cons_self
      obtain ⟨b1, b2, b3⟩ := hb v List.mem_cons_self
      refine ⟨by show 0 ≤ u.1 + v.1; omega, ?_, fun (z : u.1 + v.1 = 0) => ?_⟩
      · show 0 ≤ if v.2 > u.2 then v.2 else u.2
        split <;> omega
      · show (if v.2 > u.2 then v.2 else u.2) = 0
        have := a3 (by omega)
        have := b3 (by omega)
        split <;> omega
    · exact zs_bes (fun y hy => ha y (List.mem_cons_of_mem _ hy)) (fun y hy => hb y (List.mem_cons_of_mem _ hy)) x e
theorem put_pos {p x : Int} (hp : 0 < p) (hx : 0 ≤ x) : (p * x > 0) ↔ (x > 0) := by
  constructor
  · intro h
    rcases Int.lt_or_eq_of_le hx with h1 | h1
    · exact h1
    · rw [← h1, Int.mul_zero] at h; omega
  · intro h; exact Int.mul_pos hp h
theorem zs_put {p : Int × Int} (hp : ZP p) {s : PS} (h : ZS s) : ZS (putAt p s) := fun x hx => by
  obtain ⟨y, hy, rfl⟩ := List.mem_map.mp hx
  obtain ⟨_, y2, _⟩ := h y hy
  split
  · rename_i h1
    exact ⟨by show 0 ≤ p.1 * y.1; omega, by show 0 ≤ p.2 + y.2; have := hp.2.1; omega, fun (z : p.1 * y.1 = 0) => by omega⟩
  · exact ⟨Int.le_refl 0, Int.le_refl 0, fun _ => rfl⟩
theorem zp_00 : ZP (0, 0) := ⟨Int.le_refl 0, Int.le_refl 0, fun _ => rfl⟩
theorem zs_none {ps : List (List Nat)} : ZS (noneS ps) := fun x h => by
  rw [(List.mem_replicate.mp h).2]; exact zp_00
theorem zs_zero {ps : List (List Nat)} : ZS ((0, 0) :: noneS ps) := zs_cons zp_00 zs_none
theorem le2_none {ps : List (List Nat)} {m : Int} (h : 0 ≤ m) : Le2 (noneS ps) m := fun x hx => by
  rw [(List.mem_replicate.mp hx).2]; exact h
theorem js_cons_none {ps : List (List Nat)} {x : Int × Int} (h : 0 ≤ x.2) : JS (x :: noneS ps) := fun y hy => by
  rcases List.mem_cons.mp hy with e | e
  · rw [e]; exact Int.le_refl _
  · exact le2_none h y e
theorem Le2.mono {s : PS} {m n : Int} (h : Le2 s m) (k : m ≤ n) : Le2 s n := fun x hx => Int.le_trans (h x hx) k
theorem le2_bes {m n : Int} : ∀ {a b : PS}, Le2 a m → Le2 b n → Le2 (bes a b) (max m n)
  | [], _, _, _ => fun x h => by simp [bes] at h
  | _ :: _, [], _, _ => fun x h => by simp [bes] at h
  | u :: a, v :: b, ha, hb => fun x h => by
    have h' : x ∈ (u.1 + v.1, if v.2 > u.2 then v.2 else u.2) :: bes a b := h
    rcases List.mem_cons.mp h' with e | e
    · rw [e]
      have h1 := ha u List.mem_cons_self
      have h2 := hb v List.mem_cons_self
      show (if v.2 > u.2 then v.2 else u.2) ≤ _
      split <;> omega
    · exact le2_bes (fun y hy => ha y (List.mem_cons_of_mem _ hy)) (fun y hy => hb y (List.mem_cons_of_mem _ hy)) x e
theorem hd_bes {a b : PS} (h : a.length = b.length) : hd2 (bes a b) = if hd2 b > hd2 a then hd2 b else hd2 a := by
  cases a with
  | nil => cases b with
    | nil => rfl
    | cons _ _ => cases h
  | cons x a => cases b with
    | nil => cases h
    | cons y b => rfl
theorem js_bes {a b : PS} (h : a.length = b.length) (ha : JS a) (hb : Le2 b (max (hd2 a) (hd2 b))) : JS (bes a b) := by
  unfold JS
  rw [hd_bes h]
  refine (le2_bes ha hb).mono ?_
  split <;> omega
theorem js_put {acc s : PS} {p : Int × Int} (hp : ZP p) (hs : ZS s) (js : JS s) (hpa : p.2 ≤ hd2 acc) (h0 : 0 ≤ hd2 acc) : Le2 (putAt p s) (max (hd2 acc) (hd2 (putAt p s))) := fun x hx => by
  obtain ⟨y, hy, rfl⟩ := List.mem_map.mp hx
  have hy2 := js y hy
  obtain ⟨y0, y1, y3⟩ := hs y hy
  split
  · rename_i h1
    show p.2 + y.2 ≤ _
    cases s with
    | nil => cases hy
    | cons z s =>
      have e : hd2 (putAt p (z :: s)) = (if p.1 * z.1 > 0 then (p.1 * z.1, p.2 + z.2) else ((0 : Int), (0 : Int))).2 := rfl
      have hy3 : y.2 ≤ z.2 := hy2
      obtain ⟨z0, z1, z3⟩ := hs z List.mem_cons_self
      have pp : 0 < p.1 := by
        rcases Int.lt_or_eq_of_le hp.1 with h | h
        · exact h
        · rw [← h, Int.zero_mul] at h1; omega
      by_cases hz : z.1 > 0
      · rw [if_pos ((put_pos pp z0).mpr hz)] at e
        have e : hd2 (putAt p (z :: s)) = p.2 + z.2 := e
        omega
      · have := z3 (by omega)
        omega
  · show (0 : Int) ≤ _; omega
theorem hd_nn {s : PS} (h : ZS s) : 0 ≤ hd2 s := by
  cases s with
  | nil => exact Int.le_refl 0
  | cons x s => exact (h x List.mem_cons_self).2.1
theorem mv_nn : ∀ {c : List Int} {s : PS}, (0 : Int) ≤ mv c s ∨ True → 0 ≤ mv c s
  | [], _, _ => by simp only [mv]; exact Int.le_refl 0
  | _ :: _, [], _ => by simp only [mv]; exact Int.le_refl 0
  | c :: cs, x :: xs, _ => by
    have := mv_nn (c := cs) (s := xs) (.inr trivial)
    simp only [mv]; omega
theorem mv_n {c : List Int} {s : PS} : 0 ≤ mv c s := mv_nn (.inr trivial)
theorem mv_bes {c : List Int} : ∀ {a b : PS}, a.length = b.length → ZS a → ZS b → (∀ x ∈ c, 0 ≤ x) → mv c (bes a b) = max (mv c a) (mv c b) := by
  induction c with
  | nil => intro a b _ _ _ _; simp only [mv]; rfl
  | cons x c ih =>
    intro a b h za zb hc
    cases a with
    | nil => cases b with
      | nil => rfl
      | cons _ _ => cases h
    | cons u a => cases b with
      | nil => cases h
      | cons v b =>
        have h2 : a.length = b.length := by simpa using h
        have i := ih h2 (fun y hy => za y (List.mem_cons_of_mem _ hy)) (fun y hy => zb y (List.mem_cons_of_mem _ hy)) (fun y hy => hc y (List.mem_cons_of_mem _ hy))
        show max (if u.1 + v.1 > 0 then (if v.2 > u.2 then v.2 else u.2) + x else 0) (mv c (bes a b)) = max (max (if u.1 > 0 then u.2 + x else 0) (mv c a)) (max (if v.1 > 0 then v.2 + x else 0) (mv c b))
        rw [i]
        obtain ⟨a1, a2, a3⟩ := za u List.mem_cons_self
        obtain ⟨b1, b2, b3⟩ := zb v List.mem_cons_self
        have hx := hc x List.mem_cons_self
        by_cases hu : u.1 > 0
        · by_cases hv : v.1 > 0
          · rw [if_pos hu, if_pos hv, if_pos (by omega)]
            split <;> omega
          · have := b3 (by omega)
            rw [if_pos hu, if_neg hv, if_pos (by omega)]
            split <;> omega
        · have := a3 (by omega)
          by_cases hv : v.1 > 0
          · rw [if_neg hu, if_pos hv, if_pos (by omega)]
            split <;> omega
          · rw [if_neg hu, if_neg hv, if_neg (by omega)]
            omega
theorem mv_rep {c : List Int} : ∀ n : Nat, mv c (List.replicate n (0, 0)) = 0 := by
  induction c with
  | nil => intro n; simp only [mv]
  | cons x c ih =>
    intro n
    cases n with
    | zero => rfl
    | succ n =>
      show max (if (0 : Int) > 0 then (0 : Int) + x else 0) (mv c (List.replicate n (0, 0))) = 0
      rw [ih n, if_neg (by omega)]; rfl
theorem mv_cons_none {ps : List (List Nat)} {σ : List Int} {x : Int × Int} (h : ZP x) : mv (0 :: σ) (x :: noneS ps) = x.2 := by
  show max (if x.1 > 0 then x.2 + 0 else 0) (mv σ (noneS ps)) = x.2
  unfold noneS
  rw [mv_rep]
  obtain ⟨h1, h2, h3⟩ := h
  by_cases hx : x.1 > 0
  · rw [if_pos hx]; omega
  · rw [if_neg hx, h3 (by omega)]; rfl
theorem mv_ind {n : List Nat} : ∀ {ps : List (List Nat)} {σ : List Int} {x : Int}, ps.Nodup → ps.length = σ.length → (∀ y ∈ σ, 0 ≤ y) → (ps.zip σ).lookup n = some x → mv σ (ps.map fun p => if n = p then ((1 : Int), (0 : Int)) else (0, 0)) = x
  | [], σ, x, _, _, _, h => by simp at h
  | p :: ps, [], x, _, h, _, _ => by simp at h
  | p :: ps, s :: σ, x, hn, hl, h0, h => by
    have hl2 : ps.length = σ.length := by simpa using hl
    obtain ⟨hp, hn2⟩ := List.nodup_cons.mp hn
    have hs := h0 s List.mem_cons_self
    show max (if (if n = p then ((1 : Int), (0 : Int)) else (0, 0)).1 > 0 then (if n = p then ((1 : Int), (0 : Int)) else (0, 0)).2 + s else 0) (mv σ (ps.map fun p => if n = p then ((1 : Int), (0 : Int)) else (0, 0))) = x
    by_cases e : n = p
    · subst e
      have h2 : some s = some x := by simpa [List.lookup] using h
      have h3 : (ps.map fun p => if n = p then ((1 : Int), (0 : Int)) else (0, 0)) = List.replicate ps.length (0, 0) := by
        apply List.ext_getElem
        · simp
        · intro i h1 h2
          have hm : n ≠ ps[i]'(by simpa using h1) := fun z => hp (z ▸ List.getElem_mem _)
          simp [hm]
      have h4 := Option.some.inj h2
      rw [if_pos rfl, h3, mv_rep]
      show max (if (1 : Int) > 0 then (0 : Int) + s else 0) 0 = x
      rw [if_pos (by decide)]; omega
    · have h2 : (ps.zip σ).lookup n = some x := by
        have e2 : (n == p) = false := by simpa using e
        simpa [List.lookup, e2] using h
      have i := mv_ind hn2 hl2 (fun y hy => h0 y (List.mem_cons_of_mem _ hy)) h2
      have := mv_n (c := σ) (s := ps.map fun p => if n = p then ((1 : Int), (0 : Int)) else (0, 0))
      rw [if_neg e, i]
      rw [i] at this
      show max (if (0 : Int) > 0 then (0 : Int) + s else 0) x = x
      rw [if_neg (by omega)]; omega
theorem mv_put {p : Int × Int} (hp : ZP p) {w : Int} (hw : p.2 ≤ w) {c : List Int} : ∀ {s : PS}, ZS s → max w (mv c (putAt p s)) = max w (if p.1 > 0 then p.2 + mv c s else 0) := by
  have p2 := hp.2.1
  induction c with
  | nil =>
    intro s _
    simp only [mv]
    split <;> omega
  | cons x c ih =>
    intro s h
    cases s with
    | nil => simp only [putAt, List.map_nil, mv]; split <;> omega
    | cons u s =>
      have i := ih (s := s) fun y hy => h y (List.mem_cons_of_mem _ hy)
      obtain ⟨u0, u1, u2⟩ := h u List.mem_cons_self
      show max w (max (if (if p.1 * u.1 > 0 then (p.1 * u.1, p.2 + u.2) else ((0 : Int), (0 : Int))).1 > 0 then (if p.1 * u.1 > 0 then (p.1 * u.1, p.2 + u.2) else ((0 : Int), (0 : Int))).2 + x else 0) (mv c (putAt p s))) = max w (if p.1 > 0 then p.2 + max (if u.1 > 0 then u.2 + x else 0) (mv c s) else 0)
      by_cases pp : p.1 > 0
      · rw [if_pos pp] at i ⊢
        by_cases hu : u.1 > 0
        · have h1 := (put_pos pp u0).mpr hu
          rw [if_pos h1, if_pos hu, if_pos (show (p.1 * u.1, p.2 + u.2).1 > 0 from h1)]
          show max w (max (p.2 + u.2 + x) (mv c (putAt p s))) = _
          omega
        · have h1 : ¬ (p.1 * u.1 > 0) := fun z => hu ((put_pos pp u0).mp z)
          rw [if_neg h1, if_neg hu, if_neg (show ¬ (((0 : Int), (0 : Int)).1 > 0) by decide)]
          omega
      · have p0 : p.1 = 0 := by have := hp.1; omega
        rw [if_neg pp] at i ⊢
        have h1 : ¬ (p.1 * u.1 > 0) := by rw [p0, Int.zero_mul]; decide
        rw [if_neg h1, if_neg (show ¬ (((0 : Int), (0 : Int)).1 > 0) by decide)]
        omega
theorem hd_mv {σ : List Int} {s : PS} (h : ZS s) : hd2 s ≤ mv (0 :: σ) s := by
  cases s with
  | nil => exact Int.le_refl 0
  | cons x s =>
    obtain ⟨h1, h2, h3⟩ := h x List.mem_cons_self
    have := mv_n (c := σ) (s := s)
    show x.2 ≤ max (if x.1 > 0 then x.2 + 0 else 0) (mv σ s)
    by_cases hx : x.1 > 0
    · rw [if_pos hx]; omega
    · have := h3 (by omega)
      omega
theorem mv_le {m : Int} (hm : 0 ≤ m) : ∀ {c : List Int} {s : PS}, (∀ x ∈ c, x ≤ 0) → Le2 s m → mv c s ≤ m
  | [], _, _, _ => by simp only [mv]; exact hm
  | _ :: _, [], _, _ => by simp only [mv]; exact hm
  | c :: cs, x :: xs, hc, hs => by
    have i := mv_le hm (c := cs) (s := xs) (fun y hy => hc y (List.mem_cons_of_mem _ hy)) fun y hy => hs y (List.mem_cons_of_mem _ hy)
    have h1 := hc c List.mem_cons_self
    have h2 := hs x List.mem_cons_self
    simp only [mv]
    split <;> omega
theorem mv_unit {m k : Int} (hm : 0 ≤ m) (hk : m < k) : ∀ {ps : List (List Nat)} {v : PS} {i : Nat} (hi : i < ps.length) (hv : i < v.length), ps.Nodup → ZS v → Le2 v m →
    max m (mv (ps.map fun q => if q = ps[i] then k else 0) v) = if v[i].1 > 0 then v[i].2 + k else m
  | [], _, _, hi, _, _, _, _ => by cases hi
  | p :: ps, [], _, _, hv, _, _, _ => by cases hv
  | p :: ps, x :: v, 0, _, _, hn, zs, l2 => by
    obtain ⟨hp, _⟩ := List.nodup_cons.mp hn
    have e : mv (ps.map fun q => if q = p then k else 0) v ≤ m := mv_le hm (fun y hy => by
      obtain ⟨q, hq, rfl⟩ := List.mem_map.mp hy
      rw [if_neg fun (z : q = p) => hp (z ▸ hq)]; exact Int.le_refl 0) fun y hy => l2 y (List.mem_cons_of_mem _ hy)
    obtain ⟨x0, x1, x2⟩ := zs x List.mem_cons_self
    show max m (max (if x.1 > 0 then x.2 + (if p = p then k else 0) else 0) (mv (ps.map fun q => if q = p then k else 0) v)) = if x.1 > 0 then x.2 + k else m
    rw [if_pos rfl]
    split <;> omega
  | p :: ps, x :: v, i + 1, hi, hv, hn, zs, l2 => by
    obtain ⟨hp, hn2⟩ := List.nodup_cons.mp hn
    have hi2 : i < ps.length := by simpa using hi
    have hv2 : i < v.length := by simpa using hv
    have hne : p ≠ ps[i] := fun z => hp (z ▸ List.getElem_mem hi2)
    have ih := mv_unit hm hk hi2 hv2 hn2 (fun y hy => zs y (List.mem_cons_of_mem _ hy)) fun y hy => l2 y (List.mem_cons_of_mem _ hy)
    have h1 := l2 x List.mem_cons_self
    show max m (max (if x.1 > 0 then x.2 + (if p = ps[i] then k else 0) else 0) (mv (ps.map fun q => if q = ps[i] then k else 0) v)) = if v[i].1 > 0 then v[i].2 + k else m
    rw [← ih, if_neg hne]
    split <;> omega
/-! #### the law's side -/
def rch (x : Int × Int) : Int := if x.1 > 0 then x.2 else -1
def dsS (s : PS) : List Int := hd2 s :: s.tail.map rch
def reachS (rc : Fm) (n : List Nat) (k : Nat) : List Int := match rc.lookup n with
  | some f => f
  | none => (if (1 : Int) < (k : Int) then 1 else (k : Int)) :: List.replicate k 1
def mxs : List Int → List Int → Int
  | p :: ps, x :: xs => max (if p ≥ 0 then p + x else 0) (mxs ps xs)
  | _, _ => 0
def ldW (f xs : List Int) : Int := max (f.headD 0) (mxs f.tail xs)
mutual
def ldT (sg : List (List Nat × Int)) (rc : Fm) : Tr → Int
  | .nil => 0
  | .word _ r => ldT sg rc r
  | .call n a r => max (match sg.lookup n with
      | some x => x
      | none => ldW (reachS rc n (lenA a)) (ldA sg rc a)) (ldT sg rc r)
def ldA (sg : List (List Nat × Int)) (rc : Fm) : Ar → List Int
  | .nil => []
  | .cons t r => ldT sg rc t :: ldA sg rc r
end
theorem ldT_nn {sg : List (List Nat × Int)} {rc : Fm} : ∀ t : Tr, 0 ≤ ldT sg rc t
  | .nil => by simp only [ldT]; exact Int.le_refl 0
  | .word _ r => by simp only [ldT]; exact ldT_nn r
  | .call n a r => by
    have := ldT_nn (sg := sg) (rc := rc) r
    simp only [ldT]; omega
structure DzOk (sz : Sz) (rc : Fm) : Prop where
  fst : ∀ n, (sz.lookup n).map dsS = rc.lookup n
  zj : ∀ n s, sz.lookup n = some s → ZS s ∧ JS s ∧ 0 < s.length
theorem built_zj {k : Nat} : ZS (builtS k) ∧ JS (builtS k) := by
  have h1 : ∀ x ∈ List.replicate k ((1 : Int), (1 : Int)), x = (1, 1) := fun x hx => (List.mem_replicate.mp hx).2
  have h2 : ∀ x ∈ List.replicate k ((1 : Int), (1 : Int)), 0 < k := fun x hx => by
    have := (List.mem_replicate.mp hx).1; omega
  have eh : hd2 (builtS k) = if (1 : Int) < (k : Int) then 1 else (k : Int) := rfl
  refine ⟨fun x hx => ?_, fun x hx => ?_⟩
  · rcases List.mem_cons.mp hx with e | e
    · rw [e]
      refine ⟨by show (0 : Int) ≤ 1; decide, ?_, fun z => by cases z⟩
      show 0 ≤ if (1 : Int) < (k : Int) then 1 else (k : Int)
      split <;> omega
    · rw [h1 x e]; exact ⟨by show (0 : Int) ≤ 1; decide, by show (0 : Int) ≤ 1; decide, fun z => by cases z⟩
  · rw [eh]
    rcases List.mem_cons.mp hx with e | e
    · rw [e]; exact Int.le_refl _
    · have := h2 x e
      rw [h1 x e]
      show (1 : Int) ≤ _
      split <;> omega
theorem whole_zj {sz : Sz} {rc : Fm} (o : DzOk sz rc) {n : List Nat} {k : Nat} : ZS (wholeS sz n k) ∧ JS (wholeS sz n k) := by
  unfold wholeS
  cases e : sz.lookup n with
  | some s => exact ⟨(o.zj n s e).1, (o.zj n s e).2.1⟩
  | none => exact built_zj
theorem whole_ds {sz : Sz} {rc : Fm} (o : DzOk sz rc) {n : List Nat} {k : Nat} : dsS (wholeS sz n k) = reachS rc n k := by
  unfold wholeS reachS
  have h := o.fst n
  cases e : sz.lookup n with
  | some s => rw [e] at h; rw [← h]; rfl
  | none =>
    rw [e] at h; rw [← h]
    show dsS (builtS k) = _
    unfold builtS dsS
    show _ :: (List.replicate k ((1 : Int), (1 : Int))).map rch = _
    rw [List.map_replicate]; rfl
theorem zs_tail {s : PS} (h : ZS s) : ZS s.tail := fun x hx => h x (List.mem_of_mem_tail hx)
theorem zp_head {s : PS} (h : ZS s) : ZP (s.headD (0, 0)) := by
  cases s with
  | nil => exact zp_00
  | cons x s => exact h x List.mem_cons_self
theorem zs_param {ps : List (List Nat)} {n : List Nat} : ZS (paramS ps n) ∧ Le2 (paramS ps n) 0 := by
  have h : ∀ x ∈ paramS ps n, x = (0, 0) ∨ x = (1, 0) := fun x hx => by
    rcases List.mem_cons.mp hx with e | e
    · exact .inl e
    · obtain ⟨p, _, rfl⟩ := List.mem_map.mp e
      split
      · exact .inr rfl
      · exact .inl rfl
  refine ⟨fun x hx => ?_, fun x hx => ?_⟩ <;> rcases h x hx with e | e <;> rw [e]
  · exact zp_00
  · exact ⟨by decide, by decide, fun _ => rfl⟩
  · exact Int.le_refl 0
  · exact Int.le_refl 0
section
variable {ps : List (List Nat)} {sz : Sz} {rc : Fm} {σ : List Int}
mutual
theorem pszT_dp (o : DzOk sz rc) (hn : ps.Nodup) (hl : ps.length = σ.length) (h0 : ∀ x ∈ σ, 0 ≤ x) : ∀ {t : Tr} {acc : PS}, WfT ps sz t → acc.length = ps.length + 1 → ZS acc → JS acc →
    (pszT ps sz acc t).length = ps.length + 1 ∧ ZS (pszT ps sz acc t) ∧ JS (pszT ps sz acc t) ∧ mv (0 :: σ) (pszT ps sz acc t) = max (mv (0 :: σ) acc) (ldT (ps.zip σ) rc t)
  | .nil, acc, _, ha, za, ja => by
    have := mv_n (c := 0 :: σ) (s := acc)
    simp only [pszT, ldT]
    exact ⟨ha, za, ja, by omega⟩
  | .word _ r, acc, w, ha, za, ja => by
    simp only [pszT, ldT]
    simp only [WfT] at w
    have zw : ZP (1, 0) := ⟨by decide, by decide, fun _ => rfl⟩
    have z1 : ZS ((1, 0) :: noneS ps) := zs_cons zw zs_none
    have e1 : acc.length = ((((1 : Int), (0 : Int)) :: noneS ps)).length := by rw [cons_none_len, ha]
    have h00 : ∀ x ∈ (0 : Int) :: σ, 0 ≤ x := fun x hx => by
      rcases List.mem_cons.mp hx with e | e
      · rw [e]; exact Int.le_refl 0
      · exact h0 x e
    have hda := hd_nn za
    have ⟨h1, h2, h3, h4⟩ := pszT_dp o hn hl h0 (t := r) (acc := bes acc ((1, 0) :: noneS ps)) w (by rw [bes_length e1, ha]) (zs_bes za z1) (js_bes e1 ja (fun y hy => by
      have := js_cons_none (ps := ps) (x := ((1 : Int), (0 : Int))) (Int.le_refl 0) y hy
      have e : hd2 ((((1 : Int), (0 : Int)) :: noneS ps)) = 0 := rfl
      rw [e] at this ⊢
      omega))
    refine ⟨h1, h2, h3, ?_⟩
    rw [h4, mv_bes e1 za z1 h00, mv_cons_none zw]
    have := mv_n (c := 0 :: σ) (s := acc)
    show max (max _ (0 : Int)) _ = _
    omega
  | .call n a r, acc, w, ha, za, ja => by
    simp only [WfT] at w
    obtain ⟨w1, w2, w3⟩ := w
    have hda := hd_nn za
    have h00 : ∀ x ∈ (0 : Int) :: σ, 0 ≤ x := fun x hx => by
      rcases List.mem_cons.mp hx with e | e
      · rw [e]; exact Int.le_refl 0
      · exact h0 x e
    have key : ∀ N : PS, N.length = ps.length + 1 → ZS N → Le2 N (max (hd2 acc) (hd2 N)) → mv (0 :: σ) N = (match (ps.zip σ).lookup n with
        | some x => x
        | none => ldW (reachS rc n (lenA a)) (ldA (ps.zip σ) rc a)) →
        (pszT ps sz (bes acc N) r).length = ps.length + 1 ∧ ZS (pszT ps sz (bes acc N) r) ∧ JS (pszT ps sz (bes acc N) r) ∧ mv (0 :: σ) (pszT ps sz (bes acc N) r) = max (mv (0 :: σ) acc) (max (match (ps.zip σ).lookup n with
        | some x => x
        | none => ldW (reachS rc n (lenA a)) (ldA (ps.zip σ) rc a)) (ldT (ps.zip σ) rc r)) := fun N nl zn ln nd => by
      have e1 : acc.length = N.length := by rw [nl, ha]
      have ⟨h1, h2, h3, h4⟩ := pszT_dp o hn hl h0 (t := r) (acc := bes acc N) w3 (by rw [bes_length e1, ha]) (zs_bes za zn) (js_bes e1 ja ln)
      exact ⟨h1, h2, h3, by rw [h4, mv_bes e1 za zn h00, nd]; omega⟩
    simp only [pszT, ldT]
    by_cases hm : n ∈ ps
    · rw [if_pos hm]
      obtain ⟨x, hx⟩ := zip_some (σ := σ) hl hm
      have zp := zs_param (ps := ps) (n := n)
      refine key (paramS ps n) (by unfold paramS; rw [List.length_cons, List.length_map]) zp.1 (zp.2.mono (by omega)) ?_
      rw [hx]
      show max (if (0 : Int) > 0 then (0 : Int) + 0 else 0) (mv σ (ps.map fun p => if n = p then ((1 : Int), (0 : Int)) else (0, 0))) = x
      have := mv_n (c := σ) (s := ps.map fun p => if n = p then ((1 : Int), (0 : Int)) else (0, 0))
      rw [mv_ind hn hl h0 hx] at this ⊢
      rw [if_neg (by omega)]; omega
    · rw [if_neg hm]
      have wl := whole_len w1 hm
      obtain ⟨wz, wj⟩ := whole_zj o (n := n) (k := lenA a)
      have wf := whole_ds o (n := n) (k := lenA a)
      have zh := zp_head wz
      have ⟨h1, h2, h3, h4⟩ := pszA_dp o hn hl h0 (a := a) (pls := (wholeS sz n (lenA a)).tail) (acc := (wholeS sz n (lenA a)).headD (0, 0) :: noneS ps) w2 (by rw [List.length_tail]; omega) (zs_tail wz) (fun y hy => wj y (List.mem_of_mem_tail hy)) cons_none_len (zs_cons zh zs_none) (js_cons_none zh.2.1)
      refine key _ h1 h2 (h3.mono (by omega)) ?_
      rw [h4, zip_none hm, mv_cons_none zh]
      show _ = ldW (reachS rc n (lenA a)) (ldA (ps.zip σ) rc a)
      rw [← wf]
      rfl
theorem pszA_dp (o : DzOk sz rc) (hn : ps.Nodup) (hl : ps.length = σ.length) (h0 : ∀ x ∈ σ, 0 ≤ x) : ∀ {a : Ar} {pls acc : PS}, WfA ps sz a → pls.length = lenA a → ZS pls → Le2 pls (hd2 acc) → acc.length = ps.length + 1 → ZS acc → JS acc →
    (pszA ps sz pls acc a).length = ps.length + 1 ∧ ZS (pszA ps sz pls acc a) ∧ JS (pszA ps sz pls acc a) ∧ mv (0 :: σ) (pszA ps sz pls acc a) = max (mv (0 :: σ) acc) (mxs (pls.map rch) (ldA (ps.zip σ) rc a))
  | .nil, pls, acc, _, hp, _, _, ha, za, ja => by
    have e : pls = [] := List.length_eq_zero_iff.mp (by simpa [lenA] using hp)
    subst e
    have := mv_n (c := 0 :: σ) (s := acc)
    simp only [pszA, ldA]
    exact ⟨ha, za, ja, by show _ = max _ (0 : Int); omega⟩
  | .cons t r, [], acc, _, hp, _, _, _, _, _ => by
    simp only [lenA, List.length_nil] at hp
    omega
  | .cons t r, pl :: pls, acc, w, hp, zp, lp, ha, za, ja => by
    simp only [WfA] at w
    have hp2 : pls.length = lenA r := by simp only [lenA, List.length_cons] at hp; omega
    have h00 : ∀ x ∈ (0 : Int) :: σ, 0 ≤ x := fun x hx => by
      rcases List.mem_cons.mp hx with e | e
      · rw [e]; exact Int.le_refl 0
      · exact h0 x e
    have ⟨g1, g2, g3, g4⟩ := pszT_dp o hn hl h0 (t := t) (acc := (0, 0) :: noneS ps) w.1 cons_none_len zs_zero (js_cons_none (Int.le_refl 0))
    have e1 : acc.length = (putAt pl (pszT ps sz ((0, 0) :: noneS ps) t)).length := by rw [put_length, g1, ha]
    have p0 := zp pl List.mem_cons_self
    have hda := hd_nn za
    have lp0 := lp pl List.mem_cons_self
    have lb := js_put (acc := acc) p0 g2 g3 lp0 hda
    have hb := hd_bes e1
    have hge : hd2 acc ≤ hd2 (bes acc (putAt pl (pszT ps sz ((0, 0) :: noneS ps) t))) := by
      rw [hb]; split <;> omega
    have ⟨h1, h2, h3, h4⟩ := pszA_dp o hn hl h0 (a := r) (pls := pls) (acc := bes acc (putAt pl (pszT ps sz ((0, 0) :: noneS ps) t))) w.2 hp2 (fun y hy => zp y (List.mem_cons_of_mem _ hy)) (fun y hy => Int.le_trans (lp y (List.mem_cons_of_mem _ hy)) hge) (by rw [bes_length e1, ha]) (zs_bes za (zs_put p0 g2)) (js_bes e1 ja lb)
    simp only [pszA, ldA]
    refine ⟨h1, h2, h3, ?_⟩
    have hmv := hd_mv (σ := σ) za
    rw [h4, mv_bes e1 za (zs_put p0 g2) h00, mv_put p0 (by omega) g2, g4, mv_cons_none zp_00]
    show _ = max _ (max (if rch pl ≥ 0 then rch pl + ldT (ps.zip σ) rc t else 0) (mxs (pls.map rch) (ldA (ps.zip σ) rc r)))
    have hT := ldT_nn (sg := ps.zip σ) (rc := rc) t
    have p2 := p0.2.1
    unfold rch
    rw [show max ((0 : Int), (0 : Int)).2 (ldT (ps.zip σ) rc t) = ldT (ps.zip σ) rc t from by show max (0 : Int) _ = _; omega]
    by_cases pp : pl.1 > 0
    · rw [if_pos pp, if_pos pp, if_pos p2]; omega
    · rw [if_neg pp, if_neg pp, if_neg (by decide)]; omega
end
end
/-! #### reaches -/
def reachL (ps : List (List Nat)) (b : Tr) (rc : Fm) : List Int :=
  ldT (ps.map fun q => (q, 0)) rc b :: ps.map fun p => ldT (ps.map fun q => (q, if q = p then ldT (ps.map fun q => (q, 0)) rc b + 1 else 0)) rc b - ldT (ps.map fun q => (q, 0)) rc b - 1
theorem reach_ok {ps : List (List Nat)} {sz : Sz} {rc : Fm} {b : Tr} (o : DzOk sz rc) (hn : ps.Nodup) (w : WfT ps sz b) : dsS (pszT ps sz ((0, 0) :: noneS ps) b) = reachL ps b rc ∧ ZS (pszT ps sz ((0, 0) :: noneS ps) b) ∧ JS (pszT ps sz ((0, 0) :: noneS ps) b) := by
  have z00 : ∀ x ∈ ps.map (fun _ => (0 : Int)), 0 ≤ x := fun x hx => by obtain ⟨_, _, rfl⟩ := List.mem_map.mp hx; exact Int.le_refl 0
  obtain ⟨l0, z0, j0, d0⟩ := pszT_dp o hn (σ := ps.map fun _ => (0 : Int)) (by rw [List.length_map]) z00 w cons_none_len zs_zero (js_cons_none (Int.le_refl 0))
  refine ⟨?_, z0, j0⟩
  have hT := ldT_nn (sg := ps.map fun q => (q, (0 : Int))) (rc := rc) b
  rw [mv_cons_none zp_00, zip_map] at d0
  have d0 : mv (0 :: ps.map fun _ => (0 : Int)) (pszT ps sz ((0, 0) :: noneS ps) b) = ldT (ps.map fun q => (q, (0 : Int))) rc b := by
    rw [d0]; show max (0 : Int) _ = _; omega
  have du : ∀ p k, 0 ≤ k → mv (0 :: ps.map fun q => if q = p then (k : Int) else 0) (pszT ps sz ((0, 0) :: noneS ps) b) = ldT (ps.map fun q => (q, if q = p then k else 0)) rc b := fun p k hk => by
    have hu := (pszT_dp o hn (σ := ps.map fun q => if q = p then (k : Int) else 0) (by rw [List.length_map]) (fun x hx => by
      obtain ⟨q, _, rfl⟩ := List.mem_map.mp hx
      split <;> omega) w cons_none_len zs_zero (js_cons_none (Int.le_refl 0))).2.2.2
    rw [mv_cons_none zp_00, zip_map] at hu
    have hT := ldT_nn (sg := ps.map fun q => (q, if q = p then (k : Int) else 0)) (rc := rc) b
    rw [hu]; show max (0 : Int) _ = _; omega
  have eh : ldT (ps.map fun q => (q, (0 : Int))) rc b = hd2 (pszT ps sz ((0, 0) :: noneS ps) b) := by
    have h1 := hd_mv (σ := ps.map fun _ => (0 : Int)) z0
    have h2 := mv_le (hd_nn z0) (c := 0 :: ps.map fun _ => (0 : Int)) (fun x hx => by
      rcases List.mem_cons.mp hx with e | e
      · rw [e]; exact Int.le_refl 0
      · obtain ⟨_, _, rfl⟩ := List.mem_map.mp e; exact Int.le_refl 0) j0
    rw [d0] at h1 h2
    omega
  unfold reachL
  rw [eh]
  have hh := hd_nn z0
  have du2 := fun p => du p (hd2 (pszT ps sz ((0, 0) :: noneS ps) b) + 1) (by omega)
  generalize pszT ps sz ((0, 0) :: noneS ps) b = R at l0 z0 j0 du2 hh ⊢
  cases R with
  | nil => cases l0
  | cons x v =>
    have lv : v.length = ps.length := by simpa using l0
    have ex : hd2 (x :: v) = x.2 := rfl
    unfold dsS
    rw [ex] at hh du2 ⊢
    show x.2 :: v.map rch = _
    congr 1
    apply List.ext_getElem
    · rw [List.length_map, List.length_map, lv]
    · intro i h1 h2
      have hi : i < ps.length := by simpa using h2
      have hv : i < v.length := by omega
      rw [List.getElem_map, List.getElem_map, ← du2 ps[i]]
      have hu := mv_unit (m := x.2) (k := x.2 + 1) hh (by omega) hi hv hn (fun y hy => z0 y (List.mem_cons_of_mem _ hy)) fun y hy => j0 y (List.mem_cons_of_mem _ hy)
      show rch v[i] = max (if x.1 > 0 then x.2 + 0 else 0) (mv (ps.map fun q => if q = ps[i] then x.2 + 1 else 0) v) - x.2 - 1
      obtain ⟨x0, x1, x2⟩ := z0 x List.mem_cons_self
      have ex2 : (if x.1 > 0 then x.2 + 0 else 0) = x.2 := by
        split
        · omega
        · rw [x2 (by omega)]
      rw [ex2, hu]
      unfold rch
      split <;> omega
/-! #### the whole tree -/
def rcK (rc : Fm) (a : Ar) : Fm := match letOf a with
  | some (m :: ps, b) => rc ++ [(m, reachL ps b rc)]
  | _ => rc
def rcs : Tr → Fm → Fm
  | .nil, rc => rc
  | .word _ r, rc => rcs r rc
  | .call n a r, rc => if n = letN then rcs r (rcK rc a) else rcs r rc
def ndL : Tr → Fm → Int
  | .nil, _ => 0
  | .word _ r, rc => ndL r rc
  | .call n a r, rc => if n = letN then ndL r (rcK rc a) else max (ldT [] rc (.call n a .nil)) (ndL r rc)
theorem reach_ext {kn : Kn} {fm fm' : Fm} (e : Ext kn fm fm') {ps : List (List Nat)} {n : List Nat} {k : Nat} (h : ownF ps kn n k = []) (hp : n ∉ ps) : reachS fm' n k = reachS fm n k := by
  unfold reachS
  obtain ⟨_, h1 | ⟨_, h1 | ⟨h1, h2⟩⟩⟩ := own_nil h
  · exact absurd h1 hp
  · rw [e.old n (by rw [h1]; rfl)]
  · rw [(e.bn n h2).1, (e.bn n h2).2]
mutual
theorem ldT_ext {kn : Kn} {fm fm' : Fm} (e : Ext kn fm fm') {ps : List (List Nat)} {sg : List (List Nat × Int)} (hs : ∀ n, n ∈ ps → (sg.lookup n).isSome) : ∀ {t : Tr}, fauT ps kn t = [] → ldT sg fm' t = ldT sg fm t
  | .nil, _ => by simp only [ldT]
  | .word _ r, h => by
    simp only [fauT] at h
    simp only [ldT]
    rw [ldT_ext e hs h]
  | .call n a r, h => by
    simp only [fauT, List.append_eq_nil_iff] at h
    simp only [ldT]
    rw [ldT_ext e hs h.2.2, ldA_ext e hs h.2.1]
    cases es : sg.lookup n with
    | some x => rfl
    | none => rw [reach_ext e h.1 fun hp => by have := hs n hp; rw [es] at this; cases this]
theorem ldA_ext {kn : Kn} {fm fm' : Fm} (e : Ext kn fm fm') {ps : List (List Nat)} {sg : List (List Nat × Int)} (hs : ∀ n, n ∈ ps → (sg.lookup n).isSome) : ∀ {a : Ar}, fauA ps kn a = [] → ldA sg fm' a = ldA sg fm a
  | .nil, _ => by simp only [ldA]
  | .cons t r, h => by
    simp only [fauA, List.append_eq_nil_iff] at h
    simp only [ldA]
    rw [ldT_ext e hs h.1, ldA_ext e hs h.2]
end
theorem DzOk.step {sz : Sz} {rc : Fm} (k : DzOk sz rc) {m : List Nat} {S : PS} (zS : ZS S) (jS : JS S) (lS : 0 < S.length) : DzOk (sz ++ [(m, S)]) (rc ++ [(m, dsS S)]) := by
  refine ⟨fun n => ?_, fun n s h => ?_⟩
  · rw [look_app, look_app]
    have h := k.fst n
    cases e : sz.lookup n with
    | some x => rw [e] at h; rw [← h]; rfl
    | none =>
      rw [e] at h; rw [← h]
      show (if n = m then some S else none).map dsS = if n = m then some (dsS S) else none
      by_cases e2 : n = m
      · rw [if_pos e2, if_pos e2]; rfl
      · rw [if_neg e2, if_neg e2]; rfl
  · rw [look_app] at h
    cases e : sz.lookup n with
    | some x => rw [e] at h; rw [← Option.some.inj h]; exact k.zj n x e
    | none =>
      rw [e] at h
      have h2 : (if n = m then some S else none) = some s := h
      by_cases e2 : n = m
      · rw [if_pos e2] at h2; rw [← Option.some.inj h2]; exact ⟨zS, jS, lS⟩
      · rw [if_neg e2] at h2; cases h2
theorem dz_some {kn : Kn} {sz : Sz} {fm rc : Fm} (k : KS kn sz fm) (d : DzOk sz rc) (n : List Nat) : (rc.lookup n).isSome = (kn.lookup n).isSome := by
  rw [← d.fst n, Option.isSome_map]
  have h := congrArg Option.isSome (k.len n)
  rw [Option.isSome_map, Option.isSome_map] at h
  exact h
theorem dz_bn {kn : Kn} {sz : Sz} {fm rc : Fm} (k : KS kn sz fm) (d : DzOk sz rc) {n : List Nat} (hn : n ∈ bnN) : rc.lookup n = none := by
  have h := dz_some k d n
  rw [k.bn n hn] at h
  cases e : rc.lookup n with
  | none => rfl
  | some x => rw [e] at h; cases h
theorem nd_run : ∀ {t : Tr} {kn : Kn} {sz : Sz} {fm rc : Fm}, KS kn sz fm → DzOk sz rc → chk t kn = none →
    DzOk (szs t sz) (rcs t rc) ∧ Ext kn rc (rcs t rc) ∧ ndL t rc = ldT [] (rcs t rc) (ndT t)
  | .nil, kn, sz, fm, rc, k, d, _ => by
    simp only [szs, rcs, ndT, ndL, ldT]
    exact ⟨d, ⟨fun _ _ => rfl, fun n h => ⟨dz_bn k d h, dz_bn k d h⟩⟩, trivial⟩
  | .word w r, kn, sz, fm, rc, k, d, h => by
    simp only [chk] at h
    simp only [szs, rcs, ndT, ndL, ldT]
    exact nd_run k d h
  | .call n a r, kn, sz, fm, rc, k, d, h => by
    simp only [chk] at h
    simp only [szs, rcs, ndT, ndL]
    by_cases en : n = letN
    · rw [if_pos en] at h
      rw [if_pos en, if_pos en, if_pos en, if_pos en]
      have h0 : ltF kn a = none := by
        cases e : ltF kn a with
        | none => rfl
        | some f => rw [e] at h; cases h
      rw [h0] at h
      have h6 : chk r (ltK kn a) = none := h
      obtain ⟨m, ps, b, el, hm, hf, hb, hn, hk⟩ := lt_none h0
      obtain ⟨f1, f2, f3⟩ := form_ok k.ok hn (wfT_of k hf)
      obtain ⟨g1, g2, g3⟩ := reach_ok d hn (wfT_of k hf)
      have esz : szK sz a = sz ++ [(m, pszT ps sz ((0, 0) :: noneS ps) b)] := by unfold szK; rw [el]
      have efm : fmK fm a = fm ++ [(m, fsS (pszT ps sz ((0, 0) :: noneS ps) b))] := by unfold fmK; rw [el, f1]
      have erc : rcK rc a = rc ++ [(m, dsS (pszT ps sz ((0, 0) :: noneS ps) b))] := by unfold rcK; rw [el, g1]
      have k2 := k.step hm hb f2 f3
      rw [← hk, ← esz, ← efm] at k2
      have d2 := d.step (m := m) g2 g3 (by rw [f3]; omega)
      rw [← esz, ← erc] at d2
      obtain ⟨h1, h3, h5⟩ := nd_run k2 d2 h6
      refine ⟨h1, ⟨fun x hx => ?_, fun x hx => ⟨(h3.bn x hx).1, dz_bn k d hx⟩⟩, h5⟩
      have hx2 : (kn.lookup x).isSome = true := hx
      rw [h3.old x (by
        rw [hk, look_app]
        cases e : kn.lookup x with
        | some j => rfl
        | none => rw [e] at hx2; cases hx2), erc, look_app]
      have h7 := dz_some k d x
      rw [hx2] at h7
      cases e : rc.lookup x with
      | some y => rfl
      | none => rw [e] at h7; cases h7
    · rw [if_neg en] at h
      rw [if_neg en, if_neg en, if_neg en, if_neg en]
      have h0 : fauN [] kn (.call n a) = [] := by
        cases e : fauN [] kn (.call n a) with
        | nil => rfl
        | cons f fs => rw [e] at h; cases h
      rw [h0] at h
      have h6 : chk r kn = none := h
      simp only [fauN, List.append_eq_nil_iff] at h0
      obtain ⟨h1, h3, h5⟩ := nd_run k d h6
      refine ⟨h1, h3, ?_⟩
      have e1 : ldT [] (rcs r rc) (.call n a .nil) = ldT [] rc (.call n a .nil) := ldT_ext h3 (ps := []) (fun _ h => by cases h) (by
        simp only [fauT, List.append_eq_nil_iff]
        exact ⟨h0.1, h0.2, trivial⟩)
      rw [← e1, h5]
      simp only [ldT]
      have := ldT_nn (sg := []) (rc := rcs r rc) (ndT r)
      omega
theorem dz_nil : DzOk [] [] := ⟨fun _ => rfl, fun _ _ h => by cases h⟩
/-- the program's depth of a tree without a fault is the law's -/
theorem nd_same {t : Tr} (h : chk t [] = none) : hd2 (pszT [] (szs t []) [(0, 0)] (ndT t)) = ndL t [] := by
  obtain ⟨k, _, _, h4, _⟩ := len_run ks_nil h
  obtain ⟨d, _, h5⟩ := nd_run ks_nil dz_nil h
  obtain ⟨l1, z1, j1, d1⟩ := pszT_dp d (ps := []) (σ := []) List.nodup_nil rfl (fun _ h => by cases h) (acc := [(0, 0)]) (wfT_of k h4) rfl (zs_zero (ps := [])) (js_cons_none (ps := []) (Int.le_refl 0))
  rw [h5]
  have hT := ldT_nn (sg := []) (rc := rcs t []) (ndT t)
  generalize pszT [] (szs t []) [(0, 0)] (ndT t) = R at l1 z1 d1 ⊢
  match R, l1, z1, d1 with
  | [x], _, z1, d1 =>
    have d2 : mv [0] [x] = max (mv [0] [(0, 0)]) (ldT [] (rcs t []) (ndT t)) := d1
    have e0 : mv [0] [((0 : Int), (0 : Int))] = 0 := rfl
    have ex := mv_cons_none (ps := []) (σ := []) (x := x) (z1 x List.mem_cons_self)
    have ex : mv [0] [x] = x.2 := ex
    rw [ex, e0] at d2
    show x.2 = _
    omega
end Vf

set_option Elab.async false
set_option linter.all false
set_option maxRecDepth 100000
set_option maxHeartbeats 4000000
namespace Vf
open PySem PySem.Spec PyProof.Rows L2 TL
/-! ### a size as a list of pairs -/
def PR (H : Hp) (v : V) (x : Int × Int) : Prop := ∃ p, v = .ref p ∧ H p = some (.tup [.int x.1, .int x.2])
def PRs (H : Hp) (vs : List V) (s : PS) : Prop := vs.length = s.length ∧ ∀ (i : Nat) (x : Int × Int), s[i]? = some x → ∃ v, vs[i]? = some v ∧ PR H v x
theorem PR.keep {H H' : Hp} {v : V} {x : Int × Int} (h : PR H v x) (k : TKeep H H') : PR H' v x := by
  obtain ⟨p, e, a⟩ := h
  exact ⟨p, e, k _ _ a⟩
theorem PRs.keep {H H' : Hp} {vs : List V} {s : PS} (h : PRs H vs s) (k : TKeep H H') : PRs H' vs s := ⟨h.1, fun i x hx => by
  obtain ⟨v, e, a⟩ := h.2 i x hx
  exact ⟨v, e, a.keep k⟩⟩
theorem PRs.snoc {H : Hp} {vs : List V} {s : PS} {v : V} {x : Int × Int} (h : PRs H vs s) (a : PR H v x) : PRs H (vs ++ [v]) (s ++ [x]) := by
  refine ⟨by rw [List.length_append, List.length_append, h.1]; rfl, fun i y hy => ?_⟩
  have hv := h.1
  by_cases hi : i < s.length
  · rw [List.getElem?_append_left hi] at hy
    obtain ⟨u, e, b⟩ := h.2 i y hy
    exact ⟨u, by rw [List.getElem?_append_left (by omega)]; exact e, b⟩
  · rw [List.getElem?_append_right (by omega)] at hy
    have e0 : i - s.length = 0 := by
      have := (List.getElem?_eq_some_iff.mp hy).1
      simp only [List.length_singleton] at this; omega
    rw [e0] at hy
    have ey : x = y := Option.some.inj hy
    subst ey
    exact ⟨v, by rw [List.getElem?_append_right (by omega), hv, e0]; rfl, a⟩
def SV (H : Hp) (v : V) (s : PS) : Prop := ∃ p vs, v = .ref p ∧ H p = some (.lst vs) ∧ PRs H vs s
theorem SV.same {H H' : Hp} {v : V} {s : PS} (h : SV H v s) (k : Same H H') : SV H' v s := by
  obtain ⟨p, vs, e, a, b⟩ := h
  exact ⟨p, vs, e, k _ _ a, b.keep (TKeep.same k)⟩
/-- a comprehension that makes a size, pair by pair -/
def PvZ (H1 : Hp) (D : Addr) (s : PS) (i : Nat) (H : Hp) : Prop := ∃ vs, Same H1 H ∧ H D = some (.lst vs) ∧ PRs H vs (s.take i)
theorem PvZ.start {H1 : Hp} {D : Addr} {s : PS} (n : H1 D = none) : PvZ H1 D s 0 (upd H1 D (.lst [])) :=
  ⟨[], same_upd (Same.refl H1) n, upd_same, by rw [List.take_zero]; exact ⟨rfl, fun i x h => by cases i <;> cases h⟩⟩
theorem PvZ.step {H1 H2 H3 : Hp} {D : Addr} {s : PS} {i : Nat} {v : V} {x : Int × Int} (h : PvZ H1 D s i H2) (nD : H1 D = none) (k : Same H2 H3) (hx : s[i]? = some x) (hz : i < 1000) (a : PR H3 v x) :
    ∃ acc, H3 D = some (.lst acc) ∧ acc.length < sizeLine ∧ PvZ H1 D s (i + 1) (upd H3 D (.lst (acc ++ [v]))) := by
  obtain ⟨vs, k1, e, r⟩ := h
  have e3 := k _ _ e
  have tm := TKeep.mut (o := .lst (vs ++ [v])) e3
  have hl : vs.length = (s.take i).length := r.1
  rw [List.length_take] at hl
  refine ⟨vs, e3, lt_size (by omega), vs ++ [v], same_mut (k1.trans k) nD, upd_same, ?_⟩
  rw [take_succ' hx]
  exact ((r.keep (TKeep.same k)).keep tm).snoc (a.keep tm)
section
variable {P : Program} {w : World} {K : PySem.W.Frag} {mg : Str → Option Value} {base : Heap}
def spBeside : Sp := fun vs H Q _ => ∃ (v u : V) (a b : PS), vs = [v, u] ∧ SV H v a ∧ SV H u b ∧ a.length = b.length ∧ a.length ≤ 100 ∧ ∀ H' r, Same H H' → SV H' r (bes a b) → Q r H'
theorem ok_beside (T : Txt K mg) : FnOk P w K mg base CX0 1 T.a_beside T.d_beside ["size", "other"] spBeside := by
  refine T.D_beside.F.ok sc_beside (fun vs H Q E h => ?_) (fun cdv A outer s H vs Q E hr h => ?_)
  · obtain ⟨v, u, a, b, rfl, _⟩ := h
    rfl
  · obtain ⟨v, u, a, b, rfl, ⟨p, vs, rfl, ep, ra⟩, ⟨p2, us, rfl, ep2, rb⟩, hl, h100, q⟩ := h
    refine ⟨_, (pss_one (ps_ret (pe_lc (own := [("many", 2), ("deep", 3), ("more", 4), ("deeper", 5)]) (g := (gTup K 2 (gCons (gTup K 2 (gCons (gName 2) (gCons (gName 3) gNil))) (gCons (gTup K 2 (gCons (gName 4) (gCons (gName 5) gNil))) gNil)))) (tt := tYes) rfl sc_beside.nd (pi_zip (by rfl) T.n_zip (pa_cons (pv 0) (pa_cons (pv 1) pa_nil))) (blkOk_by (own := [("many", 2), ("deep", 3), ("more", 4), ("deeper", 5)]) (N := ["size", "other", "many", "deep", "more", "deeper"]) (sc := defScope s_beside) (by decide +kernel)) (fun _ _ _ _ _ => (pg_tup (by rfl) (pgs_cons (pg_tup (by rfl) (pgs_cons (pg_name (i := 2) sc_beside.nd rfl (.inl rfl)) (pgs_cons (pg_name (i := 3) sc_beside.nd rfl (.inl rfl)) pgs_nil))) (pgs_cons (pg_tup (by rfl) (pgs_cons (pg_name (i := 4) sc_beside.nd rfl (.inl rfl)) (pgs_cons (pg_name (i := 5) sc_beside.nd rfl (.inl rfl)) pgs_nil))) pgs_nil)))) (fun _ _ _ _ _ => pts_nil) (fun _ _ _ _ _ => (pe_tup (pa_cons (pe_op op_add (pv 2) (pv 4)) (pa_cons (pe_callB (call_max2 (by rfl)) (by rfl) T.n_max (by decide +kernel) (pa_cons (pv 3) (pa_cons (pv 5) pa_nil))) pa_nil))))))), ?_⟩
    refine ⟨_, rfl, _, rfl, p, p2, vs, us, rfl, SqL.of ep, SqL.of ep2, fun D nD => ?_⟩
    have n1 := ra.1
    have n2 := rb.1
    refine lc_it (n := a.length) (walk_zip (xs := vs) (ys := us) (by omega)) (PvZ H D (bes a b)) (PvZ.start nD) (fun i H' _ h => ?_) ?_ ?_
    · obtain ⟨_, k, _⟩ := h
      exact ⟨SqL.of (k _ _ ep), SqL.of (k _ _ ep2)⟩
    · rintro i x H' H'' hi hp ⟨Tt, x1, x2, rfl, nT, rfl, h1, h2⟩
      have hi2 : i < b.length := by omega
      obtain ⟨v1, g1, pa, rfl, epa⟩ := ra.2 i a[i] (List.getElem?_eq_getElem hi)
      obtain ⟨v2, g2, pb, rfl, epb⟩ := rb.2 i b[i] (List.getElem?_eq_getElem hi2)
      have e1 := Option.some.inj (g1.symm.trans h1)
      have e2 := Option.some.inj (g2.symm.trans h2)
      subst e1 e2
      have kT := same_upd (o := .tup [V.ref pa, V.ref pb]) (Same.refl H') nT
      have k0 : Same H H' := by obtain ⟨_, k, _⟩ := hp; exact k
      refine ⟨Tt, _, rfl, SqT.of upd_same, rfl, _, _, rfl, pa, _, rfl, SqT.of (kT _ _ (k0 _ _ epa)), rfl, _, _, rfl, _, _, rfl, rfl, _, _, rfl, pb, _, rfl, SqT.of (kT _ _ (k0 _ _ epb)), rfl, _, _, rfl, _, _, rfl, rfl, rfl, rfl, ?_⟩
      refine ⟨_, rfl, _, rfl, _, _, rfl, rfl, _, rfl, _, rfl, _, _, rfl, by show 2 ≤ sizeLine; decide, fun c nc => ?_⟩
      have ez : (bes a b)[i]? = some (a[i].1 + b[i].1, if b[i].2 > a[i].2 then b[i].2 else a[i].2) := by
        unfold bes
        rw [List.getElem?_zipWith, List.getElem?_eq_getElem hi, List.getElem?_eq_getElem hi2]
      exact hp.step nD (kT.trans (same_upd (Same.refl _) nc)) ez (by omega) ⟨c, rfl, upd_same⟩
    · rintro H' ⟨ws, k, e, r⟩
      rw [List.take_of_length_le (by rw [bes_length hl]; exact Nat.le_refl _)] at r
      exact q H' _ k ⟨D, ws, rfl, e, r⟩
def spPutAt : Sp := fun vs H Q _ => ∃ (v u : V) (p : Int × Int) (s : PS), vs = [v, u] ∧ PR H v p ∧ SV H u s ∧ s.length ≤ 100 ∧ (∀ x ∈ s, CMulW p.1 x.1) ∧ ∀ H' r, Same H H' → SV H' r (putAt p s) → Q r H'
theorem ok_put_at (T : Txt K mg) : FnOk P w K mg base CX0 1 T.a_put_at T.d_put_at ["place", "size"] spPutAt := by
  refine T.D_put_at.F.ok sc_put_at (fun vs H Q E h => ?_) (fun cdv A outer s H vs Q E hr h => ?_)
  · obtain ⟨v, u, p, s, rfl, _⟩ := h
    rfl
  · obtain ⟨v, u, p, z, rfl, ⟨pp, rfl, epp⟩, ⟨pz, vs, rfl, epz, rz⟩, h100, hm, q⟩ := h
    refine ⟨_, (pss_cons (ps_asg (pv 0) (pg_tup (by rfl) (pgs_cons (pg_name (i := 2) sc_put_at.nd rfl (.inr rfl)) (pgs_cons (pg_name (i := 3) sc_put_at.nd rfl (.inr rfl)) pgs_nil))))
      (pss_one (ps_ret (pe_lc (own := [("many", 4), ("deep", 5)]) (g := (gTup K 2 (gCons (gName 4) (gCons (gName 5) gNil)))) (tt := tYes) rfl sc_put_at.nd (pi_list (pv 1)) (blkOk_by (own := [("many", 4), ("deep", 5)]) (N := ["place", "size", "times", "depth", "many", "deep"]) (sc := defScope s_put_at) (by decide +kernel)) (fun _ _ _ _ _ => (pg_tup (by rfl) (pgs_cons (pg_name (i := 4) sc_put_at.nd rfl (.inl rfl)) (pgs_cons (pg_name (i := 5) sc_put_at.nd rfl (.inl rfl)) pgs_nil)))) (fun _ _ _ _ _ => pts_nil) (fun _ _ _ _ _ => (pe_ifExp (pt_cmpR op_gt (pe_op op_mulW (pv 2) (pv 4)) pe_int (nomark _)) (pe_tup (pa_cons (pe_op op_mulW (pv 2) (pv 4)) (pa_cons (pe_op op_add (pv 3) (pv 5)) pa_nil))) (pe_tup (pa_cons pe_int (pa_cons pe_int pa_nil))))))))), ?_⟩
    refine ⟨_, rfl, pp, _, rfl, SqT.of epp, rfl, _, _, rfl, _, _, rfl, rfl, ?_⟩
    refine ⟨_, rfl, pz, rfl, ⟨_, SqL.of epz⟩, fun D nD => ?_⟩
    have nz := rz.1
    refine lc_list (K := K) (a := pz) (xs := vs) (PvZ H D (putAt p z)) (PvZ.start nD) (fun i H' _ h => ?_) ?_ ?_
    · obtain ⟨_, k, _⟩ := h
      exact SqL.of (k _ _ epz)
    · rintro i x H' hx hp
      have hi : i < z.length := by have := (List.getElem?_eq_some_iff.mp hx).1; omega
      obtain ⟨v1, g1, pa, rfl, epa⟩ := rz.2 i z[i] (List.getElem?_eq_getElem hi)
      have e1 := Option.some.inj (g1.symm.trans hx)
      subst e1
      have k0 : Same H H' := by obtain ⟨_, k, _⟩ := hp; exact k
      have cm := hm z[i] (List.getElem_mem hi)
      have ez : (putAt p z)[i]? = some (if p.1 * z[i].1 > 0 then (p.1 * z[i].1, p.2 + z[i].2) else (0, 0)) := by
        unfold putAt
        rw [List.getElem?_map, List.getElem?_eq_getElem hi]; rfl
      refine ⟨pa, _, rfl, SqT.of (k0 _ _ epa), rfl, _, _, rfl, _, _, rfl, rfl, rfl, ?_⟩
      refine ⟨_, rfl, _, rfl, _, _, rfl, rfl, cm, _, _, rfl, rfl, _, rfl, ite2 (fun e => ?_) (fun e => ?_)⟩
      · rw [if_pos (of_decide_eq_true e)] at ez
        exact ⟨_, rfl, _, rfl, _, _, rfl, rfl, cm, _, rfl, _, rfl, _, _, rfl, rfl, by show 2 ≤ sizeLine; decide, fun c nc => hp.step nD (same_upd (Same.refl _) nc) ez (by omega) ⟨c, rfl, upd_same⟩⟩
      · rw [if_neg fun h => e (decide_eq_true h)] at ez
        exact ⟨by show 2 ≤ sizeLine; decide, fun c nc => hp.step nD (same_upd (Same.refl _) nc) ez (by omega) ⟨c, rfl, upd_same⟩⟩
    · rintro H' ⟨ws, k, e, r⟩
      rw [List.take_of_length_le (by rw [put_length, nz]; exact Nat.le_refl _)] at r
      exact q H' _ k ⟨D, ws, rfl, e, r⟩
def spBuiltS : Sp := fun vs H Q _ => ∃ k : Nat, vs = [.int (k : Int)] ∧ k ≤ 95000 ∧ ∀ H' r, Same H H' → SV H' r (builtS k) → Q r H'
theorem ok_builtS (T : Txt K mg) : FnOk P w K mg base CX0 1 T.a_built_in_size T.d_built_in_size ["many"] spBuiltS := by
  refine T.D_built_in_size.F.ok sc_built_in_size (fun vs H Q E h => ?_) (fun cdv A outer s H vs Q E hr h => ?_)
  · obtain ⟨k, rfl, _⟩ := h
    rfl
  · obtain ⟨k, rfl, hk, q⟩ := h
    refine ⟨_, (pss_one (ps_ret (pe_op op_cat (pe_lst (pa_cons (pe_tup (pa_cons pe_int (pa_cons (pe_callB (call_min2 (by rfl)) (by rfl) T.n_min (by decide +kernel) (pa_cons (pv 0) (pa_cons pe_int pa_nil))) pa_nil))) pa_nil)) (pe_op op_rep (pe_lst (pa_cons (pe_tup (pa_cons pe_int (pa_cons pe_int pa_nil))) pa_nil)) (pv 0))))), ?_⟩
    refine ⟨_, rfl, _, _, rfl, by show 2 ≤ sizeLine; decide, fun p1 n1 => ⟨by show 1 ≤ sizeLine; decide, fun L1 m1 => ⟨by show 2 ≤ sizeLine; decide, fun p2 n2 => ⟨by show 1 ≤ sizeLine; decide, fun L2 m2 => ?_⟩⟩⟩⟩
    have t1 := same_upd (o := .tup [V.int 1, .int (if (1 : Int) < (k : Int) then 1 else (k : Int))]) (Same.refl H) n1
    have t2 := same_upd (o := .lst [V.ref p1]) (Same.refl _) m1
    have t3 := same_upd (o := .tup [V.int 1, .int 1]) (Same.refl _) n2
    have t4 := same_upd (o := .lst [V.ref p2]) (Same.refl _) m2
    refine ⟨_, rfl, L2, _, _, rfl, rfl, upd_same, by omega, by omega, by rw [Int.toNat_natCast]; exact Nat.le_of_lt (lt_size (by rw [List.length_singleton]; omega)), fun L3 m3 => ?_⟩
    have ef : (List.replicate ((k : Int)).toNat [V.ref p2]).flatten = List.replicate k (V.ref p2) := by rw [Int.toNat_natCast, List.flatten_replicate_singleton]
    rw [ef]
    have t5 := same_upd (o := .lst (List.replicate k (V.ref p2))) (Same.refl _) m3
    have eL1 := (t3.trans (t4.trans t5)) _ _ (upd_same (a := L1) (o := .lst [V.ref p1]))
    refine ⟨L1, L3, _, _, rfl, rfl, eL1, upd_same, Nat.le_of_lt (lt_size (by rw [List.length_singleton, List.length_replicate]; omega)), fun L4 m4 => ?_⟩
    have t6 := same_upd (o := .lst ([V.ref p1] ++ List.replicate k (V.ref p2))) (Same.refl _) m4
    have e1 := (t2.trans (t3.trans (t4.trans (t5.trans t6)))) _ _ (upd_same (a := p1) (o := .tup [V.int 1, .int (if (1 : Int) < (k : Int) then 1 else (k : Int))]))
    have e2 := (t4.trans (t5.trans t6)) _ _ (upd_same (a := p2) (o := .tup [V.int 1, .int 1]))
    refine q _ _ (t1.trans (t2.trans (t3.trans (t4.trans (t5.trans t6))))) ⟨L4, _, rfl, upd_same, ?_, fun i x hx => ?_⟩
    · show (V.ref p1 :: List.replicate k (V.ref p2)).length = (builtS k).length
      unfold builtS
      rw [List.length_cons, List.length_cons, List.length_replicate, List.length_replicate]
    · cases i with
      | zero =>
        have ex := Option.some.inj hx
        subst ex
        exact ⟨V.ref p1, rfl, p1, rfl, e1⟩
      | succ i =>
        have hx2 : (List.replicate k ((1 : Int), (1 : Int)))[i]? = some x := hx
        have hi : i < k := by have := (List.getElem?_eq_some_iff.mp hx2).1; rw [List.length_replicate] at this; exact this
        rw [List.getElem?_replicate, if_pos hi] at hx2
        have ex := Option.some.inj hx2
        subst ex
        exact ⟨V.ref p2, by show (List.replicate k (V.ref p2))[i]? = _; rw [List.getElem?_replicate, if_pos hi], p2, rfl, e2⟩
end
end Vf

set_option Elab.async false
set_option linter.all false
set_option maxRecDepth 100000
set_option maxHeartbeats 4000000
namespace Vf
open PySem PySem.Spec PyProof.Rows L2 TL
/-! ### how large a size can become -/
mutual
def wT : Tr → Nat
  | .nil => 0
  | .word _ r => 1 + wT r
  | .call _ a r => 1 + wA a + wT r
def wA : Ar → Nat
  | .nil => 0
  | .cons t r => 1 + wT t + wA r
end
theorem lenA_le : ∀ a : Ar, lenA a ≤ wA a
  | .nil => Nat.le_refl _
  | .cons t r => by
    have := lenA_le r
    simp only [lenA, wA]; omega
def LeS (s : PS) (N : Nat) : Prop := ∀ x ∈ s, x.1 ≤ (N : Int)
theorem LeS.mono {s : PS} {N M : Nat} (h : LeS s N) (k : N ≤ M) : LeS s M := fun x hx => by
  have := h x hx; omega
theorem le_bes {N M : Nat} : ∀ {a b : PS}, LeS a N → LeS b M → LeS (bes a b) (N + M)
  | [], _, _, _ => fun x h => by simp [bes] at h
  | _ :: _, [], _, _ => fun x h => by simp [bes] at h
  | u :: a, v :: b, ha, hb => fun x h => by
    have h' : x ∈ (u.1 + v.1, if v.2 > u.2 then v.2 else u.2) :: bes a b := h
    rcases List.mem_cons.mp h' with e | e
    · rw [e]
      have h1 := ha u List.mem_cons_self
      have h2 := hb v List.mem_cons_self
      show u.1 + v.1 ≤ _; omega
    · exact le_bes (fun y hy => ha y (List.mem_cons_of_mem _ hy)) (fun y hy => hb y (List.mem_cons_of_mem _ hy)) x e
theorem le_put {p : Int × Int} {s : PS} {N M : Nat} (h0 : 0 ≤ p.1) (hp : p.1 ≤ (M : Int)) (hs : LeS s N) (hn : NN s) : LeS (putAt p s) (M * N) := fun x h => by
  obtain ⟨y, hy, rfl⟩ := List.mem_map.mp h
  have h1 := hs y hy
  have h2 := hn y hy
  split
  · show p.1 * y.1 ≤ ((M * N : Nat) : Int)
    rw [Int.natCast_mul]
    exact Int.mul_le_mul hp h1 h2 (by omega)
  · show (0 : Int) ≤ _; omega
theorem le_none {ps : List (List Nat)} {x : Int × Int} {N : Nat} (h : x.1 ≤ (N : Int)) : LeS (x :: noneS ps) N := fun y hy => by
  rcases List.mem_cons.mp hy with e | e
  · rw [e]; exact h
  · rw [(List.mem_replicate.mp e).2]; show (0 : Int) ≤ _; omega
/-- every macro's size is at most M -/
def MaxS (sz : Sz) (M : Nat) : Prop := 1 ≤ M ∧ ∀ n s, sz.lookup n = some s → LeS s M
theorem whole_le {sz : Sz} {M : Nat} (h : MaxS sz M) {n : List Nat} {k : Nat} : LeS (wholeS sz n k) M := by
  unfold wholeS
  cases e : sz.lookup n with
  | some s => exact h.2 n s e
  | none =>
    have := h.1
    intro x hx
    rcases List.mem_cons.mp hx with h | h
    · rw [h]; show (1 : Int) ≤ _; omega
    · rw [(List.mem_replicate.mp h).2]; show (1 : Int) ≤ _; omega
theorem le_head {s : PS} {N : Nat} (h : LeS s N) : (s.headD (0, 0)).1 ≤ (N : Int) := by
  cases s with
  | nil => show (0 : Int) ≤ _; omega
  | cons x s => exact h x List.mem_cons_self
theorem le_tail {s : PS} {N : Nat} (h : LeS s N) : LeS s.tail N := fun x hx => h x (List.mem_of_mem_tail hx)
section
variable {ps : List (List Nat)} {sz : Sz} {fm : Fm} {M : Nat}
mutual
theorem pszT_le (o : SzOk sz fm) (hM : MaxS sz M) (hn : ps.Nodup) : ∀ {t : Tr} {acc : PS} {e A : Nat}, WfT ps sz t → acc.length = ps.length + 1 → NN acc → depT t ≤ e → LeS acc A → LeS (pszT ps sz acc t) (A + wT t * M ^ (e + 1))
  | .nil, acc, e, A, _, ha, na, _, hA => by
    simp only [pszT, wT]
    exact hA.mono (by omega)
  | .word _ r, acc, e, A, w, ha, na, hd, hA => by
    simp only [pszT, wT]
    simp only [WfT] at w
    simp only [depT] at hd
    have e1 : acc.length = ((((1 : Int), (0 : Int)) :: noneS ps)).length := by rw [cons_none_len, ha]
    have h := pszT_le o hM hn (t := r) (acc := bes acc ((1, 0) :: noneS ps)) (e := e) (A := A + 1) w (by rw [bes_length e1, ha]) (nn_bes na (nn_cons_none (by show (0 : Int) ≤ 1; decide))) hd (le_bes hA (le_none (by show (1 : Int) ≤ _; omega)))
    refine h.mono ?_
    have hp : 1 ≤ M ^ (e + 1) := Nat.one_le_pow _ _ hM.1
    rw [Nat.add_mul]; omega
  | .call n a r, acc, e, A, w, ha, na, hd, hA => by
    simp only [WfT] at w
    obtain ⟨w1, w2, w3⟩ := w
    have hd1 : depA a ≤ e := by simp only [depT] at hd; omega
    have hd2 : depT r ≤ e := by simp only [depT] at hd; omega
    have hp : 1 ≤ M ^ (e + 1) := Nat.one_le_pow _ _ hM.1
    have key : ∀ N : PS, N.length = ps.length + 1 → NN N → LeS N ((1 + wA a) * M ^ (e + 1)) → LeS (pszT ps sz (bes acc N) r) (A + (1 + wA a + wT r) * M ^ (e + 1)) := fun N nl nn nd => by
      have e1 : acc.length = N.length := by rw [nl, ha]
      have h := pszT_le o hM hn (t := r) (acc := bes acc N) (e := e) (A := A + (1 + wA a) * M ^ (e + 1)) w3 (by rw [bes_length e1, ha]) (nn_bes na nn) hd2 (le_bes hA nd)
      refine h.mono ?_
      rw [Nat.add_mul (1 + wA a)]; omega
    simp only [pszT, wT]
    by_cases hm : n ∈ ps
    · rw [if_pos hm]
      refine key (paramS ps n) (by unfold paramS; rw [List.length_cons, List.length_map]) (fun y hy => ?_) (fun y hy => ?_)
      · rcases List.mem_cons.mp hy with e | e
        · rw [e]; exact Int.le_refl 0
        · obtain ⟨p, _, rfl⟩ := List.mem_map.mp e
          split
          · show (0 : Int) ≤ 1; decide
          · exact Int.le_refl 0
      · have h1 : y.1 ≤ 1 := by
          rcases List.mem_cons.mp hy with e | e
          · rw [e]; show (0 : Int) ≤ 1; decide
          · obtain ⟨p, _, rfl⟩ := List.mem_map.mp e
            split
            · exact Int.le_refl 1
            · show (0 : Int) ≤ 1; decide
        have h2 : 1 ≤ (1 + wA a) * M ^ (e + 1) := Nat.mul_pos (by omega) hp
        omega
    · rw [if_neg hm]
      have wl := whole_len w1 hm
      have wn := whole_nn o (n := n) (k := lenA a)
      have wm := whole_le hM (n := n) (k := lenA a)
      have ⟨h1, h2, _⟩ := pszA_ok o hn (σ := ps.map fun _ => (0 : Int)) (by rw [List.length_map]) (a := a) (pls := (wholeS sz n (lenA a)).tail) (acc := (wholeS sz n (lenA a)).headD (0, 0) :: noneS ps) w2 (by rw [List.length_tail]; omega) (nn_tail wn) cons_none_len (nn_cons_none (nn_head wn))
      have h3 := pszA_le o hM hn (a := a) (pls := (wholeS sz n (lenA a)).tail) (acc := (wholeS sz n (lenA a)).headD (0, 0) :: noneS ps) (e := e) (A := M) w2 (by rw [List.length_tail]; omega) (nn_tail wn) (le_tail wm) cons_none_len (nn_cons_none (nn_head wn)) hd1 (le_none (le_head wm))
      refine key _ h1 h2 (h3.mono ?_)
      rw [Nat.add_mul, Nat.one_mul]
      have hM1 : M ≤ M ^ (e + 1) := by
        have := Nat.pow_le_pow_right hM.1 (show 1 ≤ e + 1 by omega)
        rwa [Nat.pow_one] at this
      omega
theorem pszA_le (o : SzOk sz fm) (hM : MaxS sz M) (hn : ps.Nodup) : ∀ {a : Ar} {pls acc : PS} {e A : Nat}, WfA ps sz a → pls.length = lenA a → NN pls → LeS pls M → acc.length = ps.length + 1 → NN acc → depA a ≤ e → LeS acc A → LeS (pszA ps sz pls acc a) (A + wA a * M ^ (e + 1))
  | .nil, pls, acc, e, A, _, hp, _, _, ha, na, _, hA => by
    have e0 : pls = [] := List.length_eq_zero_iff.mp (by simpa [lenA] using hp)
    subst e0
    simp only [pszA, wA]
    exact hA.mono (by omega)
  | .cons t r, [], acc, e, A, _, hp, _, _, _, _, _, _ => by
    simp only [lenA, List.length_nil] at hp
    omega
  | .cons t r, pl :: pls, acc, e, A, w, hp, np, lp, ha, na, hd, hA => by
    simp only [WfA] at w
    have hd0 : depT t + 1 ≤ e := by simp only [depA] at hd; omega
    have hd1 : depT t ≤ e - 1 := by omega
    have hd2 : depA r ≤ e := by simp only [depA] at hd; omega
    have hp2 : pls.length = lenA r := by simp only [lenA, List.length_cons] at hp; omega
    have ⟨g1, g2, _⟩ := pszT_ok o hn (σ := ps.map fun _ => (0 : Int)) (by rw [List.length_map]) (t := t) (acc := (0, 0) :: noneS ps) w.1 cons_none_len (nn_cons_none (Int.le_refl 0))
    have g3 := pszT_le o hM hn (t := t) (acc := (0, 0) :: noneS ps) (e := e - 1) (A := 0) w.1 cons_none_len (nn_cons_none (Int.le_refl 0)) hd1 (le_none (by show (0 : Int) ≤ _; omega))
    have e1 : acc.length = (putAt pl (pszT ps sz ((0, 0) :: noneS ps) t)).length := by rw [put_length, g1, ha]
    have l1 := le_put (np pl List.mem_cons_self) (lp pl List.mem_cons_self) g3 g2
    have h3 := pszA_le o hM hn (a := r) (pls := pls) (acc := bes acc (putAt pl (pszT ps sz ((0, 0) :: noneS ps) t))) (e := e) w.2 hp2 (fun y hy => np y (List.mem_cons_of_mem _ hy)) (fun y hy => lp y (List.mem_cons_of_mem _ hy)) (by rw [bes_length e1, ha]) (nn_bes na nn_put) hd2 (le_bes hA l1)
    simp only [pszA, wA]
    refine h3.mono ?_
    have e2 : M * (0 + wT t * M ^ (e - 1 + 1)) = wT t * M ^ (e + 1) := by
      rw [Nat.zero_add, show e - 1 + 1 = e by omega, Nat.pow_succ M e, Nat.mul_left_comm, Nat.mul_comm M]
    rw [e2, Nat.add_mul, Nat.add_mul]; omega
end
end
end Vf

set_option Elab.async false
set_option linter.all false
set_option maxRecDepth 100000
set_option maxHeartbeats 4000000
namespace Vf
open PySem PySem.Spec PyProof.Rows L2 TL
theorem lt_size2 {n : Nat} (h : n < 1000000) : n < sizeLine := Nat.lt_of_lt_of_le h (by decide)
section
variable {P : Program} {w : World} {K : PySem.W.Frag} {mg : Str → Option Value} {base : Heap}
def spNoDefs : Sp := fun vs H Q _ => ∃ (p : Addr) (us : List V) (t : Tr), vs = [.ref p] ∧ H p = some (.tup us) ∧ RepT H t us ∧ us.length ≤ 100000 ∧ ∀ H' r ws, Same H H' → H' r = some (.tup ws) → RepT H' (ndT t) ws → Q (.ref r) H'
theorem ok_no_defs (T : Txt K mg) : FnOk P w K mg base CX0 2 T.a_without_definitions T.d_without_definitions ["tree"] spNoDefs := by
  have G_is_definition : FnOk P w K mg base CX0 1 T.a_is_definition T.d_is_definition ["node"] spIsDef := ok_is_def T
  refine T.D_without_definitions.F.ok sc_without_definitions (fun vs H Q E h => ?_) (fun cdv A outer s H vs Q E hr h => ?_)
  · obtain ⟨p, us, t, rfl, _⟩ := h
    rfl
  · obtain ⟨p, us, t, rfl, ep, hR, hl, q⟩ := h
    refine ⟨_, (pss_one (ps_ret (pe_callTy call_tuple_of (by rfl) T.n_tuple (by decide +kernel) (pa_cons (pe_lc (own := [("node", 1)]) (g := gName 1) rfl sc_without_definitions.nd (pi_tup (pv 0)) (blkOk_by (own := [("node", 1)]) (N := ["tree", "node"]) (sc := defScope s_without_definitions) (by decide +kernel)) (fun _ _ _ _ _ => (pg_name (i := 1) sc_without_definitions.nd rfl (.inl rfl))) (fun _ _ _ _ _ => (pts_one (pt_not (pt_val (pe_call G_is_definition (hr.mono (by decide)) (by rfl) T.D_is_definition.G T.D_is_definition.F.kp T.D_is_definition.B .nil pass0 (pa_cons (pv 1) pa_nil)))))) (fun _ _ _ _ _ => (pv 1))) pa_nil)))), ?_⟩
    refine ⟨_, rfl, p, rfl, ⟨_, SqT.of ep⟩, fun D nD => ?_⟩
    refine lc_tup (K := K) (a := p) (xs := us) (fun i H' => ∃ (acc : List V) (r : Tr), Same H H' ∧ H' D = some (.lst acc) ∧ acc.length ≤ i ∧ RepT H r (us.drop i) ∧ ∀ ws, RepT H (ndT r) ws → RepT H (ndT t) (acc ++ ws))
      ⟨[], t, same_upd (Same.refl H) nD, upd_same, Nat.le_refl _, by rw [List.drop_zero]; exact hR, fun ws h => h⟩ ?_ ?_ ?_
    · rintro i H' _ ⟨_, _, k, _⟩
      exact SqT.of (k _ _ ep)
    · rintro i x H' hx ⟨acc, r, k, eD, al, hr1, hw⟩
      rw [drop_x hx] at hr1
      have hi := (List.getElem?_eq_some_iff.mp hx).1
      obtain ⟨nd, r2, rfl, hnd, hr2⟩ := hr1.first
      refine ⟨rfl, ?_⟩
      have e1 : isDefN nd = true → ∀ ws, RepT H (ndT r2) ws → RepT H (ndT (nd.tr r2)) ws := fun e ws h => by
        cases nd with
        | word z => cases e
        | call n a =>
          have en : n = letN := of_decide_eq_true e
          simp only [Nd.tr, ndT]
          rw [if_pos en]; exact h
      have e2 : isDefN nd = false → ∀ ws, RepT H (ndT r2) ws → RepT H (ndT (nd.tr r2)) (x :: ws) := fun e ws h => by
        cases nd with
        | word z =>
          obtain ⟨p, rfl, e⟩ := hnd
          simp only [Nd.tr, ndT, RepT]
          exact ⟨p, ws, rfl, e, h⟩
        | call n a =>
          have en : ¬ n = letN := of_decide_eq_false e
          obtain ⟨p, q, us, rfl, e, e2, hA⟩ := hnd
          simp only [Nd.tr, ndT]
          rw [if_neg en]
          simp only [RepT]
          exact ⟨p, q, us, ws, rfl, e, e2, hA, h⟩
      refine ⟨_, rfl, x, nd, rfl, hnd.keep (TKeep.same k), isDefN nd, rfl, ?_⟩
      cases hd : isDefN nd with
      | true => exact ⟨acc, r2, k, eD, by omega, hr2, fun ws h => hw ws (e1 hd ws h)⟩
      | false => exact ⟨_, rfl, acc, eD, lt_size2 (by omega), acc ++ [x], r2, same_mut k nD, upd_same, by rw [List.length_append]; show acc.length + 1 ≤ i + 1; omega, hr2, fun ws h => by
          rw [List.append_assoc]; exact hw _ (e2 hd ws h)⟩
    · rintro H' ⟨acc, r, k, eD, al, hr1, hw⟩
      rw [List.drop_length] at hr1
      have er : r = .nil := by
        cases r with
        | nil => rfl
        | word z r => simp only [RepT] at hr1; obtain ⟨_, _, e, _⟩ := hr1; cases e
        | call n a r => simp only [RepT] at hr1; obtain ⟨_, _, _, _, e, _⟩ := hr1; cases e
      subst er
      refine ⟨D, acc, rfl, .inl ⟨SqL.of eD, fun c nc => ?_⟩⟩
      have sc := same_upd (o := .tup acc) (Same.refl H') nc
      refine q _ _ acc (k.trans sc) upd_same (RepT.keep (TKeep.same (k.trans sc)) ?_)
      have h := hw [] (by simp only [ndT, RepT])
      rwa [List.append_nil] at h
end
end Vf

set_option Elab.async false
set_option linter.all false
set_option maxRecDepth 100000
set_option maxHeartbeats 4000000
namespace Vf
open PySem PySem.Spec PyProof.Rows L2 TL
def LK (H : Hp) : Option V → Option PS → Prop
  | none, none => True
  | some v, some s => SV H v s
  | _, _ => False
theorem LK.same {H H' : Hp} (k : Same H H') : ∀ {a : Option V} {b : Option PS}, LK H a b → LK H' a b
  | none, none, _ => trivial
  | some _, some _, h => SV.same h k
  | none, some _, h => h
  | some _, none, h => h
/-- the program's dict of sizes -/
def SzD (H : Hp) (v : V) (sz : Sz) : Prop := ∃ ka kvs, v = .ref ka ∧ H ka = some (.dK kvs) ∧ ∀ n : List Nat, LK H (valV kvs (Sum.inr (mkS n))) (sz.lookup n)
theorem SzD.same {H H' : Hp} {v : V} {sz : Sz} (h : SzD H v sz) (k : Same H H') : SzD H' v sz := by
  obtain ⟨ka, kvs, e, a, b⟩ := h
  exact ⟨ka, kvs, e, k _ _ a, fun n => (b n).same k⟩
theorem rep_sv {H : Hp} {c L : Addr} {x : Int × Int} {k : Nat} (e : H c = some (.tup [.int x.1, .int x.2])) (eL : H L = some (.lst (List.replicate k (.ref c)))) : SV H (.ref L) (List.replicate k x) :=
  ⟨L, _, rfl, eL, by rw [List.length_replicate, List.length_replicate], fun i y hy => by
    have hi : i < k := by have := (List.getElem?_eq_some_iff.mp hy).1; rw [List.length_replicate] at this; exact this
    rw [List.getElem?_replicate, if_pos hi] at hy
    have ey := Option.some.inj hy
    subst ey
    exact ⟨.ref c, by rw [List.getElem?_replicate, if_pos hi], c, rfl, e⟩⟩
/-- what holds of the parameters and the sizes known -/
structure SP (ps : List (List Nat)) (sz : Sz) (fm : Fm) (M b e : Nat) : Prop where
  o : SzOk sz fm
  hM : MaxS sz M
  hn : ps.Nodup
  pl : ps.length ≤ 10
  hb : M ≤ 2 ^ b
  be : b * (e + 2) + 20 ≤ 1000000
  sl : ∀ n s, sz.lookup n = some s → s.length ≤ 100
def nszN (ps : List (List Nat)) (sz : Sz) : Nd → PS
  | .word _ => (1, 0) :: noneS ps
  | .call n a => if n ∈ ps then paramS ps n else pszA ps sz (wholeS sz n (lenA a)).tail ((wholeS sz n (lenA a)).headD (0, 0) :: noneS ps) a
def WfNd (ps : List (List Nat)) (sz : Sz) : Nd → Prop
  | .word _ => True
  | .call n a => WfN ps sz n (lenA a) ∧ WfA ps sz a
def wN : Nd → Nat
  | .word _ => 1
  | .call _ a => 1 + wA a
theorem psz_tr {ps : List (List Nat)} {sz : Sz} {acc : PS} {nd : Nd} {r : Tr} : pszT ps sz acc (nd.tr r) = pszT ps sz (bes acc (nszN ps sz nd)) r := by
  cases nd with
  | word z => simp only [Nd.tr, pszT, nszN]
  | call n a => simp only [Nd.tr, pszT, nszN]
theorem wf_tr {ps : List (List Nat)} {sz : Sz} {nd : Nd} {r : Tr} (h : WfT ps sz (nd.tr r)) : WfNd ps sz nd ∧ WfT ps sz r := by
  cases nd with
  | word z => simp only [Nd.tr, WfT] at h; exact ⟨trivial, h⟩
  | call n a => simp only [Nd.tr, WfT] at h; exact ⟨⟨h.1, h.2.1⟩, h.2.2⟩
theorem w_tr {nd : Nd} {r : Tr} : wT (nd.tr r) = wN nd + wT r := by
  cases nd with
  | word z => simp only [Nd.tr, wT, wN]
  | call n a => simp only [Nd.tr, wT, wN]
theorem nsz_len {ps : List (List Nat)} {sz : Sz} {fm : Fm} {M b e : Nat} (sp : SP ps sz fm M b e) {nd : Nd} (h : WfNd ps sz nd) : (nszN ps sz nd).length = ps.length + 1 := by
  cases nd with
  | word z => exact cons_none_len
  | call n a =>
    simp only [nszN]
    by_cases hm : n ∈ ps
    · rw [if_pos hm]; unfold paramS; rw [List.length_cons, List.length_map]
    · rw [if_neg hm]
      have wl := whole_len h.1 hm
      have wn := whole_nn sp.o (n := n) (k := lenA a)
      exact (pszA_ok sp.o sp.hn (σ := ps.map fun _ => (0 : Int)) (by rw [List.length_map]) (a := a) (pls := (wholeS sz n (lenA a)).tail) (acc := (wholeS sz n (lenA a)).headD (0, 0) :: noneS ps) h.2 (by rw [List.length_tail]; omega) (nn_tail wn) cons_none_len (nn_cons_none (nn_head wn))).1
section
variable {P : Program} {w : World} {K : PySem.W.Frag} {mg : Str → Option Value} {base : Heap}
def spSizeT (K : PySem.W.Frag) (n : Nat) : Sp := fun vs H Q _ => ∃ (tp : Addr) (us : List V) (t : Tr) (pa : Addr) (ps : List (List Nat)) (sd : V) (sz : Sz) (fm : Fm) (M b e : Nat), vs = [.ref tp, .ref pa, sd] ∧ H tp = some (.tup us) ∧ RepT H t us ∧ depT t < n ∧ SqT K H pa (ps.map sV) ∧ SzD H sd sz ∧
  SP ps sz fm M b e ∧ WfT ps sz t ∧ wT t ≤ 90000 ∧ depT t ≤ e ∧ ∀ H' r, Same H H' → SV H' r (pszT ps sz ((0, 0) :: noneS ps) t) → Q r H'
def spNodeS (K : PySem.W.Frag) (n : Nat) : Sp := fun vs H Q _ => ∃ (v : V) (nd : Nd) (pa : Addr) (ps : List (List Nat)) (sd : V) (sz : Sz) (fm : Fm) (M b e : Nat), vs = [v, .ref pa, sd] ∧ NV H v nd ∧ depN nd < n ∧ SqT K H pa (ps.map sV) ∧ SzD H sd sz ∧
  SP ps sz fm M b e ∧ WfNd ps sz nd ∧ wN nd ≤ 90000 ∧ depN nd ≤ e ∧ ∀ H' r, Same H H' → SV H' r (nszN ps sz nd) → Q r H'
theorem ok_sizeT (T : Txt K mg) (n : Nat) (G_node_size : FnOk P w K mg base CX0 (2 * n + 2) T.a_node_size T.d_node_size ["node", "params", "sizes"] (spNodeS K n)) : FnOk P w K mg base CX0 (2 * n + 3) T.a_size T.d_size ["tree", "params", "sizes"] (spSizeT K n) := by
  have G_beside : FnOk P w K mg base CX0 1 T.a_beside T.d_beside ["size", "other"] spBeside := ok_beside T
  refine T.D_size.F.ok (k := 2 * n + 2) sc_size (fun vs H Q E h => ?_) (fun cdv A outer s H vs Q E hr h => ?_)
  · obtain ⟨tp, us, t, pa, ps, sd, sz, fm, M, b, e, rfl, _⟩ := h
    rfl
  · obtain ⟨tp, us, t, pa, ps, sd, sz, fm, M, b, e, rfl, etp, hR, hdn, hpa, hsd, sp, wf, hw, hde, q⟩ := h
    refine ⟨_, (pss_cons (ps_set (i := 3) sc_size.nd rfl (.inl rfl) (pe_op op_rep (pe_lst (pa_cons (pe_tup (pa_cons pe_int (pa_cons pe_int pa_nil))) pa_nil)) (pe_op op_add (pe_callB call_len_seq (by rfl) T.n_len PySem.boot_len (pa_cons (pv 1) pa_nil)) pe_int)))
      (pss_cons (ps_for PassesOwn.never rfl (pi_tup (pv 0)) (pg_name (i := 4) sc_size.nd rfl (.inl rfl)) (pss_one (ps_set (i := 3) sc_size.nd rfl (.inl rfl) (pe_call G_beside (hr.mono (by omega)) (by rfl) T.D_beside.G T.D_beside.F.kp T.D_beside.B .nil pass0 (pa_cons (pv 3) (pa_cons (pe_call G_node_size (hr.mono (by omega)) (by rfl) T.D_node_size.G T.D_node_size.F.kp T.D_node_size.B .nil pass0 (pa_cons (pv 4) (pa_cons (pv 1) (pa_cons (pv 2) pa_nil)))) pa_nil))))))
      (pss_one (ps_ret (pv 3))))), ?_⟩
    have pl := sp.pl
    refine ⟨by show 2 ≤ sizeLine; decide, fun c nc => ⟨by show 1 ≤ sizeLine; decide, fun L nL => ?_⟩⟩
    have t1 := same_upd (o := .tup [V.int 0, .int 0]) (Same.refl H) nc
    have t2 := same_upd (o := .lst [V.ref c]) (Same.refl _) nL
    refine ⟨_, rfl, pa, _, rfl, .inr (SqT.same hpa (t1.trans t2)), _, _, rfl, rfl, L, _, _, rfl, rfl, upd_same, by omega, by rw [List.length_map]; omega, ?_, fun L2 nL2 => ?_⟩
    · rw [List.length_map]; exact Nat.le_of_lt (lt_size (by rw [List.length_singleton]; omega))
    have ef : (List.replicate (((ps.map sV).length : Nat) + 1 : Int).toNat [V.ref c]).flatten = List.replicate (ps.length + 1) (V.ref c) := by
      rw [List.length_map, List.flatten_replicate_singleton]
      congr 1
    rw [ef]
    have t3 := same_upd (o := .lst (List.replicate (ps.length + 1) (V.ref c))) (Same.refl _) nL2
    have all := t1.trans (t2.trans t3)
    have ec := (t2.trans t3) _ _ (upd_same (a := c) (o := .tup [V.int 0, .int 0]))
    have sv0 : SV _ (.ref L2) ((0, 0) :: noneS ps) := rep_sv (x := (0, 0)) ec upd_same
    generalize upd (upd (upd H c (.tup [V.int 0, .int 0])) L (.lst [V.ref c])) L2 (.lst (List.replicate (ps.length + 1) (V.ref c))) = H1 at all sv0 ⊢
    refine ⟨_, rfl, tp, rfl, ⟨_, SqT.of (all _ _ etp)⟩, ?_⟩
    refine for_tup (K := K) (a := tp) (xs := us) (fun i σ' H' => ∃ (r : Tr) (tot : V) (acc : PS) (x4 : Option V), σ' = [some (.ref tp), some (.ref pa), some sd, some tot, x4] ∧ Same H H' ∧ SV H' tot acc ∧ acc.length = ps.length + 1 ∧ RepT H r (us.drop i) ∧ pszT ps sz acc r = pszT ps sz ((0, 0) :: noneS ps) t ∧ WfT ps sz r ∧ wT r ≤ 90000 ∧ depT r < n ∧ depT r ≤ e)
      ⟨t, _, _, none, rfl, all, sv0, cons_none_len, hR, rfl, wf, hw, hdn, hde⟩ ?_ ?_ ?_
    · rintro i σ' H' _ ⟨_, _, _, _, _, k, _⟩
      exact SqT.of (k _ _ etp)
    · rintro i x σ' H2 hx ⟨r, tot, acc, x4, rfl, k, sv, al, hr1, ep, wf1, hw1, hd1, hd2⟩
      rw [drop_x hx] at hr1
      obtain ⟨nd, r2, rfl, hnd, hr2⟩ := hr1.first
      obtain ⟨w1, w2⟩ := wf_tr wf1
      rw [w_tr] at hw1
      rw [depT_tr] at hd1 hd2
      refine ⟨_, rfl, _, rfl, _, rfl, _, rfl, x, nd, pa, ps, sd, sz, fm, M, b, e, rfl, hnd.keep (TKeep.same k), by omega, SqT.same hpa k, hsd.same k, sp, w1, by omega, by omega, fun H3 v s3 sv3 => ?_⟩
      have nl := nsz_len sp w1
      refine ⟨tot, v, acc, _, rfl, sv.same s3, sv3, by omega, by omega, fun H4 v4 s4 sv4 => ?_⟩
      exact ⟨r2, v4, _, _, rfl, (k.trans s3).trans s4, sv4, by rw [bes_length (by omega)]; exact al, hr2, by rw [← ep, psz_tr], w2, by omega, by omega, by omega⟩
    · rintro σ' H2 ⟨r, tot, acc, x4, rfl, k, sv, al, hr1, ep, _⟩
      rw [List.drop_length] at hr1
      have er : r = .nil := by
        cases r with
        | nil => rfl
        | word z r => simp only [RepT] at hr1; obtain ⟨_, _, e, _⟩ := hr1; cases e
        | call n a r => simp only [RepT] at hr1; obtain ⟨_, _, _, _, e, _⟩ := hr1; cases e
      subst er
      have e2 : acc = pszT ps sz ((0, 0) :: noneS ps) t := by rw [← ep]; simp only [pszT]
      exact ⟨_, rfl, q H2 tot k (by rw [← e2]; exact sv)⟩
end
end Vf

set_option Elab.async false
set_option linter.all false
set_option maxRecDepth 100000
set_option maxHeartbeats 4000000
namespace Vf
open PySem PySem.Spec PyProof.Rows L2
/-! ### zip of two walks, each over a list, a tuple or a text -/
inductive Zs where
  | L (a : Addr)
  | T (a : Addr)
  | S (x : Str)
def Zs.v : Zs → V
  | .L a => .ref a
  | .T a => .ref a
  | .S x => .str x
def Zs.has (K : PySem.W.Frag) (H : Hp) (xs : List V) : Zs → Prop
  | .L a => SqL K H a xs
  | .T a => SqT K H a xs
  | .S x => xs = x.cps.toList.map fun c => V.str ⟨#[c]⟩
def Zs.it (h : Heap) (i : Addr) (k : Nat) : Zs → Prop
  | .L a => h.IsListIter i a k
  | .T a => h.IsTupleIter i a k
  | .S x => ∃ t, h.IsStrIter i (strIterType x) x t k
def Zs.off (c : Addr) : Zs → Prop
  | .L a => a ≠ c
  | .T a => a ≠ c
  | .S _ => True
def Zs.fp (i : Addr) : Zs → List Addr
  | .L a => [i, a]
  | .T a => [i, a]
  | .S _ => [i]
theorem Zs.mem_fp {p : Zs} {i c : Addr} (h1 : c ≠ i) (h2 : p.off c) : c ∉ p.fp i := by
  cases p with
  | L a => simp only [Zs.fp, List.mem_cons, List.not_mem_nil, or_false, not_or]; exact ⟨h1, fun e => h2 e.symm⟩
  | T a => simp only [Zs.fp, List.mem_cons, List.not_mem_nil, or_false, not_or]; exact ⟨h1, fun e => h2 e.symm⟩
  | S x => simp only [Zs.fp, List.mem_cons, List.not_mem_nil, or_false]; exact h1
theorem Zs.at {p : Zs} {h h' : Heap} {i : Addr} {k : Nat} (st : p.it h i k) (e : ∀ o, h.get? i = some o → h'.get? i = some o) : p.it h' i k := by
  cases p with
  | L a => exact Heap.IsListIter.at st e
  | T a => exact Heap.IsTupleIter.at st e
  | S x => obtain ⟨t, o, ho, r⟩ := st; exact ⟨t, o, e _ ho, r⟩
theorem Zs.obj {p : Zs} {h : Heap} {i : Addr} {k : Nat} (st : p.it h i k) : ∃ o, h.get? i = some o ∧ ∀ v, o.data ≠ .cell v := by
  cases p with
  | L a => obtain ⟨o, e, _, d⟩ := st; exact ⟨o, e, fun v q => by rw [d] at q; cases q⟩
  | T a => obtain ⟨o, e, _, d⟩ := st; exact ⟨o, e, fun v q => by rw [d] at q; cases q⟩
  | S x => obtain ⟨t, o, e, _, d⟩ := st; exact ⟨o, e, fun v q => by rw [d] at q; cases q⟩
theorem Zs.one {K : PySem.W.Frag} {X : Cx} {pins : List (Addr × Obj)} {σ : L2.St} {H : Hp} {s : Shared} {p : Zs} {xs ys : List V} (hK : X.K = K) (I : Inv X pins σ H s) (h1 : p.has K H xs) (h2 : p.has K H ys) : xs = ys := by
  subst hK
  cases p with
  | L a => exact I.list_inj h1 h2
  | T a => exact I.tuple_inj h1 h2
  | S x => exact h1.trans h2.symm
/-- what such an iterator draws where the heap stands -/
theorem Zs.draws {X : Cx} {pins : List (Addr × Obj)} {σ : L2.St} {H : Hp} {s : Shared} {p : Zs} {xs : List V} {i : Addr} {k : Nat} (hc : X.calm = true) (I : Inv X pins σ H s) (h : p.has X.K H xs) (st : p.it s.heap i k) (ho : p.off i) :
    ∃ (n : Nat) (P : Nat → Value → Prop) (St : Nat → Heap → Prop), Draws X.prog X.w X.A.in1 i (p.fp i) n P St ∧ St k s.heap ∧ n = xs.length ∧ (∀ u v, P k u → xs[k]? = some v → RelV v u) ∧ ∀ j h', St j h' → p.it h' i j := by
  have hh : X.A.in1.handled = none := I.ok.hd hc
  cases p with
  | L a =>
    obtain ⟨its, rv, q, _⟩ := I.list h
    refine ⟨_, _, _, Draws.list hh i a ho its.toArray, ⟨st, q.isList⟩, by have := rv.length; simp; omega, fun u v hu hv => ?_, fun j h' q => q.1⟩
    obtain ⟨u', hu', r⟩ := rv.get hv
    have e : its[k]? = some u := by simpa using hu
    rw [hu'] at e
    cases e
    exact r
  | T a =>
    obtain ⟨its, rv, q, _⟩ := I.tuple h
    refine ⟨_, _, _, Draws.tuple hh i a ho its.toArray, ⟨st, q⟩, by have := rv.length; simp; omega, fun u v hu hv => ?_, fun j h' q => q.1⟩
    obtain ⟨u', hu', r⟩ := rv.get hv
    have e : its[k]? = some u := by simpa using hu
    rw [hu'] at e
    cases e
    exact r
  | S x =>
    obtain ⟨t, st⟩ := st
    have h : xs = x.cps.toList.map fun c => V.str ⟨#[c]⟩ := h
    subst h
    refine ⟨_, _, _, Draws.text hh i x t, st, by simp, fun u v hu hv => ?_, fun j h' q => ⟨t, q⟩⟩
    obtain ⟨c, tk, hc, rfl⟩ := hu
    rw [List.getElem?_map] at hv
    have hc2 : x.cps.toList[k]? = some c := by simpa using hc
    rw [hc2] at hv
    cases hv
    exact ⟨_, rfl⟩
/-- the cells lie apart -/
structure Zap (z TI TO i1 i2 : Addr) (p q : Zs) : Prop where
  TIz : TI ≠ z
  TOz : TO ≠ z
  TITO : TI ≠ TO
  TIi1 : TI ≠ i1
  TIi2 : TI ≠ i2
  zi1 : z ≠ i1
  zi2 : z ≠ i2
  Ti1 : TO ≠ i1
  Ti2 : TO ≠ i2
  i12 : i1 ≠ i2
  p1 : p.off i1
  p2 : p.off i2
  pz : p.off z
  pT : p.off TO
  q1 : q.off i1
  q2 : q.off i2
  qz : q.off z
  qT : q.off TO
theorem Zap.sep {z TI TO i1 i2 : Addr} {p q : Zs} (D : Zap z TI TO i1 i2 p q) : ZipSep2 z TI TO i1 i2 (p.fp i1) (q.fp i2) where
  TIz := D.TIz
  TOz := D.TOz
  TITO := D.TITO
  TIi1 := D.TIi1
  mem1 := by cases p <;> exact List.mem_cons_self
  zf1 := Zs.mem_fp D.zi1 D.pz
  Tf1 := Zs.mem_fp D.Ti1 D.pT
  TIi2 := D.TIi2
  mem2 := by cases q <;> exact List.mem_cons_self
  zf2 := Zs.mem_fp D.zi2 D.qz
  Tf2 := Zs.mem_fp D.Ti2 D.qT
  sep1_2 := Zs.mem_fp D.i12 D.q1
  sep2_1 := Zs.mem_fp D.i12.symm D.p2
/-- the items of both as they stand at each turn, in new pairs -/
def ItzM (K : PySem.W.Frag) (p q : Zs) : It :=
  ⟨fun i H => ∃ (xs ys : List V), p.has K H xs ∧ q.has K H ys ∧ i < xs.length ∧ i < ys.length,
    fun i H v H' => ∃ T x y, v = .ref T ∧ H T = none ∧ H' = upd H T (.tup [x, y]) ∧ (∀ xs, p.has K H xs → xs[i]? = some x) ∧ ∀ ys, q.has K H ys → ys[i]? = some y,
    fun i H => ∃ xs ys : List V, p.has K H xs ∧ q.has K H ys ∧ i ≤ xs.length ∧ i ≤ ys.length ∧ (i = xs.length ∨ i = ys.length)⟩
theorem turn_zipM {P : Program} {w : World} {K : PySem.W.Frag} {elts : List Expr} {kk : Nat} {tpos : Pos} {z TI TO i1 i2 : Addr} {p' q' : Zs} (D : Zap z TI TO i1 i2 p' q') :
    Turn P w K (.Tuple elts kk tpos) (ItzM K p' q') [z, TI, TO, i1, i2] z (fun i h => IsZip h z TI TO .none ∧ IsTupOf2 h TI (.ref i1) (.ref i2) ∧ (∃ x y, IsTupOf2 h TO x y) ∧ p'.it h i1 i ∧ q'.it h i2 i) where
  mem := by simp
  obj := fun i h st c hc => by
    obtain ⟨hz, hTI, ⟨x, y, hTO⟩, h1, h2⟩ := st
    have e' : c = z ∨ c = TI ∨ c = TO ∨ c = i1 ∨ c = i2 := by simpa using hc
    rcases e' with q | q | q | q | q
    · rw [q]; exact ⟨_, hz, fun v q => nomatch q⟩
    · rw [q]; exact ⟨_, hTI, fun v q => nomatch q⟩
    · rw [q]; exact ⟨_, hTO, fun v q => nomatch q⟩
    · rw [q]; exact Zs.obj (p := p') h1
    · rw [q]; exact Zs.obj (p := q') h2
  keep := fun i h h' st k => by
    obtain ⟨hz, hTI, ⟨x, y, hTO⟩, h1, h2⟩ := st
    exact ⟨k z (by simp) _ hz, k TI (by simp) _ hTI, ⟨x, y, k TO (by simp) _ hTO⟩, Zs.at (p := p') h1 fun o q => k i1 (by simp) o q, Zs.at (p := q') h2 fun o q => k i2 (by simp) o q⟩
  item := by
    intro X hP hw hK hc i pins s σ H E I hf st hg
    subst hP hw hK
    obtain ⟨hz, hTI, ⟨x0, y0, hTO⟩, h1, h2⟩ := st
    obtain ⟨xs, ys, hqx, hqy, hi1, hi2⟩ := hg
    obtain ⟨n1, P1, St1, D1, s1, e1, r1, w1⟩ := Zs.draws hc I hqx h1 D.p1
    obtain ⟨n2, P2, St2, D2, s2, e2, r2, w2⟩ := Zs.draws hc I hqy h2 D.q2
    have hx : xs[i]? = some xs[i] := List.getElem?_eq_getElem hi1
    have hy : ys[i]? = some ys[i] := List.getElem?_eq_getElem hi2
    have hzl : z < s.heap.objs.size := Heap.lt_size hz
    have l1 : i1 < s.heap.objs.size := by obtain ⟨_, e⟩ := D1.live _ _ s1; exact Heap.lt_size e
    have l2 : i2 < s.heap.objs.size := by obtain ⟨_, e⟩ := D2.live _ _ s2; exact Heap.lt_size e
    refine wpAny_pyNext_zipD2_item D.sep D1 D2 hz hTI hTO s1 s2 (by omega) (by omega) fun u u2 h' tk y1 y2 z' TO' h1' h2' hT hsz hk => ?_
    refine ⟨_, rfl, wpAny_letOwnedTupleGo_zip (s := { s with heap := h', toks := tk }) z' fun h'' z'' sb => ?_⟩
    have hT2 : h''.get? s.heap.objs.size = some { cls := .type "tuple", data := .seq #[u, u2] } := (sb.2 _ (Nat.ne_of_gt hzl)).trans hT
    have ru := r1 _ _ y1 hx
    have ru2 := r2 _ _ y2 hy
    have new : ObjOk X.prog X.w (upd H s.heap.objs.size (.tup [xs[i], ys[i]])) h'' s.heap.objs.size (.tup [xs[i], ys[i]]) :=
      ⟨by show 2 ≤ sizeLine; decide, [u, u2], .cons ru (.cons ru2 .nil), ⟨_, hT2, rfl, _, rfl⟩⟩
    have I1 : Inv X pins σ (upd H s.heap.objs.size (.tup [xs[i], ys[i]])) { s with heap := h'', toks := tk } :=
      I.turnedNew (t' := tk) (ch := [z, TI, TO, i1, i2]) (fun c o hb q => (sb.2 c (fun z => hb (by simp [z]))).trans (hk c o (fun z => hb (by simp [z])) (fun z => hb (by simp [z])) (fun z => hb (by simp [z])) (fun z => hb (by simp [z])) q)) hf (Nat.le_refl _) new
    refine ⟨.ref s.heap.objs.size, _, I1, rfl, ⟨_, xs[i], ys[i], rfl, I.hok.fresh (Nat.le_refl _), rfl, fun l hl => by rw [Zs.one rfl I hl hqx]; exact hx, fun l hl => by rw [Zs.one rfl I hl hqy]; exact hy⟩, ⟨z'', ?_, ⟨u, u2, ?_⟩, ?_, ?_⟩, fun c hcm => ?_⟩
    · exact (sb.2 _ D.TIz).trans (hk _ _ D.TIz D.TITO D.TIi1 D.TIi2 hTI)
    · exact (sb.2 _ D.TOz).trans TO'
    · exact Zs.at (w1 _ _ h1') fun o q => (sb.2 _ D.zi1.symm).trans q
    · exact Zs.at (w2 _ _ h2') fun o q => (sb.2 _ D.zi2.symm).trans q
    · have hlt : c < s.heap.objs.size := by
        have e' : c = z ∨ c = TI ∨ c = TO ∨ c = i1 ∨ c = i2 := by simpa using hcm
        rcases e' with q | q | q | q | q
        · rw [q]; exact hzl
        · rw [q]; exact Heap.lt_size hTI
        · rw [q]; exact Heap.lt_size hTO
        · rw [q]; exact l1
        · rw [q]; exact l2
      rw [upd_ne (Nat.ne_of_lt hlt)]
      exact (hf c hcm).1
  done := by
    intro X hP hw hK hc i pins s σ H E I hf st hg
    subst hP hw hK
    obtain ⟨hz, hTI, ⟨x0, y0, hTO⟩, h1, h2⟩ := st
    obtain ⟨xs, ys, hqx, hqy, hi1, hi2, hend⟩ := hg
    obtain ⟨n1, P1, St1, D1, s1, e1, r1, w1⟩ := Zs.draws hc I hqx h1 D.p1
    obtain ⟨n2, P2, St2, D2, s2, e2, r2, w2⟩ := Zs.draws hc I hqy h2 D.q2
    exact wpAny_pyNext_zipD2_end D.sep D1 D2 hz hTI hTO s1 s2 (by omega) (by omega) (by omega) fun h' tk hk => ⟨rfl, I.turnedL (t' := tk) (ch := [z, TI, TO, i1, i2]) (fun c o hb q =>
      hk c o (fun z => hb (by simp [z])) (fun z => hb (by simp [z])) (fun z => hb (by simp [z])) (fun z => hb (by simp [z])) q) hf⟩
  self := fun A i s Q E st h => wpAny_pyIter_zip st.1 h
/-- how such a walk begins -/
theorem Zs.begins {X : Cx} {pins : List (Addr × Obj)} {σ : L2.St} {H : Hp} {s : Shared} {p : Zs} {xs : List V} {u : Value} (I : Inv X pins σ H s) (h : p.has X.K H xs) (r : RelV p.v u) :
    ∃ (o : Obj) (B : Heap → Prop), Begins u o B ∧ B s.heap ∧ (∀ (h' : Heap) i, h'.get? i = some o → p.it h' i 0) ∧ ∀ c, s.heap.objs.size ≤ c → p.off c := by
  cases p with
  | L a =>
    cases r
    obtain ⟨its, rv, q, _⟩ := I.list h
    exact ⟨_, _, begins_list a its.toArray, q.isList, fun h' i e => ⟨_, e, rfl, rfl⟩, fun c hc e => by
      have l := q.lt
      have e : a = c := e
      rw [e] at l
      exact Nat.lt_irrefl _ (Nat.lt_of_lt_of_le l hc)⟩
  | T a =>
    cases r
    obtain ⟨its, rv, q, _⟩ := I.tuple h
    have l : a < s.heap.objs.size := by obtain ⟨_, e, _⟩ := id q; exact Heap.lt_size e
    exact ⟨_, _, begins_tuple a its.toArray, q, fun h' i e => ⟨_, e, rfl, rfl⟩, fun c hc e => by
      have e : a = c := e
      rw [e] at l
      exact Nat.lt_irrefl _ (Nat.lt_of_lt_of_le l hc)⟩
  | S x =>
    obtain ⟨t, rfl⟩ := r
    exact ⟨_, _, begins_text x t, trivial, fun h' i e => ⟨t, _, e, rfl, rfl⟩, fun c hc => trivial⟩
def iZipM (K : PySem.W.Frag) (ta : TA) : TI := fun σ H R => ta σ H fun vs H1 => ∃ (p q : Zs) (xs ys : List V), vs = [p.v, q.v] ∧ p.has K H1 xs ∧ q.has K H1 ys ∧ R (ItzM K p q) H1
theorem pi_zipM {X : Cx} {e e2 : Expr} {ta : TA} {p pos tpos : Pos} {elts : List Expr} {kk : Nat} (hg : Gl X "zip") (hm : X.mg "zip" = none) (ha : PA X [e, e2] ta)
    (hs : starEach [e, e2] X.env = (false, eval e X.env) :: starEach [e2] X.env := by rfl) (hpl : (backTo pos (starEach [e2] X.env)).any (·.1) = false := by rfl) :
    PI X (.Tuple elts kk tpos) (.Call (.Name "zip" p) [e, e2] [] pos) (iZipM X.K ta) := by
  refine ⟨fun pins s σ H R I h => ?_⟩
  refine Call_ (ld_blt I hg hm PyProof.Rows.boot_zip (PyProof.Rows.callWith_type1 (thn (ha.run pos pins s σ H _ I h) fun us s1 ⟨vs, H1, I1, r1, q1⟩ => ?_) hs hpl))
  obtain ⟨a, b, xs, ys, ex, hqx, hqy, q⟩ := q1
  subst ex
  cases r1 with
  | cons r rr =>
    cases rr with
    | cons r' rr =>
      cases rr
      obtain ⟨o1, B1, b1, g1, i1, f1⟩ := Zs.begins I1 hqx r
      obtain ⟨o2, B2, b2, g2, i2, f2⟩ := Zs.begins I1 hqy r'
      refine zip_begins2 b1 b2 g1 g2 fun h' hz hTI hTO h1 h2 hsz hk => wpAny_pyIter_zip hz ?_
      have I2 : Inv X pins σ H1 { s1 with heap := h' } := I1.kept (t' := s1.toks) hk
      refine ⟨s1.heap.objs.size + 4, [s1.heap.objs.size + 4, s1.heap.objs.size + 2, s1.heap.objs.size + 3, s1.heap.objs.size, s1.heap.objs.size + 1], _, _, H1, rfl, I2,
        turn_zipM (p' := a) (q' := b) ⟨(by intro e; have e2 : (_ : Nat) = _ := e; omega), (by intro e; have e2 : (_ : Nat) = _ := e; omega), (by intro e; have e2 : (_ : Nat) = _ := e; omega), (by intro e; have e2 : (_ : Nat) = _ := e; omega), (by intro e; have e2 : (_ : Nat) = _ := e; omega), (by intro e; have e2 : (_ : Nat) = _ := e; omega), (by intro e; have e2 : (_ : Nat) = _ := e; omega), (by intro e; have e2 : (_ : Nat) = _ := e; omega), (by intro e; have e2 : (_ : Nat) = _ := e; omega), (by intro e; have e2 : (_ : Nat) = _ := e; omega), f1 _ (by omega), f1 _ (by omega), f1 _ (by omega), f1 _ (by omega), f2 _ (by omega), f2 _ (by omega), f2 _ (by omega), f2 _ (by omega)⟩,
        ⟨hz, hTI, ⟨_, _, hTO⟩, i1 _ _ h1, i2 _ _ h2⟩, fun c hcm => ?_, q⟩
      have e' : c = s1.heap.objs.size + 4 ∨ c = s1.heap.objs.size + 2 ∨ c = s1.heap.objs.size + 3 ∨ c = s1.heap.objs.size ∨ c = s1.heap.objs.size + 1 := by simpa using hcm
      have hle : s1.heap.objs.size ≤ c := by
        rcases e' with z | z | z | z | z
        · rw [z]; exact Nat.le_add_right _ _
        · rw [z]; exact Nat.le_add_right _ _
        · rw [z]; exact Nat.le_add_right _ _
        · rw [z]; exact Nat.le_refl _
        · rw [z]; exact Nat.le_add_right _ _
      exact I1.fpOk hle (I1.hok.fresh hle)
theorem walk_zipM {K : PySem.W.Frag} {p q : Zs} {xs ys : List V} {n : Nat} (hn : n = min xs.length ys.length) : Walk (ItzM K p q) n (fun H => p.has K H xs ∧ q.has K H ys) (YPair (fun i => xs[i]?) (fun i => ys[i]?)) := by
  subst hn
  refine ⟨fun i _ hi h => ⟨xs, ys, h.1, h.2, by omega, by omega⟩, fun _ h => ⟨xs, ys, h.1, h.2, by omega, by omega, by omega⟩, fun i H v H' _ h y => ?_⟩
  obtain ⟨T, x, z, h1, h2, h3, h4, h5⟩ := y
  exact ⟨T, x, z, h1, h2, h3, h4 xs h.1, h5 ys h.2⟩
end Vf

set_option Elab.async false
set_option linter.all false
set_option maxRecDepth 100000
set_option maxHeartbeats 4000000
namespace Vf
open PySem PySem.Spec PyProof.Rows L2 TL
theorem PRs.cons {H : Hp} {vs : List V} {s : PS} {v : V} {x : Int × Int} (a : PR H v x) (h : PRs H vs s) : PRs H (v :: vs) (x :: s) := by
  refine ⟨by rw [List.length_cons, List.length_cons, h.1], fun i y hy => ?_⟩
  cases i with
  | zero =>
    have e : x = y := Option.some.inj hy
    subst e
    exact ⟨v, rfl, a⟩
  | succ i =>
    obtain ⟨u, e, b⟩ := h.2 i y hy
    exact ⟨u, e, b⟩
theorem PRs.tail {H : Hp} {vs : List V} {s : PS} (h : PRs H vs s) : PRs H vs.tail s.tail := by
  cases vs with
  | nil => cases s with
    | nil => exact h
    | cons _ _ => have := h.1; cases this
  | cons v vs => cases s with
    | nil => have := h.1; cases this
    | cons x s => exact ⟨Nat.succ.inj h.1, fun i y hy => h.2 (i + 1) y hy⟩
theorem cut_tl {v : V} {vs : List V} : cutV (v :: vs) (some 1) none = vs := by
  unfold cutV
  rw [show (some (1 : Int)) = some ((1 : Nat) : Int) from rfl, HT.sIx_none, HT.sIx_nat, Nat.min_eq_left (by simp)]
  show vs.take ((vs.length + 1) - 1) = vs
  rw [Nat.add_sub_cancel, List.take_length]
theorem cmul_ok {ps : List (List Nat)} {sz : Sz} {fm : Fm} {M b e w0 : Nat} (sp : SP ps sz fm M b e) {p x : Int} (p0 : 0 ≤ p) (pM : p ≤ (M : Int)) (x0 : 0 ≤ x) (hx : x ≤ ((0 + w0 * M ^ (e - 1 + 1) : Nat) : Int)) (he : 1 ≤ e) (hw : w0 ≤ 90000) : CMulW p x := by
  have hb := sp.hb
  have be := sp.be
  have e1 : e - 1 + 1 = e := by omega
  rw [e1, Nat.zero_add] at hx
  have h1 : M ^ e ≤ 2 ^ (b * e) := by rw [Nat.pow_mul]; exact Nat.pow_le_pow_left hb e
  have h2 : w0 * M ^ e < 2 ^ (17 + b * e) := by
    rw [Nat.pow_add]
    have h3 : w0 * M ^ e ≤ 90000 * 2 ^ (b * e) := Nat.mul_le_mul hw h1
    have h4 : 90000 * 2 ^ (b * e) < 2 ^ 17 * 2 ^ (b * e) := Nat.mul_lt_mul_of_pos_right (by decide) (Nat.pow_pos (by decide))
    omega
  have h5 : p.natAbs < 2 ^ (b + 1) := by
    have : M < 2 ^ (b + 1) := by
      rw [Nat.pow_succ]
      have := Nat.pow_pos (n := b) (show 0 < 2 by decide)
      omega
    omega
  have h6 : x.natAbs < 2 ^ (17 + b * e) := by omega
  have h7 : b * (e + 2) = b * e + 2 * b := by rw [Nat.mul_add]; omega
  exact wide_mul h5 h6 (by omega) (by omega) (by omega)
section
variable {P : Program} {w : World} {K : PySem.W.Frag} {mg : Str → Option Value} {base : Heap}
theorem ok_nodeS (T : Txt K mg) (n : Nat) (G_size : FnOk P w K mg base CX0 (2 * n + 3) T.a_size T.d_size ["tree", "params", "sizes"] (spSizeT K n)) : FnOk P w K mg base CX0 (2 * (n + 1) + 2) T.a_node_size T.d_node_size ["node", "params", "sizes"] (spNodeS K (n + 1)) := by
  have G_beside : FnOk P w K mg base CX0 1 T.a_beside T.d_beside ["size", "other"] spBeside := ok_beside T
  have G_put_at : FnOk P w K mg base CX0 1 T.a_put_at T.d_put_at ["place", "size"] spPutAt := ok_put_at T
  have G_built_in_size : FnOk P w K mg base CX0 1 T.a_built_in_size T.d_built_in_size ["many"] spBuiltS := ok_builtS T
  refine T.D_node_size.F.ok (k := 2 * n + 3) sc_node_size (fun vs H Q E h => ?_) (fun cdv A outer s H vs Q E hr h => ?_)
  · obtain ⟨v, nd, pa, ps, sd, sz, fm, M, b, e, rfl, _⟩ := h
    rfl
  · obtain ⟨v, nd, pa, ps, sd, sz, fm, M, b, e, rfl, hv, hdn, hpa, hsd, sp, wf, hw, hde, q⟩ := h
    refine ⟨_, (pss_cons (ps_set (i := 3) sc_node_size.nd rfl (.inl rfl) (pe_op op_rep (pe_lst (pa_cons (pe_tup (pa_cons pe_int (pa_cons pe_int pa_nil))) pa_nil)) (pe_callB call_len_seq (by rfl) T.n_len PySem.boot_len (pa_cons (pv 1) pa_nil))))
      (pss_cons (ps_if (pt_cmpR op_eq (pe_ix ix_tup (pv 0) pe_int (fun _ _ => rfl)) pe_str (nomark _)) (pss_one (ps_ret (pe_op op_cat (pe_lst (pa_cons (pe_tup (pa_cons pe_int (pa_cons pe_int pa_nil))) pa_nil)) (pv 3)))) pss_nil)
      (pss_cons (ps_asg (pe_tup (pa_cons (pe_ix ix_tup (pv 0) pe_int (fun _ _ => rfl)) (pa_cons (pe_ix ix_tup (pv 0) pe_int (fun _ _ => rfl)) pa_nil))) (pg_tup (by rfl) (pgs_cons (pg_name (i := 4) sc_node_size.nd rfl (.inr rfl)) (pgs_cons (pg_name (i := 5) sc_node_size.nd rfl (.inl rfl)) pgs_nil))))
      (pss_cons (ps_if (pt_cmpR op_in_seq (pv 4) (pv 1) (by rfl)) (pss_one (ps_ret (pe_op op_cat (pe_lst (pa_cons (pe_tup (pa_cons pe_int (pa_cons pe_int pa_nil))) pa_nil)) (pe_lc (own := [("param", 10)]) (g := gName 10) (tt := tYes) rfl sc_node_size.nd (pi_tup (pv 1)) (blkOk_by (own := [("param", 10)]) (N := ["node", "params", "sizes", "nothing", "name", "given", "whole", "total", "place", "argument", "param"]) (sc := defScope s_node_size) (by decide +kernel)) (fun _ _ _ _ _ => (pg_name (i := 10) sc_node_size.nd rfl (.inl rfl))) (fun _ _ _ _ _ => pts_nil) (fun _ _ _ _ _ => (pe_ifExp (pt_cmpR op_eq (pv 4) (pv 10) (nomark _)) (pe_tup (pa_cons pe_int (pa_cons pe_int pa_nil))) (pe_tup (pa_cons pe_int (pa_cons pe_int pa_nil))))))))) pss_nil)
      (pss_cons (ps_set (i := 6) sc_node_size.nd rfl (.inl rfl) (pe_ifExp (pt_cmp (pc_din (hu1 hr) (pv 4) (pv 2))) (pe_dget (hu1 hr) (pv 2) (pv 4) (fun _ _ => rfl)) (pe_call G_built_in_size (hr.mono (by omega)) (by rfl) T.D_built_in_size.G T.D_built_in_size.F.kp T.D_built_in_size.B .nil pass0 (pa_cons (pe_callB call_len_seq (by rfl) T.n_len PySem.boot_len (pa_cons (pv 5) pa_nil)) pa_nil))))
      (pss_cons (ps_set (i := 7) sc_node_size.nd rfl (.inl rfl) (pe_op op_cat (pe_lst (pa_cons (pe_ix ix_list (pv 6) pe_int (fun _ _ => rfl)) pa_nil)) (pv 3)))
      (pss_cons (ps_for PassesOwn.never rfl (pi_zipM (by rfl) T.n_zip (pa_cons (pe_slice sl_list (pv 6) (po_some pe_int) po_none) (pa_cons (pv 5) pa_nil))) (pg_tup (by rfl) (pgs_cons (pg_name (i := 8) sc_node_size.nd rfl (.inl rfl)) (pgs_cons (pg_name (i := 9) sc_node_size.nd rfl (.inl rfl)) pgs_nil))) (pss_one (ps_set (i := 7) sc_node_size.nd rfl (.inl rfl) (pe_call G_beside (hr.mono (by omega)) (by rfl) T.D_beside.G T.D_beside.F.kp T.D_beside.B .nil pass0 (pa_cons (pv 7) (pa_cons (pe_call G_put_at (hr.mono (by omega)) (by rfl) T.D_put_at.G T.D_put_at.F.kp T.D_put_at.B .nil pass0 (pa_cons (pv 8) (pa_cons (pe_call G_size (hr.mono (by omega)) (by rfl) T.D_size.G T.D_size.F.kp T.D_size.B .nil pass0 (pa_cons (pv 9) (pa_cons (pv 1) (pa_cons (pv 2) pa_nil)))) pa_nil))) pa_nil))))))
      (pss_one (ps_ret (pv 7)))))))))), ?_⟩
    have pl := sp.pl
    refine ⟨by show 2 ≤ sizeLine; decide, fun c nc => ⟨by show 1 ≤ sizeLine; decide, fun L nL => ?_⟩⟩
    have t1 := same_upd (o := .tup [V.int 0, .int 0]) (Same.refl H) nc
    have t2 := same_upd (o := .lst [V.ref c]) (Same.refl _) nL
    refine ⟨_, rfl, pa, _, rfl, .inr (SqT.same hpa (t1.trans t2)), L, _, _, rfl, rfl, upd_same, by omega, by rw [List.length_map]; omega, ?_, fun L2 nL2 => ?_⟩
    · rw [List.length_map]; exact Nat.le_of_lt (lt_size (by rw [List.length_singleton]; omega))
    have ef : (List.replicate (((ps.map sV).length : Nat) : Int).toNat [V.ref c]).flatten = List.replicate ps.length (V.ref c) := by
      rw [List.length_map, List.flatten_replicate_singleton]
      congr 1
    rw [ef]
    have t3 := same_upd (o := .lst (List.replicate ps.length (V.ref c))) (Same.refl _) nL2
    have all := t1.trans (t2.trans t3)
    have ec := (t2.trans t3) _ _ (upd_same (a := c) (o := .tup [V.int 0, .int 0]))
    obtain ⟨_, ns, eP, eN, rN⟩ := rep_sv (x := (0, 0)) ec upd_same
    have eP := V.ref.inj eP
    subst eP
    have rN : PRs _ ns (noneS ps) := rN
    generalize upd (upd (upd H c (.tup [V.int 0, .int 0])) L (.lst [V.ref c])) L2 (.lst (List.replicate ps.length (V.ref c))) = H1 at all eN rN ⊢
    have ln : ns.length = ps.length := by rw [rN.1]; exact none_length
    have hv1 := hv.keep (TKeep.same all)
    cases nd with
    | word z =>
      obtain ⟨p, rfl, ep⟩ := hv1
      refine ⟨_, rfl, p, _, _, _, rfl, rfl, SqT.of ep, rfl, rfl, true, word_eq_word, ?_⟩
      refine ⟨by show 2 ≤ sizeLine; decide, fun c2 nc2 => ⟨by show 1 ≤ sizeLine; decide, fun L3 nL3 => ?_⟩⟩
      have u1 := same_upd (o := .tup [V.int 1, .int 0]) (Same.refl H1) nc2
      have u2 := same_upd (o := .lst [V.ref c2]) (Same.refl _) nL3
      refine ⟨_, rfl, L3, L2, _, _, rfl, rfl, upd_same, (u1.trans u2) _ _ eN, ?_, fun R nR => ?_⟩
      · rw [ln]; exact Nat.le_of_lt (lt_size (by show 1 + _ < _; omega))
      have u3 := same_upd (o := .lst ([V.ref c2] ++ ns)) (Same.refl _) nR
      have un := u1.trans (u2.trans u3)
      refine q _ _ (all.trans un) ⟨R, _, rfl, upd_same, ?_⟩
      exact PRs.cons ⟨c2, rfl, (u2.trans u3) _ _ upd_same⟩ (rN.keep (TKeep.same un))
    | call nm a =>
      obtain ⟨p, qa, us, rfl, ep, eq, hA⟩ := hv1
      have el := hA.lenA
      refine ⟨_, rfl, p, _, _, _, rfl, rfl, SqT.of ep, rfl, rfl, false, call_ne_word, ?_⟩
      refine ⟨_, rfl, p, _, _, _, rfl, rfl, SqT.of ep, rfl, _, rfl, p, _, _, _, rfl, rfl, SqT.of ep, rfl, by show 2 ≤ sizeLine; decide, fun tp ntp => ?_⟩
      have tT := same_upd (o := .tup [sV nm, V.ref qa]) (Same.refl H1) ntp
      have eT : upd H1 tp (.tup [sV nm, V.ref qa]) tp = some (.tup [sV nm, V.ref qa]) := upd_same
      generalize upd H1 tp (.tup [sV nm, V.ref qa]) = H2 at tT eT ⊢
      have all2 := all.trans tT
      have eN2 := tT _ _ eN
      have rN2 := rN.keep (TKeep.same tT)
      have eq2 := tT _ _ eq
      have hA2 := RepA.keep (TKeep.same tT) hA
      refine ⟨tp, _, rfl, SqT.of eT, rfl, _, _, rfl, _, _, rfl, rfl, ?_⟩
      refine ⟨_, rfl, _, rfl, pa, ps.map sV, rfl, .inr (SqT.same hpa all2), rfl, flat_all _, decide (nm ∈ ps), congrArg V.bl (inV_s nm ps), ?_⟩
      by_cases hm : nm ∈ ps
      · rw [decide_eq_true hm]
        refine ⟨by show 2 ≤ sizeLine; decide, fun c2 nc2 => ⟨by show 1 ≤ sizeLine; decide, fun L3 nL3 => ?_⟩⟩
        have u1 := same_upd (o := .tup [V.int 0, .int 0]) (Same.refl H2) nc2
        have u2 := same_upd (o := .lst [V.ref c2]) (Same.refl _) nL3
        have ec2 := u2 _ _ (upd_same (H := H2) (a := c2) (o := .tup [V.int 0, .int 0]))
        have eL3 : upd (upd H2 c2 (.tup [V.int 0, .int 0])) L3 (.lst [V.ref c2]) L3 = some (.lst [V.ref c2]) := upd_same
        have u12 := u1.trans u2
        generalize upd (upd H2 c2 (.tup [V.int 0, .int 0])) L3 (.lst [V.ref c2]) = H3 at u12 ec2 eL3 ⊢
        have all3 := all2.trans u12
        refine ⟨_, rfl, pa, rfl, ⟨_, SqT.same hpa all3⟩, fun D nD => ?_⟩
        refine lc_it (walk_tup (K := K) (a := pa) (xs := ps.map sV)) (PvZ H3 D (ps.map fun p => if nm = p then ((1 : Int), (0 : Int)) else (0, 0))) (PvZ.start nD) (fun i H' _ h => ?_) ?_ ?_
        · obtain ⟨_, k, _⟩ := h
          exact SqT.same hpa (all3.trans k)
        · rintro i x H' H'' hi hp ⟨rfl, hx⟩
          rw [List.getElem?_map] at hx
          obtain ⟨pm, hpm, rfl⟩ : ∃ pm, ps[i]? = some pm ∧ sV pm = x := by
            cases h : ps[i]? with
            | none => rw [h] at hx; cases hx
            | some z => rw [h] at hx; exact ⟨z, rfl, Option.some.inj hx⟩
          have hi2 : i < ps.length := (List.getElem?_eq_some_iff.mp hpm).1
          have ez : (ps.map fun p => if nm = p then ((1 : Int), (0 : Int)) else (0, 0))[i]? = some (if nm = pm then ((1 : Int), (0 : Int)) else (0, 0)) := by rw [List.getElem?_map, hpm]; rfl
          refine ⟨rfl, _, rfl, _, rfl, rfl, decide (nm = pm), by rw [dec_s], ?_⟩
          by_cases e2 : nm = pm
          · rw [if_pos e2] at ez
            rw [decide_eq_true e2]
            exact ⟨by show 2 ≤ sizeLine; decide, fun c nc => hp.step nD (same_upd (Same.refl _) nc) ez (by omega) ⟨c, rfl, upd_same⟩⟩
          · rw [if_neg e2] at ez
            rw [decide_eq_false e2]
            exact ⟨by show 2 ≤ sizeLine; decide, fun c nc => hp.step nD (same_upd (Same.refl _) nc) ez (by omega) ⟨c, rfl, upd_same⟩⟩
        · rintro H4 ⟨ws, k, e4, r⟩
          rw [List.length_map, List.take_of_length_le (by rw [List.length_map]; exact Nat.le_refl _)] at r
          have lw := r.1
          rw [List.length_map] at lw
          refine ⟨L3, D, _, _, rfl, rfl, k _ _ eL3, e4, ?_, fun R nR => ?_⟩
          · rw [lw]; exact Nat.le_of_lt (lt_size (by show 1 + _ < _; omega))
          have u3 := same_upd (o := .lst ([V.ref c2] ++ ws)) (Same.refl _) nR
          refine q _ _ (all3.trans (k.trans u3)) ⟨R, _, rfl, upd_same, ?_⟩
          simp only [nszN]
          rw [if_pos hm]
          exact PRs.cons ⟨c2, rfl, (k.trans u3) _ _ ec2⟩ (r.keep (TKeep.same u3))
      · rw [decide_eq_false hm]
        have wl := whole_len wf.1 hm
        have wn := whole_nn sp.o (n := nm) (k := lenA a)
        have wm := whole_le sp.hM (n := nm) (k := lenA a)
        have hlA := lenA_le a
        have hw2 : wA a + 1 ≤ 90000 := by simp only [wN] at hw; omega
        obtain ⟨ka, kvs, rfl, ek, hk⟩ := hsd.same all2
        have hg : DGet H2 ka (sV nm) (valV kvs (Sum.inr (mkS nm))) := DGet.k (k := Sum.inr (mkS nm)) ek
        have lk := hk nm
        -- the whole
        have fin : ∀ (H3 : Hp) (wv : V), Same H2 H3 → SV H3 wv (wholeS sz nm (lenA a)) → True := fun _ _ _ _ => trivial
        refine ⟨_, rfl, _, rfl, ka, _, rfl, hg, ?_⟩
        cases el2 : sz.lookup nm with
        | some s0 =>
          rw [el2] at lk
          cases ev : valV kvs (Sum.inr (mkS nm)) with
          | none => rw [ev] at lk; exact lk.elim
          | some wv =>
            rw [ev] at lk hg
            have sv : SV H2 wv (wholeS sz nm (lenA a)) := by unfold wholeS; rw [el2]; exact lk
            refine ⟨true, rfl, _, rfl, _, rfl, ka, _, rfl, hg, ?_⟩
            obtain ⟨H3, hH3⟩ : ∃ H3, H3 = H2 := ⟨_, rfl⟩
            have k3 : Same H2 H3 := by rw [hH3]; exact Same.refl _
            have sv : SV H3 wv (wholeS sz nm (lenA a)) := by rw [hH3]; exact sv
            rw [← hH3]
            obtain ⟨wp, wvs, rfl, ew, rw_⟩ := sv
            have lw : wvs.length = lenA a + 1 := rw_.1.trans wl
            obtain ⟨w0, wr, rfl⟩ : ∃ w0 wr, wvs = w0 :: wr := by
              cases wvs with
              | nil => cases lw
              | cons w0 wr => exact ⟨w0, wr, rfl⟩
            obtain ⟨x0, xr, eW⟩ : ∃ x0 xr, wholeS sz nm (lenA a) = x0 :: xr := by
              cases h : wholeS sz nm (lenA a) with
              | nil => rw [h] at wl; cases wl
              | cons x0 xr => exact ⟨x0, xr, rfl⟩
            have lwr : wr.length = lenA a := Nat.succ.inj lw
            have all3 := all2.trans k3
            obtain ⟨v0, ev0, pr0⟩ := rw_.2 0 x0 (by rw [eW]; rfl)
            have ev0 : w0 = v0 := Option.some.inj ev0
            subst ev0
            have prr : PRs H3 wr xr := by
              have := rw_.tail
              rw [eW] at this
              exact this
            have eN3 := k3 _ _ eN2
            have rN3 := rN2.keep (TKeep.same k3)
            refine ⟨_, rfl, wp, _, 0, w0, rfl, rfl, SqL.of ew, atI_nat (j := 0) rfl, by show 1 ≤ sizeLine; decide, fun L3 nL3 => ?_⟩
            have u1 := same_upd (o := .lst [w0]) (Same.refl H3) nL3
            refine ⟨_, rfl, L3, L2, _, _, rfl, rfl, upd_same, u1 _ _ eN3, ?_, fun R nR => ?_⟩
            · rw [ln]; exact Nat.le_of_lt (lt_size (by show 1 + _ < _; omega))
            have u2 := same_upd (o := .lst ([w0] ++ ns)) (Same.refl _) nR
            have svt : SV (upd (upd H3 L3 (.lst [w0])) R (.lst ([w0] ++ ns))) (.ref R) (x0 :: noneS ps) := ⟨R, _, rfl, upd_same, PRs.cons (pr0.keep (TKeep.same (u1.trans u2))) (rN3.keep (TKeep.same (u1.trans u2)))⟩
            have u12 := u1.trans u2
            generalize upd (upd H3 L3 (.lst [w0])) R (.lst ([w0] ++ ns)) = H4 at u12 svt ⊢
            have all4 := all3.trans u12
            refine ⟨_, rfl, _, rfl, wp, _, rfl, SqL.of (u12 _ _ ew), fun q1 nq1 => ?_⟩
            rw [cut_tl]
            have u4 := same_upd (o := .lst wr) (Same.refl H4) nq1
            have eq1 : upd H4 q1 (.lst wr) q1 = some (.lst wr) := upd_same
            have svt5 := svt.same u4
            generalize upd H4 q1 (.lst wr) = H5 at u4 eq1 svt5 ⊢
            have all5 := all4.trans u4
            have k35 := u12.trans u4
            have eq5 := (k3.trans k35) _ _ eq2
            have hA5 := RepA.keep (TKeep.same (k3.trans k35)) hA2
            have prr5 := prr.keep (TKeep.same k35)
            have nnt : NN xr := by
              have := nn_tail wn
              rw [eW] at this
              exact this
            have let_ : LeS xr M := by
              have := le_tail wm
              rw [eW] at this
              exact this
            have eF : nszN ps sz (.call nm a) = pszA ps sz xr (x0 :: noneS ps) a := by
              simp only [nszN]
              rw [if_neg hm, eW]; rfl
            rw [eF] at q
            simp only [WfNd] at wf
            refine ⟨_, rfl, .L q1, .T qa, wr, us, rfl, SqL.of eq1, SqT.of eq5, ?_⟩
            refine for_it (walk_zipM (K := K) (p := .L q1) (q := .T qa) (xs := wr) (ys := us) (n := us.length) (by omega)) (fun i σ' H' => ∃ (r : Ar) (tot : V) (acc : PS) (x8 x9 : Option V), σ' = [some (.ref p), some (.ref pa), some (.ref ka), some (.ref L2), some (sV nm), some (.ref qa), some (.ref wp), some tot, x8, x9, none] ∧ Same H5 H' ∧ SV H' tot acc ∧ acc.length = ps.length + 1 ∧ RepA H5 r (us.drop i) ∧ pszA ps sz (xr.drop i) acc r = pszA ps sz xr (x0 :: noneS ps) a ∧ WfA ps sz r ∧ wA r ≤ 90000 ∧ depA r < n + 1 ∧ depA r ≤ e)
              ⟨a, _, _, none, none, rfl, Same.refl _, svt5, cons_none_len, hA5, rfl, wf.2, by omega, hdn, hde⟩ ?_ ?_ ?_
            · rintro i σ' H' _ ⟨_, _, _, _, _, _, k, _⟩
              exact ⟨SqL.of (k _ _ eq1), SqT.of (k _ _ eq5)⟩
            · rintro i xx σ' H6 H7 hi ⟨r, tot, acc, x8, x9, rfl, k6, svA, al, hr1, epz, wf1, hw1, hd1, hd2⟩ ⟨Tt, y1, y2, rfl, nT, rfl, h1, h2⟩
              rw [drop_x h2] at hr1
              obtain ⟨t, r2, rfl, ⟨tq, ws, rfl, etq, ht⟩, hr2⟩ := hr1.first
              simp only [WfA] at wf1
              simp only [wA] at hw1
              simp only [depA] at hd1 hd2
              have hix : i < xr.length := by rw [← prr.1]; omega
              obtain ⟨vp, gp, pr1⟩ := prr5.2 i _ (List.getElem?_eq_getElem hix)
              have gp := Option.some.inj (gp.symm.trans h1)
              subst gp
              have kT := same_upd (o := .tup [vp, V.ref tq]) (Same.refl H6) nT
              have k67 := k6.trans kT
              have A7 := all5.trans k67
              refine ⟨Tt, _, rfl, SqT.of upd_same, rfl, _, _, rfl, _, _, rfl, rfl, ?_⟩
              have ⟨g1, g2, _⟩ := pszT_ok sp.o sp.hn (σ := ps.map fun _ => (0 : Int)) (by rw [List.length_map]) (t := t) (acc := (0, 0) :: noneS ps) wf1.1 cons_none_len (nn_cons_none (Int.le_refl 0))
              have g3 := pszT_le sp.o sp.hM sp.hn (t := t) (acc := (0, 0) :: noneS ps) (e := e - 1) (A := 0) wf1.1 cons_none_len (nn_cons_none (Int.le_refl 0)) (by omega) (le_none (by show (0 : Int) ≤ _; omega))
              refine ⟨_, rfl, _, rfl, _, rfl, _, rfl, _, rfl, tq, ws, t, pa, ps, .ref ka, sz, fm, M, b, e, rfl, k67 _ _ etq, RepT.keep (TKeep.same k67) ht, by omega, SqT.same hpa A7, hsd.same A7, sp, wf1.1, by omega, by omega, fun H8 rv k8 sv8 => ?_⟩
              refine ⟨vp, rv, xr[i], _, rfl, pr1.keep (TKeep.same (k67.trans k8)), sv8, by rw [g1]; omega, fun x hx => cmul_ok sp (nnt _ (List.getElem_mem hix)) (let_ _ (List.getElem_mem hix)) (g2 x hx) (g3 x hx) (by omega) (by omega), fun H9 rv9 k9 sv9 => ?_⟩
              refine ⟨tot, rv9, acc, _, rfl, svA.same ((kT.trans k8).trans k9), sv9, by rw [put_length, g1]; omega, by omega, fun H10 rv10 k10 sv10 => ?_⟩
              refine ⟨r2, rv10, _, _, _, rfl, ((k67.trans k8).trans k9).trans k10, sv10, by rw [bes_length (by rw [put_length, g1]; omega)]; exact al, hr2, ?_, wf1.2, by omega, by omega, by omega⟩
              rw [← epz, List.drop_eq_getElem_cons hix]
              simp only [pszA]
            · rintro σ' H6 ⟨r, tot, acc, x8, x9, rfl, k6, svA, al, hr1, epz, _⟩
              rw [List.drop_length] at hr1
              have er := hr1.last
              subst er
              have e2 : acc = pszA ps sz xr (x0 :: noneS ps) a := by rw [← epz]; cases xr.drop us.length <;> simp only [pszA]
              exact ⟨_, rfl, q H6 tot (all5.trans k6) (by rw [← e2]; exact svA)⟩
        | none =>
          rw [el2] at lk
          cases ev : valV kvs (Sum.inr (mkS nm)) with
          | some wv => rw [ev] at lk; exact lk.elim
          | none =>
            refine ⟨false, rfl, _, rfl, qa, _, rfl, .inr (SqT.of eq2), us.length, rfl, by omega, fun H3 wv k3 sv => ?_⟩
            have sv : SV H3 wv (wholeS sz nm (lenA a)) := by unfold wholeS; rw [el2, ← el]; exact sv
            obtain ⟨wp, wvs, rfl, ew, rw_⟩ := sv
            have lw : wvs.length = lenA a + 1 := rw_.1.trans wl
            obtain ⟨w0, wr, rfl⟩ : ∃ w0 wr, wvs = w0 :: wr := by
              cases wvs with
              | nil => cases lw
              | cons w0 wr => exact ⟨w0, wr, rfl⟩
            obtain ⟨x0, xr, eW⟩ : ∃ x0 xr, wholeS sz nm (lenA a) = x0 :: xr := by
              cases h : wholeS sz nm (lenA a) with
              | nil => rw [h] at wl; cases wl
              | cons x0 xr => exact ⟨x0, xr, rfl⟩
            have lwr : wr.length = lenA a := Nat.succ.inj lw
            have all3 := all2.trans k3
            obtain ⟨v0, ev0, pr0⟩ := rw_.2 0 x0 (by rw [eW]; rfl)
            have ev0 : w0 = v0 := Option.some.inj ev0
            subst ev0
            have prr : PRs H3 wr xr := by
              have := rw_.tail
              rw [eW] at this
              exact this
            have eN3 := k3 _ _ eN2
            have rN3 := rN2.keep (TKeep.same k3)
            refine ⟨_, rfl, wp, _, 0, w0, rfl, rfl, SqL.of ew, atI_nat (j := 0) rfl, by show 1 ≤ sizeLine; decide, fun L3 nL3 => ?_⟩
            have u1 := same_upd (o := .lst [w0]) (Same.refl H3) nL3
            refine ⟨_, rfl, L3, L2, _, _, rfl, rfl, upd_same, u1 _ _ eN3, ?_, fun R nR => ?_⟩
            · rw [ln]; exact Nat.le_of_lt (lt_size (by show 1 + _ < _; omega))
            have u2 := same_upd (o := .lst ([w0] ++ ns)) (Same.refl _) nR
            have svt : SV (upd (upd H3 L3 (.lst [w0])) R (.lst ([w0] ++ ns))) (.ref R) (x0 :: noneS ps) := ⟨R, _, rfl, upd_same, PRs.cons (pr0.keep (TKeep.same (u1.trans u2))) (rN3.keep (TKeep.same (u1.trans u2)))⟩
            have u12 := u1.trans u2
            generalize upd (upd H3 L3 (.lst [w0])) R (.lst ([w0] ++ ns)) = H4 at u12 svt ⊢
            have all4 := all3.trans u12
            refine ⟨_, rfl, _, rfl, wp, _, rfl, SqL.of (u12 _ _ ew), fun q1 nq1 => ?_⟩
            rw [cut_tl]
            have u4 := same_upd (o := .lst wr) (Same.refl H4) nq1
            have eq1 : upd H4 q1 (.lst wr) q1 = some (.lst wr) := upd_same
            have svt5 := svt.same u4
            generalize upd H4 q1 (.lst wr) = H5 at u4 eq1 svt5 ⊢
            have all5 := all4.trans u4
            have k35 := u12.trans u4
            have eq5 := (k3.trans k35) _ _ eq2
            have hA5 := RepA.keep (TKeep.same (k3.trans k35)) hA2
            have prr5 := prr.keep (TKeep.same k35)
            have nnt : NN xr := by
              have := nn_tail wn
              rw [eW] at this
              exact this
            have let_ : LeS xr M := by
              have := le_tail wm
              rw [eW] at this
              exact this
            have eF : nszN ps sz (.call nm a) = pszA ps sz xr (x0 :: noneS ps) a := by
              simp only [nszN]
              rw [if_neg hm, eW]; rfl
            rw [eF] at q
            simp only [WfNd] at wf
            refine ⟨_, rfl, .L q1, .T qa, wr, us, rfl, SqL.of eq1, SqT.of eq5, ?_⟩
            refine for_it (walk_zipM (K := K) (p := .L q1) (q := .T qa) (xs := wr) (ys := us) (n := us.length) (by omega)) (fun i σ' H' => ∃ (r : Ar) (tot : V) (acc : PS) (x8 x9 : Option V), σ' = [some (.ref p), some (.ref pa), some (.ref ka), some (.ref L2), some (sV nm), some (.ref qa), some (.ref wp), some tot, x8, x9, none] ∧ Same H5 H' ∧ SV H' tot acc ∧ acc.length = ps.length + 1 ∧ RepA H5 r (us.drop i) ∧ pszA ps sz (xr.drop i) acc r = pszA ps sz xr (x0 :: noneS ps) a ∧ WfA ps sz r ∧ wA r ≤ 90000 ∧ depA r < n + 1 ∧ depA r ≤ e)
              ⟨a, _, _, none, none, rfl, Same.refl _, svt5, cons_none_len, hA5, rfl, wf.2, by omega, hdn, hde⟩ ?_ ?_ ?_
            · rintro i σ' H' _ ⟨_, _, _, _, _, _, k, _⟩
              exact ⟨SqL.of (k _ _ eq1), SqT.of (k _ _ eq5)⟩
            · rintro i xx σ' H6 H7 hi ⟨r, tot, acc, x8, x9, rfl, k6, svA, al, hr1, epz, wf1, hw1, hd1, hd2⟩ ⟨Tt, y1, y2, rfl, nT, rfl, h1, h2⟩
              rw [drop_x h2] at hr1
              obtain ⟨t, r2, rfl, ⟨tq, ws, rfl, etq, ht⟩, hr2⟩ := hr1.first
              simp only [WfA] at wf1
              simp only [wA] at hw1
              simp only [depA] at hd1 hd2
              have hix : i < xr.length := by rw [← prr.1]; omega
              obtain ⟨vp, gp, pr1⟩ := prr5.2 i _ (List.getElem?_eq_getElem hix)
              have gp := Option.some.inj (gp.symm.trans h1)
              subst gp
              have kT := same_upd (o := .tup [vp, V.ref tq]) (Same.refl H6) nT
              have k67 := k6.trans kT
              have A7 := all5.trans k67
              refine ⟨Tt, _, rfl, SqT.of upd_same, rfl, _, _, rfl, _, _, rfl, rfl, ?_⟩
              have ⟨g1, g2, _⟩ := pszT_ok sp.o sp.hn (σ := ps.map fun _ => (0 : Int)) (by rw [List.length_map]) (t := t) (acc := (0, 0) :: noneS ps) wf1.1 cons_none_len (nn_cons_none (Int.le_refl 0))
              have g3 := pszT_le sp.o sp.hM sp.hn (t := t) (acc := (0, 0) :: noneS ps) (e := e - 1) (A := 0) wf1.1 cons_none_len (nn_cons_none (Int.le_refl 0)) (by omega) (le_none (by show (0 : Int) ≤ _; omega))
              refine ⟨_, rfl, _, rfl, _, rfl, _, rfl, _, rfl, tq, ws, t, pa, ps, .ref ka, sz, fm, M, b, e, rfl, k67 _ _ etq, RepT.keep (TKeep.same k67) ht, by omega, SqT.same hpa A7, hsd.same A7, sp, wf1.1, by omega, by omega, fun H8 rv k8 sv8 => ?_⟩
              refine ⟨vp, rv, xr[i], _, rfl, pr1.keep (TKeep.same (k67.trans k8)), sv8, by rw [g1]; omega, fun x hx => cmul_ok sp (nnt _ (List.getElem_mem hix)) (let_ _ (List.getElem_mem hix)) (g2 x hx) (g3 x hx) (by omega) (by omega), fun H9 rv9 k9 sv9 => ?_⟩
              refine ⟨tot, rv9, acc, _, rfl, svA.same ((kT.trans k8).trans k9), sv9, by rw [put_length, g1]; omega, by omega, fun H10 rv10 k10 sv10 => ?_⟩
              refine ⟨r2, rv10, _, _, _, rfl, ((k67.trans k8).trans k9).trans k10, sv10, by rw [bes_length (by rw [put_length, g1]; omega)]; exact al, hr2, ?_, wf1.2, by omega, by omega, by omega⟩
              rw [← epz, List.drop_eq_getElem_cons hix]
              simp only [pszA]
            · rintro σ' H6 ⟨r, tot, acc, x8, x9, rfl, k6, svA, al, hr1, epz, _⟩
              rw [List.drop_length] at hr1
              have er := hr1.last
              subst er
              have e2 : acc = pszA ps sz xr (x0 :: noneS ps) a := by rw [← epz]; cases xr.drop us.length <;> simp only [pszA]
              exact ⟨_, rfl, q H6 tot (all5.trans k6) (by rw [← e2]; exact svA)⟩
end
end Vf

set_option Elab.async false
set_option linter.all false
set_option maxRecDepth 100000
set_option maxHeartbeats 4000000
namespace Vf
open PySem PySem.Spec PyProof.Rows L2 TL
/-! ### the macros of a tree without a fault -/
abbrev Mc := List Nat × List (List Nat) × Tr
def mcA (a : Ar) : List Mc := match letOf a with
  | some (m :: ps, b) => [(m, ps, b)]
  | _ => []
def mcT : Tr → List Mc
  | .nil => []
  | .word _ r => mcT r
  | .call n a r => if n = letN then mcA a ++ mcT r else mcT r
def knM (ms : List Mc) : Kn := ms.map fun x => (x.1, x.2.1.length)
def MV (H : Hp) (v : V) (x : Mc) : Prop := ∃ (c pp bp : Addr) (ws : List V), v = .ref c ∧ H c = some (.tup [.ref pp, .ref bp]) ∧ H pp = some (.tup (x.2.1.map sV)) ∧ H bp = some (.tup ws) ∧ RepT H x.2.2 ws
theorem MV.keep {H H' : Hp} {v : V} {x : Mc} (h : MV H v x) (k : TKeep H H') : MV H' v x := by
  obtain ⟨c, pp, bp, ws, e, h1, h2, h3, h4⟩ := h
  exact ⟨c, pp, bp, ws, e, k _ _ h1, k _ _ h2, k _ _ h3, RepT.keep k h4⟩
def McV (H : Hp) (kvs : List (Key × V)) (ms : List Mc) : Prop := kvs.length = ms.length ∧ ∀ (i : Nat) (x : Mc), ms[i]? = some x → ∃ v, kvs[i]? = some (Sum.inr (mkS x.1), v) ∧ MV H v x
theorem McV.keep {H H' : Hp} {kvs : List (Key × V)} {ms : List Mc} (h : McV H kvs ms) (k : TKeep H H') : McV H' kvs ms := ⟨h.1, fun i x e => by
  obtain ⟨v, e1, e2⟩ := h.2 i x e
  exact ⟨v, e1, e2.keep k⟩⟩
theorem McV.snoc {H : Hp} {kvs : List (Key × V)} {ms : List Mc} {v : V} {x : Mc} (h : McV H kvs ms) (hx : MV H v x) : McV H (kvs ++ [(Sum.inr (mkS x.1), v)]) (ms ++ [x]) := by
  refine ⟨by rw [List.length_append, List.length_append, h.1]; rfl, fun i q e => ?_⟩
  by_cases hi : i < ms.length
  · rw [List.getElem?_append_left hi] at e
    obtain ⟨y, e1, e2⟩ := h.2 i q e
    exact ⟨y, by rw [List.getElem?_append_left (by rw [h.1]; exact hi)]; exact e1, e2⟩
  · rw [List.getElem?_append_right (by omega)] at e
    have e0 : i - ms.length = 0 := by
      have := (List.getElem?_eq_some_iff.mp e).1
      simp at this
      exact this
    rw [e0] at e
    have e : x = q := Option.some.inj e
    subst e
    exact ⟨v, by rw [List.getElem?_append_right (by rw [h.1]; omega), h.1, e0]; rfl, hx⟩
theorem McV.fresh {H : Hp} {kvs : List (Key × V)} {ms : List Mc} (h : McV H kvs ms) {m : List Nat} (hm : (knM ms).lookup m = none) : valV kvs (Sum.inr (mkS m)) = none := by
  cases e : valV kvs (Sum.inr (mkS m)) with
  | none => rfl
  | some u =>
    have q : (kvs.any fun kv => decide (kv.1 = Sum.inr (mkS m))) = true := by rw [valV_any, e]; rfl
    obtain ⟨p, hp, ep⟩ := List.any_eq_true.mp q
    have ep := of_decide_eq_true ep
    obtain ⟨i, hi⟩ := List.mem_iff_getElem?.mp hp
    have hlt : i < ms.length := by rw [← h.1]; exact (List.getElem?_eq_some_iff.mp hi).1
    obtain ⟨v, e1, _⟩ := h.2 i _ (List.getElem?_eq_getElem hlt)
    rw [hi] at e1
    have e2 := Option.some.inj e1
    rw [e2] at ep
    have e3 : ms[i].1 = m := mkS_inj (Sum.inr.inj ep)
    have : ∀ l : List Mc, (∃ x ∈ l, x.1 = m) → (knM l).lookup m ≠ none := by
      intro l
      induction l with
      | nil => rintro ⟨x, hx, _⟩; cases hx
      | cons y l ih =>
        rintro ⟨x, hx, ex⟩ hn
        have hn : (((y.1, y.2.1.length) : List Nat × Nat) :: knM l).lookup m = none := hn
        by_cases e : m = y.1
        · subst e
          simp [List.lookup] at hn
        · have e2 : (m == y.1) = false := by simpa using e
          rw [List.lookup_cons, e2] at hn
          rcases List.mem_cons.mp hx with z | z
          · rw [z] at ex; exact e ex.symm
          · exact ih ⟨x, z, ex⟩ hn
    exact absurd hm (this ms ⟨_, List.getElem_mem hlt, e3⟩)
section
variable {P : Program} {w : World} {K : PySem.W.Frag} {mg : Str → Option Value} {base : Heap}
def spMacrosOf : Sp := fun vs H Q _ => ∃ (p : Addr) (us : List V) (t : Tr), vs = [.ref p] ∧ H p = some (.tup us) ∧ RepT H t us ∧ BT 1000 t ∧ (toksT t).length ≤ 100000 ∧ chk t [] = none ∧
  ∀ H' ka kvs, Same H H' → H' ka = some (.dK kvs) → McV H' kvs (mcT t) → Q (.ref ka) H'
theorem ok_macros_of (T : Txt K mg) : FnOk P w K mg base (L2N.CX P w) 6 T.a_macros_of T.d_macros_of ["tree"] spMacrosOf := by
  have G_is_definition : FnOk P w K mg base CX0 1 T.a_is_definition T.d_is_definition ["node"] spIsDef := ok_is_def T
  have G_names_of : FnOk P w K mg base (L2N.CX P w) 5 T.a_names_of T.d_names_of ["given"] (spNamesOf T) := ok_names_of T
  refine okN T.D_macros_of.F sc_macros_of (fun vs H Q E h => ?_) (fun cdv A outer s H vs Q E hr h => ?_)
  · obtain ⟨p, us, t, rfl, _⟩ := h
    rfl
  · obtain ⟨p, us, t, rfl, hp, hR, hB, hl, hc, q⟩ := h
    refine ⟨_, (pss_cons (ps_set (i := 1) sc_macros_of.nd rfl (.inl rfl) pe_dnewK)
      (pss_cons (ps_for (passes_of rfl) rfl (pi_tup (pv 0)) (pg_name (i := 2) sc_macros_of.nd rfl (.inl rfl)) (pss_one (ps_if (pt_val (pe_call G_is_definition (hr.mono (by decide)) (by rfl) T.D_is_definition.G T.D_is_definition.F.kp T.D_is_definition.B .nil pass0 (pa_cons (pv 2) pa_nil))) (pss_cons (ps_set (i := 3) sc_macros_of.nd rfl (.inl rfl) (pe_callS G_names_of (hr.mono (by decide)) rfl T.D_names_of.G T.D_names_of.F.kp T.D_names_of.B (fun σ => L2N.passAt (L2N.takes_of rfl rfl rfl rfl) σ) (pa_cons (pe_ix ix_tup (pv 2) pe_int (fun _ _ => rfl)) pa_nil)))
      (pss_one (ps_dput (hu1 hr) (pv 1) (pe_ix ix_tup (pv 3) pe_int (fun _ _ => rfl)) (pe_tup (pa_cons (pe_slice sl_tup (pv 3) (po_some pe_int) po_none) (pa_cons (pe_ix ix_tup (pe_ix ix_tup (pv 2) pe_int (fun _ _ => rfl)) pe_int (fun _ _ => rfl)) pa_nil))) rfl))) pss_nil)))
      (pss_one (ps_ret (pv 1))))), ?_⟩
    intro ka nk
    have s0 := same_upd (o := .dK []) (Same.refl H) nk
    refine ⟨_, rfl, p, rfl, ⟨_, SqT.of (s0 _ _ hp)⟩, ?_⟩
    refine for_tup (K := K) (a := p) (xs := us) (fun i σ' H' => ∃ (ms : List Mc) (kvs : List (Key × V)) (r : Tr) (x2 x3 : Option V), σ' = [some (.ref p), some (.ref ka), x2, x3] ∧ RepT H r (us.drop i) ∧ Same H H' ∧ H' ka = some (.dK kvs) ∧ McV H' kvs ms ∧ ms ++ mcT r = mcT t ∧ chk r (knM ms) = none ∧ BT 1000 r ∧ (toksT r).length ≤ 100000 ∧ ms.length ≤ 40)
      ⟨[], [], t, none, none, rfl, hR, s0, upd_same, ⟨rfl, fun i x h => by simp at h⟩, rfl, hc, hB, hl, Nat.zero_le _⟩ ?_ ?_ ?_
    · rintro i σ' H' _ ⟨_, _, _, _, _, _, _, s1, _⟩
      exact SqT.of (s1 _ _ hp)
    · rintro i x σ' H1 hx ⟨ms, kvs, r, x2, x3, rfl, hr1, s1, ek, mv, em, ec, b1, l1, lm⟩
      rw [drop_x hx] at hr1
      obtain ⟨nd, r2, rfl, hnd, hr2⟩ := hr1.first
      rw [toksT_tr] at l1
      have ⟨b3, b4⟩ := BT_tr b1
      have hnd1 := hnd.keep (TKeep.same s1)
      refine ⟨_, rfl, x, nd, rfl, hnd1, isDefN nd, rfl, ?_⟩
      cases hdef : isDefN nd with
      | true =>
        cases nd with
        | word z => cases hdef
        | call n a =>
          have en : n = letN := of_decide_eq_true hdef
          subst en
          have ec2 : chk (.call letN a r2) (knM ms) = match ltF (knM ms) a with | some f => some f | none => chk r2 (ltK (knM ms) a) := by
            simp only [chk]
            first
              | (rw [if_pos trivial]; done)
              | (rw [if_pos trivial]; cases ltF (knM ms) a <;> rfl)
          have ec : chk (.call letN a r2) (knM ms) = none := ec
          have h0 : ltF (knM ms) a = none := by
            rw [ec2] at ec
            cases e : ltF (knM ms) a with
            | none => rfl
            | some f => rw [e] at ec; cases ec
          rw [ec2, h0] at ec
          have ec : chk r2 (ltK (knM ms) a) = none := ec
          obtain ⟨m, ps, bd, el, hm, hf, hb, hn, hk⟩ := lt_none h0
          obtain ⟨t1, ea, ens, c1, c2, c3⟩ := letOf_ok el
          subst ea
          rw [hk] at ec
          have l40 : (knM ms).length ≤ 40 := by unfold knM; rw [List.length_map]; exact lm
          have l41 := ltK_len l40 h0
          rw [hk, List.length_append] at l41
          have lk : (knM ms).length = ms.length := List.length_map ..
          have eK : knM (ms ++ [(m, ps, bd)]) = knM ms ++ [(m, ps.length)] := by unfold knM; rw [List.map_append]; rfl
          rw [← eK] at ec
          have eM : mcT (Nd.tr (.call letN (.cons t1 (.cons bd .nil))) r2) = [(m, ps, bd)] ++ mcT r2 := by
            simp only [Nd.tr, mcT, mcA]
            rw [if_pos trivial, el]
          have fr := mv.fresh hm
          obtain ⟨pn, qa, ws, rfl, ep, eq, hA⟩ := hnd1
          have l3 : (toksA (.cons t1 (.cons bd .nil))).length ≤ 100000 := by
            have h2 := l1
            simp only [Nd.tr, toksT, List.length_cons, List.length_append] at h2
            omega
          refine ⟨_, rfl, pn, _, 2, _, rfl, rfl, SqT.of ep, atI_nat (j := 2) rfl, qa, ws, _, rfl, eq, hA, b3.2, l3, fun ns b eL H2 np s2 en => ?_, fun eL => by rw [el] at eL; cases eL⟩
          rw [el] at eL
          have eL := Option.some.inj eL
          have e1 : m :: ps = ns := congrArg Prod.fst eL
          have e2 : bd = b := congrArg Prod.snd eL
          subst e1 e2
          obtain ⟨x0, us1, rfl⟩ : ∃ x0 us1, ws = x0 :: us1 := by
            cases ws with
            | nil => simp only [RepA] at hA; obtain ⟨_, _, _, z, _⟩ := hA; cases z
            | cons x0 us => exact ⟨_, _, rfl⟩
          obtain ⟨t2, a1, ea, _, hA1⟩ := hA.first
          injection ea with ea1 ea2
          subst ea1 ea2
          obtain ⟨x1, us2, rfl⟩ : ∃ x1 us2, us1 = x1 :: us2 := by
            cases us1 with
            | nil => simp only [RepA] at hA1; obtain ⟨_, _, _, z, _⟩ := hA1; cases z
            | cons x1 us => exact ⟨_, _, rfl⟩
          obtain ⟨b1', a3, ea, ⟨bp, wb, rfl, ebp, hbT⟩, _⟩ := hA1.first
          injection ea with ea1 ea2
          subst ea1 ea2
          have ek2 := s2 _ _ ek
          refine ⟨_, rfl, _, rfl, np, _, rfl, SqT.of en, sl1 (by rw [List.length_map, List.length_cons]; omega), fun pp npp => ?_⟩
          rw [show cutV ((m :: ps).map sV) (some 1) none = ps.map sV from cut_hi (ts := m :: ps) (i := 1) (by rw [List.length_cons]; omega)]
          have s3 := same_upd (o := .tup (ps.map sV)) (Same.refl H2) npp
          have s23 := s2.trans s3
          refine ⟨_, rfl, pn, _, 2, _, rfl, rfl, SqT.of (s23 _ _ ep), atI_nat (j := 2) rfl, qa, _, 1, _, rfl, rfl, SqT.of (s23 _ _ eq), atI_nat (j := 1) rfl, by show 2 ≤ sizeLine; decide, fun c nc => ?_⟩
          have s4 := same_upd (o := .tup [V.ref pp, V.ref bp]) (Same.refl _) nc
          have s234 := s23.trans s4
          have epp := s4 _ _ (upd_same (H := H2) (a := pp) (o := .tup (ps.map sV)))
          have ecc : upd (upd H2 pp (.tup (ps.map sV))) c (.tup [V.ref pp, V.ref bp]) c = some (.tup [V.ref pp, V.ref bp]) := upd_same
          have en4 := (s3.trans s4) _ _ en
          generalize upd (upd H2 pp (.tup (ps.map sV))) c (.tup [V.ref pp, V.ref bp]) = H4 at s234 epp ecc en4 ⊢
          have ek4 := s234 _ _ ek
          have mv4 := mv.keep (TKeep.same s234)
          have hx4 : MV H4 (.ref c) (m, ps, bd) := ⟨c, pp, bp, wb, rfl, ecc, epp, s234 _ _ ebp, RepT.keep (TKeep.same s234) hbT⟩
          refine ⟨_, rfl, _, rfl, np, _, 0, _, rfl, rfl, SqT.of en4, atI_nat (j := 0) rfl, ka, _, rfl, DPut.k (k := Sum.inr (mkS m)) ek4 ?_, ?_⟩
          · rw [mv.1]; exact lt_size (by omega)
          rw [putK_new _ fr]
          have tk : TKeep H4 (upd H4 ka (.dK (kvs ++ [(Sum.inr (mkS m), V.ref c)]))) := fun b xs hb => by
            rw [upd_ne (fun z => by rw [z, ek4] at hb; cases hb)]; exact hb
          refine ⟨ms ++ [(m, ps, bd)], _, r2, _, _, rfl, hr2, same_mut (s1.trans s234) nk, upd_same, (mv4.snoc hx4).keep tk, ?_, ec, b4, by omega, ?_⟩
          · rw [← em, eM, List.append_assoc]
          · rw [List.length_append]; show ms.length + 1 ≤ 40
            have : [(m, ps.length)].length = 1 := rfl
            omega
      | false =>
        have e2 : mcT (nd.tr r2) = mcT r2 := by
          cases nd with
          | word z => rfl
          | call n a =>
            have en : ¬ n = letN := of_decide_eq_false hdef
            simp only [Nd.tr, mcT]
            rw [if_neg en]
        have e3 : chk r2 (knM ms) = none := by
          rw [chk_tr nd r2 _ hdef] at ec
          cases e : fauN [] (knM ms) nd with
          | nil => rw [e] at ec; exact ec
          | cons f fs => rw [e] at ec; cases ec
        exact ⟨ms, kvs, r2, _, _, rfl, hr2, s1, ek, mv, by rw [← em, e2], e3, b4, by omega, lm⟩
    · rintro σ' H1 ⟨ms, kvs, r, x2, x3, rfl, hr1, s1, ek, mv, em, ec, _⟩
      rw [List.drop_length] at hr1
      have e9 := hr1.last
      subst e9
      have em : ms ++ [] = mcT t := em
      rw [List.append_nil] at em
      rw [em] at mv
      exact ⟨_, rfl, q H1 ka kvs s1 ek mv⟩
end
end Vf

set_option Elab.async false
set_option linter.all false
set_option maxRecDepth 100000
set_option maxHeartbeats 4000000
namespace Vf
open PySem PySem.Spec PyProof.Rows L2 TL
/-! ### the sizes of all macros -/
theorem drop_m {α : Type} {l : List α} {i : Nat} {x : α} (h : l[i]? = some x) : l.drop i = x :: l.drop (i + 1) := by
  have ⟨h1, h2⟩ := List.getElem?_eq_some_iff.mp h
  rw [List.drop_eq_getElem_cons h1, h2]
def stM (sz : Sz) (x : Mc) : Sz := sz ++ [(x.1, pszT x.2.1 sz ((0, 0) :: noneS x.2.1) x.2.2)]
def szM (ms : List Mc) (sz : Sz) : Sz := ms.foldl stM sz
theorem szs_mc : ∀ (t : Tr) (sz : Sz), szs t sz = szM (mcT t) sz
  | .nil, _ => rfl
  | .word _ r, sz => by
    simp only [szs, mcT]
    exact szs_mc r sz
  | .call n a r, sz => by
    simp only [szs, mcT]
    by_cases e : n = letN
    · rw [if_pos e, if_pos e]
      unfold szM
      rw [List.foldl_append]
      have : (mcA a).foldl stM sz = szK sz a := by
        unfold mcA szK
        cases letOf a with
        | none => rfl
        | some x =>
          obtain ⟨ns, b⟩ := x
          cases ns with
          | nil => rfl
          | cons m ps => rfl
      rw [this]
      exact szs_mc r _
    · rw [if_neg e, if_neg e]
      exact szs_mc r sz
def ChkM (kn : Kn) : List Mc → Prop
  | [] => True
  | x :: r => kn.lookup x.1 = none ∧ fauT x.2.1 kn x.2.2 = [] ∧ x.1 ∉ bnN ∧ x.2.1.Nodup ∧ ChkM (kn ++ [(x.1, x.2.1.length)]) r
theorem chk_mc : ∀ (t : Tr) (kn : Kn), chk t kn = none → ChkM kn (mcT t)
  | .nil, _, _ => trivial
  | .word _ r, kn, h => by
    simp only [chk] at h
    simp only [mcT]
    exact chk_mc r kn h
  | .call n a r, kn, h => by
    simp only [chk] at h
    simp only [mcT]
    by_cases en : n = letN
    · rw [if_pos en] at h
      rw [if_pos en]
      have h0 : ltF kn a = none := by
        cases e : ltF kn a with
        | none => rfl
        | some f => rw [e] at h; cases h
      rw [h0] at h
      have h6 : chk r (ltK kn a) = none := h
      obtain ⟨m, ps, b, el, hm, hf, hb, hn, hk⟩ := lt_none h0
      rw [hk] at h6
      have e2 : mcA a = [(m, ps, b)] := by unfold mcA; rw [el]
      rw [e2]
      exact ⟨hm, hf, hb, hn, chk_mc r _ h6⟩
    · rw [if_neg en] at h
      rw [if_neg en]
      have h0 : fauN [] kn (.call n a) = [] := by
        cases e : fauN [] kn (.call n a) with
        | nil => rfl
        | cons f fs => rw [e] at h; cases h
      rw [h0] at h
      exact chk_mc r kn h
/-- how the bounds (in bits) grow from macro to macro -/
def Grow : List Mc → Sz → Nat → Nat → Prop
  | [], _, b, B => b ≤ B
  | x :: r, sz, b, B => x.2.1.length ≤ 10 ∧ depT x.2.2 < 20 ∧ wT x.2.2 ≤ 90000 ∧ b * (depT x.2.2 + 2) + 20 ≤ 1000000 ∧ ∃ b', b ≤ b' ∧ LeS (pszT x.2.1 sz ((0, 0) :: noneS x.2.1) x.2.2) (2 ^ b') ∧ Grow r (stM sz x) b' B
/-- what holds of the sizes so far -/
structure SzI (kn : Kn) (sz : Sz) (fm : Fm) (b : Nat) : Prop where
  ks : KS kn sz fm
  mx : MaxS sz (2 ^ b)
  sl : ∀ n s, sz.lookup n = some s → s.length ≤ 100
theorem SzI.sp {kn : Kn} {sz : Sz} {fm : Fm} {b : Nat} (h : SzI kn sz fm b) {ps : List (List Nat)} {e : Nat} (hn : ps.Nodup) (pl : ps.length ≤ 10) (be : b * (e + 2) + 20 ≤ 1000000) : SP ps sz fm (2 ^ b) b e := ⟨h.ks.ok, h.mx, hn, pl, Nat.le_refl _, be, h.sl⟩
theorem SzI.step {kn : Kn} {sz : Sz} {fm : Fm} {b b' : Nat} (h : SzI kn sz fm b) {x : Mc} (hm : kn.lookup x.1 = none) (hf : fauT x.2.1 kn x.2.2 = []) (hb : x.1 ∉ bnN) (hn : x.2.1.Nodup) (pl : x.2.1.length ≤ 10) (hbb : b ≤ b') (hL : LeS (pszT x.2.1 sz ((0, 0) :: noneS x.2.1) x.2.2) (2 ^ b')) :
    ∃ fm', SzI (kn ++ [(x.1, x.2.1.length)]) (stM sz x) fm' b' := by
  obtain ⟨f1, f2, f3⟩ := form_ok h.ks.ok hn (wfT_of h.ks hf)
  refine ⟨_, h.ks.step hm hb f2 f3, ⟨Nat.one_le_two_pow, fun n s hs => ?_⟩, fun n s hs => ?_⟩
  · unfold stM at hs
    rw [look_app] at hs
    cases e : sz.lookup n with
    | some y =>
      rw [e] at hs
      have hs := Option.some.inj hs
      subst hs
      exact (h.mx.2 n y e).mono (Nat.pow_le_pow_right (by decide) hbb)
    | none =>
      rw [e] at hs
      have hs : (if n = x.1 then some (pszT x.2.1 sz ((0, 0) :: noneS x.2.1) x.2.2) else none) = some s := hs
      by_cases e2 : n = x.1
      · rw [if_pos e2] at hs
        rw [← Option.some.inj hs]; exact hL
      · rw [if_neg e2] at hs; cases hs
  · unfold stM at hs
    rw [look_app] at hs
    cases e : sz.lookup n with
    | some y =>
      rw [e] at hs
      have hs := Option.some.inj hs
      subst hs
      exact h.sl n y e
    | none =>
      rw [e] at hs
      have hs : (if n = x.1 then some (pszT x.2.1 sz ((0, 0) :: noneS x.2.1) x.2.2) else none) = some s := hs
      by_cases e2 : n = x.1
      · rw [if_pos e2] at hs
        rw [← Option.some.inj hs, f3]; omega
      · rw [if_neg e2] at hs; cases hs
theorem SzD.put {H H' : Hp} {D : Addr} {sz : Sz} {kvs : List (Key × V)} {m : List Nat} {S : PS} {v : V} (hk : ∀ n : List Nat, LK H (valV kvs (Sum.inr (mkS n))) (sz.lookup n)) (hm : sz.lookup m = none) (k : ∀ {v s}, SV H v s → SV H' v s) (sv : SV H' v S) (e : H' D = some (.dK (putK kvs (Sum.inr (mkS m)) v))) : SzD H' (.ref D) (sz ++ [(m, S)]) := by
  refine ⟨D, _, rfl, e, fun n => ?_⟩
  rw [valV_put, look_app]
  have h := hk n
  cases e1 : sz.lookup n with
  | some s0 =>
    have hne : n ≠ m := fun z => by rw [z, hm] at e1; cases e1
    rw [if_neg (fun z => hne (mkS_inj (Sum.inr.inj z)))]
    rw [e1] at h
    cases e2 : valV kvs (Sum.inr (mkS n)) with
    | none => rw [e2] at h; exact h.elim
    | some u => rw [e2] at h; exact k h
  | none =>
    rw [e1] at h
    show LK H' _ (if n = m then some S else none)
    by_cases hne : n = m
    · rw [if_pos hne, if_pos (by rw [hne])]; exact sv
    · rw [if_neg hne, if_neg (fun z => hne (mkS_inj (Sum.inr.inj z)))]
      cases e2 : valV kvs (Sum.inr (mkS n)) with
      | none => trivial
      | some u => rw [e2] at h; exact h.elim
theorem SV.upd {H : Hp} {D : Addr} {o : HO} {v : V} {s : PS} (h1 : ∀ xs, H D ≠ some (.lst xs)) (h2 : ∀ xs, H D ≠ some (.tup xs)) (h : SV H v s) : SV (L2.upd H D o) v s := by
  obtain ⟨p, vs, e, a, b⟩ := h
  refine ⟨p, vs, e, by rw [upd_ne (fun z => h1 vs (by rw [← z]; exact a))]; exact a, b.keep fun c xs hc => by rw [upd_ne (fun z => h2 xs (by rw [← z]; exact hc))]; exact hc⟩
theorem LK.upd {H : Hp} {D : Addr} {o : HO} (h1 : ∀ xs, H D ≠ some (.lst xs)) (h2 : ∀ xs, H D ≠ some (.tup xs)) : ∀ {a : Option V} {b : Option PS}, LK H a b → LK (L2.upd H D o) a b
  | none, none, _ => trivial
  | some _, some _, h => SV.upd h1 h2 h
  | none, some _, h => h
  | some _, none, h => h
theorem SzI.up {kn : Kn} {sz : Sz} {fm : Fm} {b B : Nat} (h : SzI kn sz fm b) (hb : b ≤ B) : SzI kn sz fm B := ⟨h.ks, ⟨Nat.one_le_two_pow, fun n s hs => (h.mx.2 n s hs).mono (Nat.pow_le_pow_right (by decide) hb)⟩, h.sl⟩
section
variable {P : Program} {w : World} {K : PySem.W.Frag} {mg : Str → Option Value} {base : Heap}
def spVac : Sp := fun _ _ _ _ => False
theorem ok_sz (T : Txt K mg) : ∀ n : Nat, FnOk P w K mg base CX0 (2 * n + 3) T.a_size T.d_size ["tree", "params", "sizes"] (spSizeT K n)
  | 0 => ok_sizeT T 0 (by
    refine T.D_node_size.F.ok (k := 1) sc_node_size (fun vs H Q E h => ?_) (fun cdv A outer s H vs Q E hr h => ?_)
    · obtain ⟨v, nd, pa, ps, sd, sz, fm, M, b, e, rfl, _⟩ := h
      rfl
    · obtain ⟨v, nd, pa, ps, sd, sz, fm, M, b, e, rfl, hv, hdn, _⟩ := h
      exact absurd hdn (Nat.not_lt_zero _))
  | n + 1 => ok_sizeT T (n + 1) (ok_nodeS T n (ok_sz T n))
def spSizesOf : Sp := fun vs H Q _ => ∃ (ka : Addr) (kvs : List (Key × V)) (ms : List Mc) (B : Nat), vs = [.ref ka] ∧ H ka = some (.dK kvs) ∧ McV H kvs ms ∧ ChkM [] ms ∧ Grow ms [] 0 B ∧
  ms.length ≤ 40 ∧ ∀ H' sd kn fm, Same H H' → SzD H' sd (szM ms []) → SzI kn (szM ms []) fm B → kn = knM ms → Q sd H'
theorem ok_sizes_of (T : Txt K mg) : FnOk P w K mg base CX0 44 T.a_sizes_of T.d_sizes_of ["macros"] spSizesOf := by
  have G_size : FnOk P w K mg base CX0 43 T.a_size T.d_size ["tree", "params", "sizes"] (spSizeT K 20) := ok_sz T 20
  refine T.D_sizes_of.F.ok (k := 43) sc_sizes_of (fun vs H Q E h => ?_) (fun cdv A outer s H vs Q E hr h => ?_)
  · obtain ⟨ka, kvs, ms, B, rfl, _⟩ := h
    rfl
  · obtain ⟨ka, kvs, ms, B, rfl, hk, mv, hc, hg, hl, q⟩ := h
    refine ⟨_, (pss_cons (ps_set (i := 1) sc_sizes_of.nd rfl (.inl rfl) pe_dnewK)
      (pss_cons (ps_lock (ps_for PassesOwn.never rfl (pi_items (pv 0)) (pg_tup (by rfl) (pgs_cons (pg_name (i := 2) sc_sizes_of.nd rfl (.inl rfl)) (pgs_cons (pg_tup (by rfl) (pgs_cons (pg_name (i := 3) sc_sizes_of.nd rfl (.inl rfl)) (pgs_cons (pg_name (i := 4) sc_sizes_of.nd rfl (.inl rfl)) pgs_nil))) pgs_nil))) (pss_one (ps_dput (hu1 hr) (pv 1) (pv 2) (pe_call G_size (hr.mono (by decide)) (by rfl) T.D_size.G T.D_size.F.kp T.D_size.B .nil pass0 (pa_cons (pv 4) (pa_cons (pv 3) (pa_cons (pv 1) pa_nil)))) rfl))))
      (pss_one (ps_ret (pv 1))))), ?_⟩
    intro D nD
    have s0 := same_upd (o := .dK []) (Same.refl H) nD
    have hDk : D ≠ ka := fun z => by rw [z, hk] at nD; cases nD
    refine ⟨ka, .dK kvs, s0 _ _ hk, trivial, fun od => ?_⟩
    have tk0 : TKeep H (upd (upd H D (.dK [])) ka (.frz od (.dK kvs))) := fun b xs hb => by
      rw [upd_ne (fun z => by rw [z, hk] at hb; cases hb)]; exact s0 _ _ hb
    have eK : upd (upd H D (.dK [])) ka (.frz od (.dK kvs)) ka = some (.frz od (.dK kvs)) := upd_same
    have eD : upd (upd H D (.dK [])) ka (.frz od (.dK kvs)) D = some (.dK []) := by rw [upd_ne hDk]; exact upd_same
    have sB : ∀ b o, b ≠ ka → H b = some o → upd (upd H D (.dK [])) ka (.frz od (.dK kvs)) b = some o := fun b o hb e => by rw [upd_ne hb]; exact s0 _ _ e
    generalize upd (upd H D (.dK [])) ka (.frz od (.dK kvs)) = H1 at tk0 eK eD sB ⊢
    refine ⟨_, rfl, ka, od, kvs, rfl, eK, ?_⟩
    refine for_it walk_items (fun i σ' H' => ∃ (kn : Kn) (sz : Sz) (fm : Fm) (b : Nat) (dv : List (Key × V)) (x2 x3 x4 : Option V), σ' = [some (.ref ka), some (.ref D), x2, x3, x4] ∧ H' ka = some (.frz od (.dK kvs)) ∧ (∀ b o, b ≠ ka → H b = some o → H' b = some o) ∧ H' D = some (.dK dv) ∧ (∀ n : List Nat, LK H' (valV dv (Sum.inr (mkS n))) (sz.lookup n)) ∧ dv.length ≤ i ∧
      SzI kn sz fm b ∧ ChkM kn (ms.drop i) ∧ Grow (ms.drop i) sz b B ∧ szM (ms.drop i) sz = szM ms [] ∧ kn = knM (ms.take i)) ?_ ?_ ?_ ?_
    · refine ⟨[], [], [], 0, [], none, none, none, rfl, eK, sB, eD, fun n => trivial, Nat.le_refl _, ⟨ks_nil, ⟨Nat.le_refl _, fun _ _ h => by cases h⟩, fun _ _ h => by cases h⟩, hc, hg, rfl, by rw [List.take_zero]; rfl⟩
    · rintro i σ' H' _ ⟨_, _, _, _, _, _, _, _, _, e, _⟩
      exact e
    · rintro i xx σ' H2 H3 hi ⟨kn, sz, fm, b, dv, x2, x3, x4, rfl, eK2, sB2, eD2, hLK, ld, si, hcM, hgM, eF, ekn⟩ ⟨Tt, y1, y2, rfl, nT, rfl, h1, h2⟩
      have hi2 : i < ms.length := by rw [← mv.1]; exact hi
      have gx : ms[i]? = some ms[i] := List.getElem?_eq_getElem hi2
      obtain ⟨v0, e0, ⟨c, pp, bp, ws, rfl, ec, epp, ebp, hbT⟩⟩ := mv.2 i _ gx
      rw [drop_m gx] at hcM hgM eF
      obtain ⟨m1, m2, m3, m4, m5⟩ := hcM
      obtain ⟨g1, g2, g3, g4, b', g5, g6, g7⟩ := hgM
      have h1 : (kvs[i]?.map fun kv => kV kv.1) = some y1 := h1
      have h2 : kvs[i]?.map Prod.snd = some y2 := h2
      rw [e0] at h1 h2
      have h1 := Option.some.inj h1
      have h2 := Option.some.inj h2
      subst h1 h2
      have sT := same_upd (o := .tup [kV (Sum.inr (mkS ms[i].1)), V.ref c]) (Same.refl H2) nT
      have tk : TKeep H (upd H2 Tt (.tup [kV (Sum.inr (mkS ms[i].1)), V.ref c])) := fun b xs hb => sT _ _ (sB2 _ _ (fun z => by rw [z, hk] at hb; cases hb) hb)
      have eT : upd H2 Tt (.tup [kV (Sum.inr (mkS ms[i].1)), V.ref c]) Tt = some (.tup [sV ms[i].1, V.ref c]) := upd_same
      have eK3 := sT _ _ eK2
      have eD3 := sT _ _ eD2
      have sB3 : ∀ b o, b ≠ ka → H b = some o → upd H2 Tt (.tup [kV (Sum.inr (mkS ms[i].1)), V.ref c]) b = some o := fun b o hb e => sT _ _ (sB2 b o hb e)
      have hLK3 := fun n => (hLK n).same sT
      generalize upd H2 Tt (.tup [kV (Sum.inr (mkS ms[i].1)), V.ref c]) = H3 at sT tk eT eK3 eD3 sB3 hLK3 ⊢
      refine ⟨Tt, _, rfl, SqT.of eT, rfl, _, _, rfl, _, _, rfl, c, _, rfl, SqT.of (tk _ _ ec), rfl, _, _, rfl, _, _, rfl, rfl, rfl, ?_⟩
      have sp := si.sp (e := depT ms[i].2.2) m4 g1 g4
      refine ⟨_, rfl, _, rfl, _, rfl, bp, ws, ms[i].2.2, pp, ms[i].2.1, .ref D, sz, fm, 2 ^ b, b, depT ms[i].2.2, rfl, tk _ _ ebp, RepT.keep tk hbT, g2, SqT.of (tk _ _ epp), ⟨D, dv, rfl, eD3, hLK3⟩, sp, wfT_of si.ks m2, g3, Nat.le_refl _, fun H4 rv k4 sv4 => ?_⟩
      have eD4 := k4 _ _ eD3
      have eK4 := k4 _ _ eK3
      have hLK4 := fun n => (hLK3 n).same k4
      have hn : sz.lookup ms[i].1 = none := by
        have h := si.ks.len ms[i].1
        rw [m1] at h
        cases e : sz.lookup ms[i].1 with
        | none => rfl
        | some s0 => rw [e] at h; cases h
      have n1 : ∀ xs, H4 D ≠ some (.lst xs) := fun xs z => by rw [eD4] at z; cases z
      have n2 : ∀ xs, H4 D ≠ some (.tup xs) := fun xs z => by rw [eD4] at z; cases z
      refine ⟨_, rfl, _, rfl, D, _, rfl, DPut.k (k := Sum.inr (mkS ms[i].1)) eD4 (lt_size (by omega)), ?_⟩
      obtain ⟨D2, kv2, e2, a2, hb2⟩ := SzD.put (H := H4) (H' := upd H4 D (.dK (putK dv (Sum.inr (mkS ms[i].1)) rv))) (D := D) hLK4 hn (fun h => SV.upd n1 n2 h) (SV.upd n1 n2 sv4) upd_same
      have e2 := V.ref.inj e2
      subst e2
      rw [upd_same] at a2
      have a2 := HO.dK.inj (Option.some.inj a2)
      subst a2
      obtain ⟨fm', si'⟩ := si.step m1 m2 m3 m4 g1 g5 g6
      refine ⟨_, stM sz ms[i], fm', b', _, _, _, _, rfl, by rw [upd_ne hDk.symm]; exact eK4, fun x o hb e => ?_, upd_same, hb2, ?_, si', m5, g7, eF, ?_⟩
      · rw [upd_ne (fun z => by rw [z, nD] at e; cases e)]; exact k4 _ _ (sB3 x o hb e)
      · have := length_putK dv (Sum.inr (mkS ms[i].1)) rv; omega
      · rw [ekn, take_succ' gx]
        unfold knM
        rw [List.map_append]; rfl
    · rintro σ' H2 ⟨kn, sz, fm, b, dv, x2, x3, x4, rfl, eK2, sB2, eD2, hLK, ld, si, hcM, hgM, eF, ekn⟩
      rw [mv.1, List.drop_length] at hgM eF
      rw [mv.1, List.take_length] at ekn
      have eF : sz = szM ms [] := eF
      have hgM : b ≤ B := hgM
      refine ⟨eK2, _, rfl, ?_⟩
      have n1 : ∀ xs, H2 ka ≠ some (.lst xs) := fun xs z => by rw [eK2] at z; cases z
      have n2 : ∀ xs, H2 ka ≠ some (.tup xs) := fun xs z => by rw [eK2] at z; cases z
      refine q _ _ kn fm (fun x o e => ?_) ⟨D, dv, rfl, by rw [upd_ne hDk]; exact eD2, fun n => ?_⟩ ?_ ekn
      · by_cases z : x = ka
        · rw [z, upd_same]; rw [z, hk] at e; exact e
        · rw [upd_ne z]; exact sB2 x o z e
      · rw [← eF]; exact LK.upd n1 n2 (hLK n)
      · rw [← eF]; exact si.up hgM
end
end Vf

set_option Elab.async false
set_option linter.all false
set_option maxRecDepth 100000
set_option maxHeartbeats 4000000
namespace Vf
open PySem PySem.Spec PyProof.Rows L2 TL
/-! ### length_of -/
theorem mc_len : ∀ (t : Tr) (kn : Kn), chk t kn = none → kn.length ≤ 40 → kn.length + (mcT t).length ≤ 40
  | .nil, kn, _, hl => by
    show kn.length + 0 ≤ 40
    omega
  | .word _ r, kn, h, hl => by
    simp only [chk] at h
    simp only [mcT]
    exact mc_len r kn h hl
  | .call n a r, kn, h, hl => by
    simp only [chk] at h
    simp only [mcT]
    by_cases en : n = letN
    · rw [if_pos en] at h
      rw [if_pos en]
      have h0 : ltF kn a = none := by
        cases e : ltF kn a with
        | none => rfl
        | some f => rw [e] at h; cases h
      rw [h0] at h
      have h6 : chk r (ltK kn a) = none := h
      obtain ⟨m, ps, b, el, hm, hf, hb, hn, hk⟩ := lt_none h0
      have h7 := mc_len r _ h6 (ltK_len hl h0)
      rw [hk, List.length_append] at h7
      have e2 : mcA a = [(m, ps, b)] := by unfold mcA; rw [el]
      rw [e2, List.length_append]
      have e3 : [(m, ps.length)].length = 1 := rfl
      have e4 : [(m, ps, b)].length = 1 := rfl
      omega
    · rw [if_neg en] at h
      rw [if_neg en]
      have h0 : fauN [] kn (.call n a) = [] := by
        cases e : fauN [] kn (.call n a) with
        | nil => rfl
        | cons f fs => rw [e] at h; cases h
      rw [h0] at h
      exact mc_len r kn h hl
section
variable {P : Program} {w : World} {K : PySem.W.Frag} {mg : Str → Option Value} {base : Heap}
def spExpS : Sp := fun vs H Q _ => ∃ (p : Addr) (us : List V) (t : Tr) (sd : V) (sz : Sz) (kn : Kn) (fm : Fm) (b : Nat), vs = [.ref p, sd] ∧ H p = some (.tup us) ∧ RepT H t us ∧ us.length ≤ 100000 ∧ SzD H sd sz ∧ SzI kn sz fm b ∧ fauT [] kn (ndT t) = [] ∧
  wT (ndT t) ≤ 90000 ∧ depT (ndT t) < 20 ∧ b * (depT (ndT t) + 2) + 20 ≤ 1000000 ∧ ∀ H' r, Same H H' → PR H' r ((pszT [] sz [(0, 0)] (ndT t)).headD (0, 0)) → Q r H'
theorem ok_exp_size (T : Txt K mg) : FnOk P w K mg base CX0 44 T.a_expansion_size T.d_expansion_size ["tree", "sizes"] spExpS := by
  have G_size : FnOk P w K mg base CX0 43 T.a_size T.d_size ["tree", "params", "sizes"] (spSizeT K 20) := ok_sz T 20
  have G_without_definitions : FnOk P w K mg base CX0 2 T.a_without_definitions T.d_without_definitions ["tree"] spNoDefs := ok_no_defs T
  refine T.D_expansion_size.F.ok (k := 43) sc_expansion_size (fun vs H Q E h => ?_) (fun cdv A outer s H vs Q E hr h => ?_)
  · obtain ⟨p, us, t, sd, sz, kn, fm, b, rfl, _⟩ := h
    rfl
  · obtain ⟨p, us, t, sd, sz, kn, fm, b, rfl, hp, hR, hl, hsd, si, hf, hw, hd, be, q⟩ := h
    refine ⟨_, (pss_one (ps_ret (pe_ix ix_list (pe_call G_size (hr.mono (by decide)) (by rfl) T.D_size.G T.D_size.F.kp T.D_size.B .nil pass0 (pa_cons (pe_call G_without_definitions (hr.mono (by decide)) (by rfl) T.D_without_definitions.G T.D_without_definitions.F.kp T.D_without_definitions.B .nil pass0 (pa_cons (pv 0) pa_nil)) (pa_cons (pe_tup pa_nil) (pa_cons (pv 1) pa_nil)))) pe_int (fun _ _ => rfl)))), ?_⟩
    refine ⟨_, rfl, p, us, t, rfl, hp, hR, hl, fun H1 r ws k1 er hr1 => ?_⟩
    refine ⟨by show 0 ≤ sizeLine; decide, fun e ne => ?_⟩
    have s2 := same_upd (o := .tup []) (Same.refl H1) ne
    have wf := wfT_of si.ks hf
    have sp := si.sp (ps := []) (e := depT (ndT t)) List.nodup_nil (Nat.zero_le _) be
    refine ⟨_, rfl, r, ws, ndT t, e, [], sd, sz, fm, 2 ^ b, b, depT (ndT t), rfl, s2 _ _ er, RepT.keep (TKeep.same s2) hr1, hd, SqT.of upd_same, hsd.same (k1.trans s2), sp, wf, hw, Nat.le_refl _, fun H2 rv k2 sv => ?_⟩
    obtain ⟨l1, _, _⟩ := pszT_ok sp.o (ps := []) (σ := []) List.nodup_nil rfl (acc := [(0, 0)]) wf rfl (nn_cons_none (ps := []) (x := ((0 : Int), (0 : Int))) (Int.le_refl 0))
    obtain ⟨pl, vl, rfl, el, rl⟩ := sv
    have el2 : (0, 0) :: noneS [] = [((0 : Int), (0 : Int))] := rfl
    rw [el2] at rl
    generalize pszT [] sz [(0, 0)] (ndT t) = R at l1 rl q
    match R, l1, rl, q with
    | [x], _, rl, q =>
      obtain ⟨v0, e0, pr⟩ := rl.2 0 x rfl
      exact ⟨pl, vl, 0, v0, rfl, rfl, SqL.of el, atI_nat (j := 0) e0, q H2 v0 ((k1.trans s2).trans k2) pr⟩
def spNestingOf (T : Txt K mg) : Sp := fun vs H Q E => ∃ (p : Addr) (us : List V) (t : Tr), vs = [.ref p] ∧ H p = some (.tup us) ∧ RepT H t us ∧ us.length ≤ 100000 ∧ depT t < 40 ∧ BT 1000 t ∧ (toksT t).length ≤ 100000 ∧ (∀ f, chk t [] = some f → Rs T H E f) ∧
  (chk t [] = none → ∃ B, Grow (mcT t) [] 0 B ∧ wT (ndT t) ≤ 90000 ∧ depT (ndT t) < 20 ∧ B * (depT (ndT t) + 2) + 20 ≤ 1000000 ∧ ∀ H', Same H H' → Q (.int (ndL t [])) H')
theorem ok_nesting_of (T : Txt K mg) : FnOk P w K mg base (L2N.CX P w) 48 T.a_nesting_of T.d_nesting_of ["tree"] (spNestingOf T) := by
  have G_check_macros : FnOk P w K mg base (L2N.CX P w) 47 T.a_check_macros T.d_check_macros ["tree"] (spCheckM T) := ok_check_macros T
  have G_macros_of : FnOk P w K mg base (L2N.CX P w) 6 T.a_macros_of T.d_macros_of ["tree"] spMacrosOf := ok_macros_of T
  have G_sizes_of : FnOk P w K mg base CX0 44 T.a_sizes_of T.d_sizes_of ["macros"] spSizesOf := ok_sizes_of T
  have G_expansion_size : FnOk P w K mg base CX0 44 T.a_expansion_size T.d_expansion_size ["tree", "sizes"] spExpS := ok_exp_size T
  refine okN T.D_nesting_of.F sc_nesting_of (fun vs H Q E h => ?_) (fun cdv A outer s H vs Q E hr h => ?_)
  · obtain ⟨p, us, t, rfl, _⟩ := h
    rfl
  · obtain ⟨p, us, t, rfl, hp, hR, hul, hd, hB, hl, qE, q⟩ := h
    refine ⟨_, (pss_cons (ps_expr (pe_callS G_check_macros (hr.mono (by decide)) rfl T.D_check_macros.G T.D_check_macros.F.kp T.D_check_macros.B (fun σ => L2N.passAt (L2N.takes_of rfl rfl rfl rfl) σ) (pa_cons (pv 0) pa_nil)))
      (pss_one (ps_ret (pe_ix ix_tup (pe_call G_expansion_size (hr.mono (by decide)) (by rfl) T.D_expansion_size.G T.D_expansion_size.F.kp T.D_expansion_size.B .nil pass0 (pa_cons (pv 0) (pa_cons (pe_call G_sizes_of (hr.mono (by decide)) (by rfl) T.D_sizes_of.G T.D_sizes_of.F.kp T.D_sizes_of.B .nil pass0 (pa_cons (pe_callS G_macros_of (hr.mono (by decide)) rfl T.D_macros_of.G T.D_macros_of.F.kp T.D_macros_of.B (fun σ => L2N.passAt (L2N.takes_of rfl rfl rfl rfl) σ) (pa_cons (pv 0) pa_nil)) pa_nil)) pa_nil))) pe_int (fun _ _ => rfl))))), ?_⟩
    refine ⟨_, rfl, p, us, t, rfl, hp, hR, hd, hB, hl, fun hc H1 k1 => ?_, fun f hf => qE f hf⟩
    obtain ⟨B, g1, g2, g3, g4, q⟩ := q hc
    have hR1 := RepT.keep (TKeep.same k1) hR
    refine ⟨_, rfl, _, rfl, p, us, t, rfl, k1 _ _ hp, hR1, hB, hl, hc, fun H2 ka kvs k2 ek mv => ?_⟩
    have ml := mc_len t [] hc (by show 0 ≤ 40; decide)
    refine ⟨ka, kvs, mcT t, B, rfl, ek, mv, chk_mc t [] hc, g1, by
      have : ([] : Kn).length = 0 := rfl
      omega, fun H3 sd kn fm k3 hsd si ekn => ?_⟩
    obtain ⟨ks, _, _, h4, _⟩ := len_run ks_nil hc
    have k13 := (k1.trans k2).trans k3
    rw [← szs_mc] at hsd si
    refine ⟨p, us, t, sd, szs t [], kns t [], fms t [], B, rfl, k13 _ _ hp, RepT.keep (TKeep.same k13) hR, hul, hsd, ⟨ks, si.mx, si.sl⟩, h4, g2, g3, g4, fun H4 r k4 pr => ?_⟩
    obtain ⟨c, rfl, ec⟩ := pr
    have eL : ((pszT [] (szs t []) [(0, 0)] (ndT t)).headD (0, 0)).2 = ndL t [] := nd_same hc
    refine ⟨c, _, 1, _, rfl, rfl, SqT.of ec, rfl, ?_⟩
    rw [eL]
    exact q H4 (k13.trans k4)
end
end Vf

set_option Elab.async false
set_option linter.all false
set_option maxRecDepth 100000
set_option maxHeartbeats 4000000
namespace Vf
open PySem PySem.Spec PyProof.Rows L2 TL
/-! ### the law's own sizes -/
abbrev Sg := List (List Nat × Int)
mutual
def LwT (sg : Sg) (fm : Fm) : Tr → Prop
  | .nil => True
  | .word _ r => LwT sg fm r
  | .call n a r => (sg.lookup n = none → (formS fm n (lenA a)).length = lenA a + 1) ∧ LwA sg fm a ∧ LwT sg fm r
def LwA (sg : Sg) (fm : Fm) : Ar → Prop
  | .nil => True
  | .cons t r => LwT sg fm t ∧ LwA sg fm r
end
structure LBd (sg : Sg) (fm : Fm) (M : Nat) : Prop where
  hs : ∀ n x, sg.lookup n = some x → 0 ≤ x ∧ x ≤ 1
  m1 : 1 ≤ M
  hf : ∀ n f, fm.lookup n = some f → ∀ x ∈ f, 0 ≤ x ∧ x ≤ (M : Int)
theorem form_bd {sg : Sg} {fm : Fm} {M : Nat} (h : LBd sg fm M) {n : List Nat} {k : Nat} : ∀ x ∈ formS fm n k, 0 ≤ x ∧ x ≤ (M : Int) := by
  unfold formS
  cases e : fm.lookup n with
  | some f => exact h.hf n f e
  | none =>
    intro x hx
    have hx : x ∈ List.replicate (k + 1) (1 : Int) := hx
    rw [(List.mem_replicate.mp hx).2]
    have := h.m1
    exact ⟨by decide, by omega⟩
theorem dot_bd {M : Nat} : ∀ {cs vs : List Int}, (∀ x ∈ cs, 0 ≤ x ∧ x ≤ (M : Int)) → (∀ x ∈ vs, 0 ≤ x) → 0 ≤ dot cs vs ∧ dot cs vs ≤ (M : Int) * vs.sum
  | [], vs, _, hv => by
    refine ⟨Int.le_refl 0, ?_⟩
    show (0 : Int) ≤ _
    refine Int.mul_nonneg (by omega) ?_
    induction vs with
    | nil => exact Int.le_refl 0
    | cons v vs ih => rw [List.sum_cons]; have := hv v List.mem_cons_self; have := ih fun x hx => hv x (List.mem_cons_of_mem _ hx); omega
  | _ :: _, [], _, _ => ⟨Int.le_refl 0, by show (0 : Int) ≤ _; simp⟩
  | c :: cs, v :: vs, hc, hv => by
    have ⟨h1, h2⟩ := dot_bd (cs := cs) (vs := vs) (fun x hx => hc x (List.mem_cons_of_mem _ hx)) fun x hx => hv x (List.mem_cons_of_mem _ hx)
    have c0 := hc c List.mem_cons_self
    have v0 := hv v List.mem_cons_self
    have m1 : 0 ≤ c * v := Int.mul_nonneg c0.1 v0
    have m2 : c * v ≤ (M : Int) * v := Int.mul_le_mul_of_nonneg_right c0.2 v0
    show 0 ≤ c * v + dot cs vs ∧ c * v + dot cs vs ≤ (M : Int) * (v :: vs).sum
    rw [List.sum_cons, Int.mul_add]
    omega
def lszC (sg : Sg) (fm : Fm) (n : List Nat) (a : Ar) : Int := match sg.lookup n with
  | some x => x
  | none => (formS fm n (lenA a)).headD 0 + dot (formS fm n (lenA a)).tail (lszA sg fm a)
theorem lszT_call (sg : Sg) (fm : Fm) (n : List Nat) (a : Ar) (r : Tr) : lszT sg fm (.call n a r) = lszC sg fm n a + lszT sg fm r := by
  simp only [lszT]
  unfold lszC
  cases sg.lookup n <;> rfl
section
variable {sg : Sg} {fm : Fm} {M : Nat}
mutual
theorem lszT_bd (h : LBd sg fm M) : ∀ {t : Tr} {e : Nat}, depT t ≤ e → 0 ≤ lszT sg fm t ∧ lszT sg fm t ≤ ((wT t * M ^ (e + 1) : Nat) : Int)
  | .nil, e, _ => by simp only [lszT, wT]; exact ⟨Int.le_refl 0, by omega⟩
  | .word _ r, e, hd => by
    simp only [depT] at hd
    have ⟨h1, h2⟩ := lszT_bd h (t := r) (e := e) hd
    have hp : 1 ≤ M ^ (e + 1) := Nat.one_le_pow _ _ h.m1
    simp only [lszT, wT]
    rw [Nat.add_mul]
    exact ⟨by omega, by omega⟩
  | .call n a r, e, hd => by
    simp only [depT] at hd
    have ⟨h1, h2⟩ := lszT_bd h (t := r) (e := e) (by omega)
    have ⟨a1, a2⟩ := lszA_bd h (a := a) (e := e) (by omega)
    have hp : 1 ≤ M ^ (e + 1) := Nat.one_le_pow _ _ h.m1
    have hpM : M ≤ M ^ (e + 1) := by
      have := Nat.pow_le_pow_right h.m1 (show 1 ≤ e + 1 by omega)
      rwa [Nat.pow_one] at this
    have key : 0 ≤ lszC sg fm n a ∧ lszC sg fm n a ≤ (((1 + wA a) * M ^ (e + 1) : Nat) : Int) := by
      unfold lszC
      cases es : sg.lookup n with
      | some x =>
        have := h.hs n x es
        have h9 : 1 ≤ (1 + wA a) * M ^ (e + 1) := Nat.mul_pos (by omega) hp
        exact ⟨this.1, by show x ≤ _; omega⟩
      | none =>
        have fb := form_bd h (n := n) (k := lenA a)
        have hh : 0 ≤ (formS fm n (lenA a)).headD 0 ∧ (formS fm n (lenA a)).headD 0 ≤ (M : Int) := by
          cases hF : formS fm n (lenA a) with
          | nil => exact ⟨Int.le_refl 0, by show (0 : Int) ≤ _; omega⟩
          | cons x f => exact fb x (by rw [hF]; exact List.mem_cons_self)
        have ⟨d1, d2⟩ := dot_bd (M := M) (cs := (formS fm n (lenA a)).tail) (vs := lszA sg fm a) (fun x hx => fb x (List.mem_of_mem_tail hx)) a1
        refine ⟨by show 0 ≤ _ + _; omega, ?_⟩
        have e3 : (M : Int) * (lszA sg fm a).sum ≤ (M : Int) * ((wA a * M ^ e : Nat) : Int) := Int.mul_le_mul_of_nonneg_left a2 (by omega)
        have e4 : (M : Int) * ((wA a * M ^ e : Nat) : Int) = ((wA a * M ^ (e + 1) : Nat) : Int) := by
          rw [← Int.natCast_mul]
          congr 1
          rw [Nat.pow_succ, Nat.mul_left_comm, Nat.mul_comm M]
        show _ + _ ≤ _
        rw [Nat.add_mul, Nat.one_mul]
        omega
    rw [lszT_call]
    simp only [wT]
    rw [Nat.add_mul (1 + wA a)]
    exact ⟨by omega, by omega⟩
theorem lszA_bd (h : LBd sg fm M) : ∀ {a : Ar} {e : Nat}, depA a ≤ e → (∀ x ∈ lszA sg fm a, 0 ≤ x) ∧ (lszA sg fm a).sum ≤ ((wA a * M ^ e : Nat) : Int)
  | .nil, e, _ => by simp only [lszA, wA]; exact ⟨fun _ h => (by cases h), by show (0 : Int) ≤ _; omega⟩
  | .cons t r, e, hd => by
    simp only [depA] at hd
    have ⟨h1, h2⟩ := lszT_bd h (t := t) (e := e - 1) (by omega)
    have ⟨a1, a2⟩ := lszA_bd h (a := r) (e := e) (by omega)
    rw [show e - 1 + 1 = e by omega] at h2
    simp only [lszA, wA]
    refine ⟨fun x hx => ?_, ?_⟩
    · rcases List.mem_cons.mp hx with z | z
      · rw [z]; exact h1
      · exact a1 x z
    · rw [List.sum_cons, Nat.add_mul, Nat.add_mul]; omega
end
end
theorem sum_nn : ∀ {vs : List Int}, (∀ x ∈ vs, 0 ≤ x) → 0 ≤ vs.sum
  | [], _ => Int.le_refl 0
  | v :: vs, h => by
    have h0 := h v List.mem_cons_self
    have h1 := sum_nn (vs := vs) fun x hx => h x (List.mem_cons_of_mem _ hx)
    rw [List.sum_cons]; omega
theorem sum_ge : ∀ {vs : List Int}, (∀ x ∈ vs, 0 ≤ x) → ∀ {v : Int}, v ∈ vs → v ≤ vs.sum
  | [], _, _, hv => by cases hv
  | x :: vs, h, v, hv => by
    have h0 := h x List.mem_cons_self
    have h1 := sum_nn (vs := vs) fun y hy => h y (List.mem_cons_of_mem _ hy)
    rw [List.sum_cons]
    rcases List.mem_cons.mp hv with z | z
    · omega
    · have := sum_ge (vs := vs) (fun y hy => h y (List.mem_cons_of_mem _ hy)) z
      omega
theorem cmul_g {M b e w0 : Nat} (hb : M ≤ 2 ^ b) (be : b * (e + 2) + 20 ≤ 1000000) {p x : Int} (p0 : 0 ≤ p) (pM : p ≤ (M : Int)) (x0 : 0 ≤ x) (hx : x ≤ ((w0 * M ^ e : Nat) : Int)) (hw : w0 ≤ 90000) : CMulW p x := by
  have h1 : M ^ e ≤ 2 ^ (b * e) := by rw [Nat.pow_mul]; exact Nat.pow_le_pow_left hb e
  have h2 : w0 * M ^ e < 2 ^ (17 + b * e) := by
    rw [Nat.pow_add]
    have h3 : w0 * M ^ e ≤ 90000 * 2 ^ (b * e) := Nat.mul_le_mul hw h1
    have h4 : 90000 * 2 ^ (b * e) < 2 ^ 17 * 2 ^ (b * e) := Nat.mul_lt_mul_of_pos_right (by decide) (Nat.pow_pos (by decide))
    omega
  have h5 : p.natAbs < 2 ^ (b + 1) := by
    have : M < 2 ^ (b + 1) := by
      rw [Nat.pow_succ]
      have := Nat.pow_pos (n := b) (show 0 < 2 by decide)
      omega
    omega
  have h6 : x.natAbs < 2 ^ (17 + b * e) := by omega
  have h7 : b * (e + 2) = b * e + 2 * b := by rw [Nat.mul_add]; omega
  exact wide_mul h5 h6 (by omega) (by omega) (by omega)
theorem dot_nil : ∀ cs : List Int, dot cs [] = 0
  | [] => rfl
  | _ :: _ => rfl
theorem dot_succ : ∀ {cs vs : List Int} {k : Nat} {c v : Int}, cs[k]? = some c → vs[k]? = some v → dot (cs.take (k + 1)) (vs.take (k + 1)) = dot (cs.take k) (vs.take k) + c * v
  | [], _, _, _, _, h, _ => by simp at h
  | _ :: _, [], _, _, _, _, h => by simp at h
  | c :: cs, v :: vs, 0, c', v', h1, h2 => by
    have e1 : c = c' := by simpa using h1
    have e2 : v = v' := by simpa using h2
    subst e1 e2
    show c * v + dot (cs.take 0) (vs.take 0) = 0 + c * v
    rw [List.take_zero, List.take_zero]
    show c * v + 0 = 0 + c * v
    omega
  | c :: cs, v :: vs, k + 1, c', v', h1, h2 => by
    have ih := dot_succ (cs := cs) (vs := vs) (k := k) (by simpa using h1) (by simpa using h2)
    show c * v + dot (cs.take (k + 1)) (vs.take (k + 1)) = c * v + dot (cs.take k) (vs.take k) + c' * v'
    rw [ih]; omega
theorem lszA_len (sg : Sg) (fm : Fm) : ∀ a : Ar, (lszA sg fm a).length = lenA a
  | .nil => rfl
  | .cons t r => by simp only [lszA, lenA, List.length_cons]; rw [lszA_len sg fm r]
def SgV (kvs : List (Key × V)) (sg : Sg) : Prop := ∀ n : List Nat, valV kvs (Sum.inr (mkS n)) = (sg.lookup n).map V.int
def LKf (H : Hp) : Option V → Option (List Int) → Prop
  | none, none => True
  | some v, some f => ∃ p, v = .ref p ∧ H p = some (.lst (f.map V.int))
  | _, _ => False
theorem LKf.same {H H' : Hp} (k : Same H H') : ∀ {a : Option V} {b : Option (List Int)}, LKf H a b → LKf H' a b
  | none, none, _ => trivial
  | some _, some _, ⟨p, e, h⟩ => ⟨p, e, k _ _ h⟩
  | none, some _, h => h
  | some _, none, h => h
def FmD (H : Hp) (fd : Addr) (fm : Fm) : Prop := ∃ kvf, H fd = some (.dK kvf) ∧ ∀ n : List Nat, LKf H (valV kvf (Sum.inr (mkS n))) (fm.lookup n)
theorem FmD.same {H H' : Hp} {fd : Addr} {fm : Fm} (h : FmD H fd fm) (k : Same H H') : FmD H' fd fm := by
  obtain ⟨kvf, e, h⟩ := h
  exact ⟨kvf, k _ _ e, fun n => (h n).same k⟩
def lszN (sg : Sg) (fm : Fm) : Nd → Int
  | .word _ => 1
  | .call n a => lszC sg fm n a
theorem lsz_tr {sg : Sg} {fm : Fm} {nd : Nd} {r : Tr} : lszT sg fm (nd.tr r) = lszN sg fm nd + lszT sg fm r := by
  cases nd with
  | word z => simp only [Nd.tr, lszT, lszN]
  | call n a => simp only [Nd.tr, lszN]; exact lszT_call sg fm n a r
def LwN (sg : Sg) (fm : Fm) : Nd → Prop
  | .word _ => True
  | .call n a => (sg.lookup n = none → (formS fm n (lenA a)).length = lenA a + 1) ∧ LwA sg fm a
theorem lw_tr {sg : Sg} {fm : Fm} {nd : Nd} {r : Tr} (h : LwT sg fm (nd.tr r)) : LwN sg fm nd ∧ LwT sg fm r := by
  cases nd with
  | word z => simp only [Nd.tr, LwT] at h; exact ⟨trivial, h⟩
  | call n a => simp only [Nd.tr, LwT] at h; exact ⟨⟨h.1, h.2.1⟩, h.2.2⟩
section
variable {P : Program} {w : World} {K : PySem.W.Frag} {mg : Str → Option Value} {base : Heap}
def spLSize (n : Nat) : Sp := fun vs H Q _ => ∃ (tp sd fd : Addr) (us : List V) (t : Tr) (kvs : List (Key × V)) (sg : Sg) (fm : Fm) (M b e : Nat), vs = [.ref tp, .ref sd, .ref fd] ∧ H tp = some (.tup us) ∧ RepT H t us ∧ depT t < n ∧ H sd = some (.dK kvs) ∧ SgV kvs sg ∧ FmD H fd fm ∧
  LwT sg fm t ∧ LBd sg fm M ∧ M ≤ 2 ^ b ∧ b * (e + 2) + 20 ≤ 1000000 ∧ wT t ≤ 90000 ∧ depT t ≤ e ∧ ∀ H', Same H H' → Q (.int (lszT sg fm t)) H'
theorem ok_law_size (T : Txt K mg) : ∀ n : Nat, FnOk P w K mg base CX0 (n + 1) T.a_law_size T.d_law_size ["_law_tree_here", "_law_sizes", "_law_forms"] (spLSize n)
  | 0 => by
    refine T.D_law_size.F.ok (k := 0) sc_law_size (fun vs H Q E h => ?_) (fun cdv A outer s H vs Q E hr h => ?_)
    · obtain ⟨tp, sd, fd, us, t, kvs, sg, fm, M, b, e, rfl, _⟩ := h
      rfl
    · obtain ⟨tp, sd, fd, us, t, kvs, sg, fm, M, b, e, rfl, _, _, hd, _⟩ := h
      exact absurd hd (Nat.not_lt_zero _)
  | n + 1 => by
    have G_law_size : FnOk P w K mg base CX0 (n + 1) T.a_law_size T.d_law_size ["_law_tree_here", "_law_sizes", "_law_forms"] (spLSize n) := ok_law_size T n
    refine T.D_law_size.F.ok (k := n + 1) sc_law_size (fun vs H Q E h => ?_) (fun cdv A outer s H vs Q E hr h => ?_)
    · obtain ⟨tp, sd, fd, us, t, kvs, sg, fm, M, b, e, rfl, _⟩ := h
      rfl
    · obtain ⟨tp, sd, fd, us, t, kvs, sg, fm, M, b, e, rfl, etp, hR, hdn, esd, hsg, hfd, lw, bd, hb, be, hw, hde, q⟩ := h
      refine ⟨_, (pss_cons (ps_set (i := 3) sc_law_size.nd rfl (.inl rfl) pe_int)
      (pss_cons (ps_for PassesOwn.never rfl (pi_tup (pv 0)) (pg_name (i := 4) sc_law_size.nd rfl (.inl rfl)) (pss_one (ps_if (pt_cmpR op_eq (pe_ix ix_tup (pv 4) pe_int (fun _ _ => rfl)) pe_str (nomark _)) (pss_one (ps_set (i := 3) sc_law_size.nd rfl (.inl rfl) (pe_op op_add (pv 3) pe_int))) (pss_one (ps_if (pt_cmp (pc_din (hu1 hr) (pe_ix ix_tup (pv 4) pe_int (fun _ _ => rfl)) (pv 1))) (pss_one (ps_set (i := 3) sc_law_size.nd rfl (.inl rfl) (pe_op op_add (pv 3) (pe_dget (hu1 hr) (pv 1) (pe_ix ix_tup (pv 4) pe_int (fun _ _ => rfl)) (fun _ _ => rfl))))) (pss_cons (ps_setLc (i := 5) (own := [("_law_part", 8)]) (g := gName 8) (tt := tYes) rfl sc_law_size.nd rfl rfl (sw_true rfl rfl rfl (by decide +kernel)) (pi_tup (pe_ix ix_tup (pv 4) pe_int (fun _ _ => rfl))) (blkOk_by (own := [("_law_part", 8)]) (N := ["_law_tree_here", "_law_sizes", "_law_forms", "_law_total", "_law_node_here", "_law_inner", "_law_form_here", "_law_k", "_law_part"]) (sc := defScope s_law_size) (by decide +kernel)) (fun _ _ _ _ _ => (pg_name (i := 8) sc_law_size.nd rfl (.inl rfl))) (fun _ _ _ _ _ => pts_nil) (fun _ _ _ _ _ => (pe_call G_law_size (hr.mono (by omega)) (by rfl) T.D_law_size.G T.D_law_size.F.kp T.D_law_size.B .nil pass0 (pa_cons (pv 8) (pa_cons (pv 1) (pa_cons (pv 2) pa_nil))))))
      (pss_cons (ps_set (i := 6) sc_law_size.nd rfl (.inl rfl) (pe_ifExp (pt_cmp (pc_din (hu1 hr) (pe_ix ix_tup (pv 4) pe_int (fun _ _ => rfl)) (pv 2))) (pe_dget (hu1 hr) (pv 2) (pe_ix ix_tup (pv 4) pe_int (fun _ _ => rfl)) (fun _ _ => rfl)) (pe_op op_rep (pe_lst (pa_cons pe_int pa_nil)) (pe_op op_add (pe_callB call_len_seq (by rfl) T.n_len PySem.boot_len (pa_cons (pv 5) pa_nil)) pe_int))))
      (pss_cons (ps_set (i := 3) sc_law_size.nd rfl (.inl rfl) (pe_op op_add (pv 3) (pe_ix ix_list (pv 6) pe_int (fun _ _ => rfl))))
      (pss_one (ps_for PassesOwn.never rfl (pi_range1 (by rfl) T.n_range (pa_cons (pe_callB call_len_seq (by rfl) T.n_len PySem.boot_len (pa_cons (pv 5) pa_nil)) pa_nil)) (pg_name (i := 7) sc_law_size.nd rfl (.inl rfl)) (pss_one (ps_set (i := 3) sc_law_size.nd rfl (.inl rfl) (pe_op op_add (pv 3) (pe_op op_mulW (pe_ix ix_list (pv 6) (pe_op op_add (pv 7) pe_int) (fun _ _ => rfl)) (pe_ix ix_list (pv 5) (pv 7) (fun _ _ => rfl))))))))))))))))
      (pss_one (ps_ret (pv 3))))), ?_⟩
      refine ⟨_, rfl, tp, rfl, ⟨_, SqT.of etp⟩, ?_⟩
      refine for_tup (K := K) (a := tp) (xs := us) (fun i σ' H' => ∃ (r : Tr) (z : Int) (x4 x5 x6 x7 : Option V), σ' = [some (.ref tp), some (.ref sd), some (.ref fd), some (.int z), x4, x5, x6, x7, none] ∧ Same H H' ∧ RepT H r (us.drop i) ∧ z + lszT sg fm r = lszT sg fm t ∧ LwT sg fm r ∧ wT r ≤ 90000 ∧ depT r < n + 1 ∧ depT r ≤ e)
        ⟨t, 0, none, none, none, none, rfl, Same.refl _, hR, Int.zero_add _, lw, hw, hdn, hde⟩ ?_ ?_ ?_
      · rintro i σ' H' _ ⟨_, _, _, _, _, _, _, k, _⟩
        exact SqT.of (k _ _ etp)
      · rintro i x σ' H1 hx ⟨r, z, x4, x5, x6, x7, rfl, k1, hr1, ez, lw1, hw1, hd1, hd2⟩
        rw [drop_x hx] at hr1
        obtain ⟨nd, r2, rfl, hnd, hr2⟩ := hr1.first
        obtain ⟨w1, w2⟩ := lw_tr lw1
        rw [w_tr] at hw1
        rw [depT_tr] at hd1 hd2
        rw [lsz_tr] at ez
        have hnd1 := hnd.keep (TKeep.same k1)
        cases nd with
        | word wz =>
          obtain ⟨p, rfl, ep⟩ := hnd1
          refine ⟨_, rfl, p, _, _, _, rfl, rfl, SqT.of ep, rfl, rfl, true, word_eq_word, ?_⟩
          refine ⟨_, rfl, _, _, rfl, rfl, r2, z + 1, _, _, _, _, rfl, k1, hr2, ?_, w2, by omega, by omega, by omega⟩
          simp only [lszN] at ez
          omega
        | call nm a =>
          obtain ⟨p, qa, ua, rfl, ep, eq, hA⟩ := hnd1
          have el := hA.lenA
          have esd1 := k1 _ _ esd
          have hfd1 := hfd.same k1
          refine ⟨_, rfl, p, _, _, _, rfl, rfl, SqT.of ep, rfl, rfl, false, call_ne_word, ?_⟩
          have hg : DGet H1 sd (sV nm) ((sg.lookup nm).map V.int) := by rw [← hsg nm]; exact DGet.k (k := Sum.inr (mkS nm)) esd1
          refine ⟨_, rfl, p, _, _, _, rfl, rfl, SqT.of ep, rfl, _, rfl, sd, _, rfl, hg, ?_⟩
          simp only [lszN] at ez
          cases es : sg.lookup nm with
          | some v =>
            rw [es] at hg
            have eC : lszC sg fm nm a = v := by unfold lszC; rw [es]
            rw [eC] at ez
            refine ⟨true, rfl, _, rfl, _, rfl, _, rfl, p, _, _, _, rfl, rfl, SqT.of ep, rfl, sd, _, rfl, hg, _, _, rfl, rfl, r2, z + v, _, _, _, _, rfl, k1, hr2, by omega, w2, by omega, by omega, by omega⟩
          | none =>
            have hdA : depA a < n + 1 := by simp only [depN] at hd1; omega
            have hdE : depA a ≤ e := by simp only [depN] at hd2; omega
            have hwA : 1 + wA a ≤ 90000 := by simp only [wN] at hw1; omega
            obtain ⟨lwn, lwa⟩ := w1
            have lwn := lwn es
            have eC : lszC sg fm nm a = (formS fm nm (lenA a)).headD 0 + dot (formS fm nm (lenA a)).tail (lszA sg fm a) := by unfold lszC; rw [es]
            rw [eC] at ez
            have ⟨a1, a2⟩ := lszA_bd bd (a := a) (e := e) hdE
            have fb := form_bd bd (n := nm) (k := lenA a)
            refine ⟨false, rfl, _, rfl, p, _, _, _, rfl, rfl, SqT.of ep, rfl, qa, rfl, ⟨_, SqT.of eq⟩, fun D nD => ?_⟩
            refine lc_tup (K := K) (a := qa) (xs := ua) (fun i H' => ∃ (ra : Ar) (acc : List Int), Same H1 H' ∧ H' D = some (.lst (acc.map V.int)) ∧ acc.length = i ∧ RepA H1 ra (ua.drop i) ∧ acc ++ lszA sg fm ra = lszA sg fm a ∧ LwA sg fm ra ∧ wA ra ≤ 90000 ∧ depA ra < n + 1 ∧ depA ra ≤ e)
              ⟨a, [], same_upd (Same.refl H1) nD, upd_same, rfl, hA, rfl, lwa, by omega, hdA, hdE⟩ ?_ ?_ ?_
            · rintro i H' _ ⟨_, _, k, _⟩
              exact SqT.of (k _ _ eq)
            · rintro i x H2 hx2 ⟨ra, acc, k2, eD, la, hra, ea, lra, wra, dra, dre⟩
              rw [drop_x hx2] at hra
              obtain ⟨ta, ra2, rfl, ⟨tq, wq, rfl, etq, hta⟩, hra2⟩ := hra.first
              simp only [LwA] at lra
              simp only [wA] at wra
              simp only [depA] at dra dre
              simp only [lszA] at ea
              have k12 := k1.trans k2
              have hi9 : i < ua.length := (List.getElem?_eq_some_iff.mp hx2).1
              have hlA := lenA_le a
              refine ⟨rfl, _, rfl, _, rfl, _, rfl, tq, sd, fd, wq, ta, kvs, sg, fm, M, b, e, rfl, k2 _ _ etq, RepT.keep (TKeep.same k2) hta, by omega, k12 _ _ esd, hsg, hfd.same k12, lra.1, bd, hb, be, by omega, by omega, fun H3 k3 => ?_⟩
              refine ⟨_, k3 _ _ eD, by rw [List.length_map, la]; exact lt_size (by omega), ra2, acc ++ [lszT sg fm ta], same_mut (k2.trans k3) nD, by rw [upd_same, List.map_append]; rfl, by rw [List.length_append, la]; rfl, hra2, by rw [List.append_assoc]; exact ea, lra.2, by omega, by omega, by omega⟩
            rintro H2 ⟨ra, acc, k2, eD, la, hra, ea, _⟩
            rw [List.drop_length] at hra
            have er := hra.last
            subst er
            have ea : acc ++ [] = lszA sg fm a := ea
            rw [List.append_nil] at ea
            subst ea
            obtain ⟨kvf, ef, hL⟩ := hfd1.same k2
            have hLn := hL nm
            have hgf : DGet H2 fd (sV nm) (valV kvf (Sum.inr (mkS nm))) := DGet.k (k := Sum.inr (mkS nm)) ef
            have ep2 := k2 _ _ ep
            refine ⟨_, rfl, p, _, _, _, rfl, rfl, SqT.of ep2, rfl, _, rfl, fd, _, rfl, hgf, ?_⟩
            cases eu : fm.lookup nm with
            | some f =>
              rw [eu] at hLn
              cases ev : valV kvf (Sum.inr (mkS nm)) with
              | none => rw [ev] at hLn; exact hLn.elim
              | some fv =>
                rw [ev] at hLn hgf
                obtain ⟨pf, rfl, eP0⟩ := hLn
                have eS : formS fm nm (lenA a) = f := by unfold formS; rw [eu]
                refine ⟨true, rfl, _, rfl, _, rfl, p, _, _, _, rfl, rfl, SqT.of ep2, rfl, fd, _, rfl, hgf, ?_⟩
                obtain ⟨H3, hH3⟩ : ∃ H3, H3 = H2 := ⟨_, rfl⟩
                have k3 : Same H2 H3 := by rw [hH3]; exact Same.refl _
                have eP : H3 pf = some (.lst ((formS fm nm (lenA a)).map V.int)) := by rw [hH3, eS]; exact eP0
                rw [← hH3]
                obtain ⟨f0, ft, eF⟩ : ∃ f0 ft, formS fm nm (lenA a) = f0 :: ft := by
                  cases h : formS fm nm (lenA a) with
                  | nil => rw [h] at lwn; cases lwn
                  | cons f0 ft => exact ⟨f0, ft, rfl⟩
                rw [eF] at lwn fb eP
                rw [eF] at ez
                have lft : ft.length = lenA a := Nat.succ.inj lwn
                have lvs := lszA_len sg fm a
                have eD3 := k3 _ _ eD
                have k13 := (k1.trans k2).trans k3
                have hlA := lenA_le a
                refine ⟨_, rfl, _, rfl, pf, _, 0, _, rfl, rfl, SqL.of eP, atI_nat (j := 0) rfl, _, _, rfl, rfl, ?_⟩
                refine ⟨_, rfl, D, _, rfl, .inl (SqL.of eD3), _, rfl, by rw [List.length_map]; omega, by rw [List.length_map]; omega, ?_⟩
                have enn : ((((lszA sg fm a).map V.int).length : Nat) : Int).toNat = (lszA sg fm a).length := by rw [List.length_map]; omega
                refine for_it walk_range (fun k σ' H' => ∃ (x7 : Option V), σ' = [some (.ref tp), some (.ref sd), some (.ref fd), some (.int (z + f0 + dot (ft.take k) ((lszA sg fm a).take k))), some (.ref p), some (.ref D), some (.ref pf), x7, none] ∧ H' = H3) ⟨x7, ?_, rfl⟩ (fun _ _ _ _ _ => trivial) ?_ ?_
                · rw [List.take_zero, List.take_zero]
                  show _ = [_, _, _, some (V.int (z + f0 + 0)), _, _, _, _, _]
                  rw [Int.add_zero]; rfl
                · rintro k x σ' H4 H5 hk ⟨x7, rfl, rfl⟩ ⟨rfl, hx⟩
                  have hk : k < (lszA sg fm a).length := by omega
                  have hx : x = .int (k : Int) := by rw [hx]; show V.int (0 + (k : Int)) = _; rw [Int.zero_add]
                  subst hx
                  have hk2 : k < ft.length := by omega
                  have gf : ft[k]? = some ft[k] := List.getElem?_eq_getElem hk2
                  have gv : (lszA sg fm a)[k]? = some (lszA sg fm a)[k] := List.getElem?_eq_getElem hk
                  have gf2 : ((f0 :: ft).map V.int)[k + 1]? = some (.int ft[k]) := by rw [List.getElem?_map]; show ft[k]?.map V.int = _; rw [gf]; rfl
                  have gv2 : ((lszA sg fm a).map V.int)[k]? = some (.int (lszA sg fm a)[k]) := by rw [List.getElem?_map, gv]; rfl
                  have ek : (k : Int) + 1 = ((k + 1 : Nat) : Int) := rfl
                  have mf : ft[k] ∈ f0 :: ft := List.mem_cons_of_mem _ (List.getElem_mem hk2)
                  have mv2 : (lszA sg fm a)[k] ∈ lszA sg fm a := List.getElem_mem hk
                  have cm := cmul_g hb be (fb _ mf).1 (fb _ mf).2 (a1 _ mv2) (Int.le_trans (sum_ge a1 mv2) a2) (show wA a ≤ 90000 by omega)
                  refine ⟨_, rfl, _, rfl, _, rfl, _, _, rfl, rfl, pf, _, _, _, rfl, rfl, SqL.of eP, by rw [ek]; exact atI_nat gf2, _, rfl, _, rfl, D, _, _, _, rfl, rfl, SqL.of eD3, atI_nat gv2, _, _, rfl, rfl, cm, _, _, rfl, rfl, some (.int (k : Int)), ?_, rfl⟩
                  rw [dot_succ gf gv, ← Int.add_assoc]; rfl
                · rintro σ' H4 ⟨x7, rfl, rfl⟩
                  refine ⟨r2, z + f0 + dot ft (lszA sg fm a), some (.ref p), some (.ref D), some (.ref pf), x7, ?_, k13, hr2, ?_, w2, by omega, by omega, by omega⟩
                  · rw [enn, List.take_of_length_le (show ft.length ≤ (lszA sg fm a).length by omega), List.take_length]
                  · rw [← ez]
                    show z + f0 + dot ft (lszA sg fm a) + lszT sg fm r2 = z + (f0 + dot ft (lszA sg fm a) + lszT sg fm r2)
                    omega
            | none =>
              rw [eu] at hLn
              cases ev : valV kvf (Sum.inr (mkS nm)) with
              | some fv => rw [ev] at hLn; exact hLn.elim
              | none =>
                have eS : formS fm nm (lenA a) = List.replicate (lenA a + 1) 1 := by unfold formS; rw [eu]
                refine ⟨false, rfl, by show 1 ≤ sizeLine; decide, fun L nL => ?_⟩
                have u1 := same_upd (o := .lst [V.int 1]) (Same.refl H2) nL
                have lvs0 := lszA_len sg fm a
                have hlA0 := lenA_le a
                refine ⟨_, rfl, D, _, rfl, .inl (SqL.of (u1 _ _ eD)), _, _, rfl, rfl, L, _, _, rfl, rfl, upd_same, by omega, by rw [List.length_map]; omega, ?_, fun pf npf => ?_⟩
                · rw [List.length_map]; exact Nat.le_of_lt (lt_size (by rw [List.length_singleton]; omega))
                have efl : (List.replicate ((((lszA sg fm a).map V.int).length : Nat) + 1 : Int).toNat [V.int 1]).flatten = (formS fm nm (lenA a)).map V.int := by
                  rw [List.length_map, List.flatten_replicate_singleton, eS, List.map_replicate, lvs0]
                  congr 1
                rw [efl]
                have u2 := same_upd (o := .lst ((formS fm nm (lenA a)).map V.int)) (Same.refl _) npf
                have k3 : Same H2 _ := u1.trans u2
                have eP : upd (upd H2 L (.lst [V.int 1])) pf (.lst ((formS fm nm (lenA a)).map V.int)) pf = some (.lst ((formS fm nm (lenA a)).map V.int)) := upd_same
                generalize upd (upd H2 L (.lst [V.int 1])) pf (.lst ((formS fm nm (lenA a)).map V.int)) = H3 at k3 eP ⊢
                obtain ⟨f0, ft, eF⟩ : ∃ f0 ft, formS fm nm (lenA a) = f0 :: ft := by
                  cases h : formS fm nm (lenA a) with
                  | nil => rw [h] at lwn; cases lwn
                  | cons f0 ft => exact ⟨f0, ft, rfl⟩
                rw [eF] at lwn fb eP
                rw [eF] at ez
                have lft : ft.length = lenA a := Nat.succ.inj lwn
                have lvs := lszA_len sg fm a
                have eD3 := k3 _ _ eD
                have k13 := (k1.trans k2).trans k3
                have hlA := lenA_le a
                refine ⟨_, rfl, _, rfl, pf, _, 0, _, rfl, rfl, SqL.of eP, atI_nat (j := 0) rfl, _, _, rfl, rfl, ?_⟩
                refine ⟨_, rfl, D, _, rfl, .inl (SqL.of eD3), _, rfl, by rw [List.length_map]; omega, by rw [List.length_map]; omega, ?_⟩
                have enn : ((((lszA sg fm a).map V.int).length : Nat) : Int).toNat = (lszA sg fm a).length := by rw [List.length_map]; omega
                refine for_it walk_range (fun k σ' H' => ∃ (x7 : Option V), σ' = [some (.ref tp), some (.ref sd), some (.ref fd), some (.int (z + f0 + dot (ft.take k) ((lszA sg fm a).take k))), some (.ref p), some (.ref D), some (.ref pf), x7, none] ∧ H' = H3) ⟨x7, ?_, rfl⟩ (fun _ _ _ _ _ => trivial) ?_ ?_
                · rw [List.take_zero, List.take_zero]
                  show _ = [_, _, _, some (V.int (z + f0 + 0)), _, _, _, _, _]
                  rw [Int.add_zero]; rfl
                · rintro k x σ' H4 H5 hk ⟨x7, rfl, rfl⟩ ⟨rfl, hx⟩
                  have hk : k < (lszA sg fm a).length := by omega
                  have hx : x = .int (k : Int) := by rw [hx]; show V.int (0 + (k : Int)) = _; rw [Int.zero_add]
                  subst hx
                  have hk2 : k < ft.length := by omega
                  have gf : ft[k]? = some ft[k] := List.getElem?_eq_getElem hk2
                  have gv : (lszA sg fm a)[k]? = some (lszA sg fm a)[k] := List.getElem?_eq_getElem hk
                  have gf2 : ((f0 :: ft).map V.int)[k + 1]? = some (.int ft[k]) := by rw [List.getElem?_map]; show ft[k]?.map V.int = _; rw [gf]; rfl
                  have gv2 : ((lszA sg fm a).map V.int)[k]? = some (.int (lszA sg fm a)[k]) := by rw [List.getElem?_map, gv]; rfl
                  have ek : (k : Int) + 1 = ((k + 1 : Nat) : Int) := rfl
                  have mf : ft[k] ∈ f0 :: ft := List.mem_cons_of_mem _ (List.getElem_mem hk2)
                  have mv2 : (lszA sg fm a)[k] ∈ lszA sg fm a := List.getElem_mem hk
                  have cm := cmul_g hb be (fb _ mf).1 (fb _ mf).2 (a1 _ mv2) (Int.le_trans (sum_ge a1 mv2) a2) (show wA a ≤ 90000 by omega)
                  refine ⟨_, rfl, _, rfl, _, rfl, _, _, rfl, rfl, pf, _, _, _, rfl, rfl, SqL.of eP, by rw [ek]; exact atI_nat gf2, _, rfl, _, rfl, D, _, _, _, rfl, rfl, SqL.of eD3, atI_nat gv2, _, _, rfl, rfl, cm, _, _, rfl, rfl, some (.int (k : Int)), ?_, rfl⟩
                  rw [dot_succ gf gv, ← Int.add_assoc]; rfl
                · rintro σ' H4 ⟨x7, rfl, rfl⟩
                  refine ⟨r2, z + f0 + dot ft (lszA sg fm a), some (.ref p), some (.ref D), some (.ref pf), x7, ?_, k13, hr2, ?_, w2, by omega, by omega, by omega⟩
                  · rw [enn, List.take_of_length_le (show ft.length ≤ (lszA sg fm a).length by omega), List.take_length]
                  · rw [← ez]
                    show z + f0 + dot ft (lszA sg fm a) + lszT sg fm r2 = z + (f0 + dot ft (lszA sg fm a) + lszT sg fm r2)
                    omega
      · rintro σ' H1 ⟨r, z, x4, x5, x6, x7, rfl, k1, hr1, ez, _⟩
        rw [List.drop_length] at hr1
        have er := hr1.last
        subst er
        have ez : z + 0 = lszT sg fm t := ez
        rw [Int.add_zero] at ez
        subst ez
        exact ⟨_, rfl, q H1 k1⟩
end
end Vf

set_option Elab.async false
set_option linter.all false
set_option maxRecDepth 100000
set_option maxHeartbeats 4000000
namespace Vf
open PySem PySem.Spec PyProof.Rows L2 TL
theorem look_mapf {ps : List (List Nat)} {f : List Nat → Int} {n : List Nat} : (ps.map fun q => (q, f q)).lookup n = if n ∈ ps then some (f n) else none := by
  induction ps with
  | nil => rfl
  | cons p ps ih =>
    rw [List.map_cons, List.lookup_cons]
    by_cases e : n = p
    · subst e
      have e2 : (n == n) = true := beq_self_eq_true n
      rw [e2, if_pos List.mem_cons_self]
    · have e2 : (n == p) = false := by simpa using e
      rw [e2, ih]
      by_cases h : n ∈ ps
      · rw [if_pos h, if_pos (List.mem_cons_of_mem _ h)]
      · rw [if_neg h, if_neg fun z => (List.mem_cons.mp z).elim e h]
theorem formL_len (ps : List (List Nat)) (b : Tr) (fm : Fm) : (formL ps b fm).length = ps.length + 1 := by
  unfold formL
  rw [List.length_cons, List.length_map]
theorem bd_of {fm : Fm} {M : Nat} (m1 : 1 ≤ M) (hf : ∀ n f, fm.lookup n = some f → ∀ x ∈ f, 0 ≤ x ∧ x ≤ (M : Int)) {ps : List (List Nat)} {f : List Nat → Int} (h : ∀ q, 0 ≤ f q ∧ f q ≤ 1) : LBd (ps.map fun q => (q, f q)) fm M := by
  refine ⟨fun n x e => ?_, m1, hf⟩
  rw [look_mapf] at e
  by_cases hn : n ∈ ps
  · rw [if_pos hn] at e
    rw [← Option.some.inj e]; exact h n
  · rw [if_neg hn] at e; cases e
def formP (ps : List (List Nat)) (b : Tr) (fm : Fm) (i : Nat) : List Int := lszT (ps.map fun q => (q, 0)) fm b :: (ps.take i).map fun p => lszT (ps.map fun q => (q, if q = p then 1 else 0)) fm b - lszT (ps.map fun q => (q, 0)) fm b
theorem formP_succ {ps : List (List Nat)} {b : Tr} {fm : Fm} {i : Nat} {p : List Nat} (h : ps[i]? = some p) : formP ps b fm (i + 1) = formP ps b fm i ++ [lszT (ps.map fun q => (q, if q = p then 1 else 0)) fm b - lszT (ps.map fun q => (q, 0)) fm b] := by
  unfold formP
  rw [take_succ' h, List.map_append]; rfl
theorem same_none {H H' : Hp} {a : Addr} (k : Same H H') (n : H' a = none) : H a = none := by
  cases e : H a with
  | none => rfl
  | some o => have := k _ _ e; rw [n] at this; cases this
section
variable {P : Program} {w : World} {K : PySem.W.Frag} {mg : Str → Option Value} {base : Heap}
def spLForm : Sp := fun vs H Q _ => ∃ (np bp fd : Addr) (m : List Nat) (ps : List (List Nat)) (ws : List V) (t : Tr) (fm : Fm) (M b : Nat), vs = [.ref np, .ref bp, .ref fd] ∧ H np = some (.lst ((m :: ps).map sV)) ∧ H bp = some (.tup ws) ∧ RepT H t ws ∧ depT t < 20 ∧ FmD H fd fm ∧
  ps.length ≤ 100 ∧ (∀ f : List Nat → Int, LwT (ps.map fun q => (q, f q)) fm t) ∧ 1 ≤ M ∧ (∀ n f, fm.lookup n = some f → ∀ x ∈ f, 0 ≤ x ∧ x ≤ (M : Int)) ∧ M ≤ 2 ^ b ∧ b * (depT t + 2) + 20 ≤ 1000000 ∧ wT t ≤ 90000 ∧
  ∀ H' r, Same H H' → H r = none → H' r = some (.lst ((formL ps t fm).map V.int)) → Q (.ref r) H'
theorem ok_law_form (T : Txt K mg) : FnOk P w K mg base CX0 22 T.a_law_form T.d_law_form ["_law_names_here", "_law_body", "_law_forms"] spLForm := by
  have G_law_size : FnOk P w K mg base CX0 21 T.a_law_size T.d_law_size ["_law_tree_here", "_law_sizes", "_law_forms"] (spLSize 20) := ok_law_size T 20
  refine T.D_law_form.F.ok (k := 21) sc_law_form (fun vs H Q E h => ?_) (fun cdv A outer s H vs Q E hr h => ?_)
  · obtain ⟨np, bp, fd, m, ps, ws, t, fm, M, b, rfl, _⟩ := h
    rfl
  · obtain ⟨np, bp, fd, m, ps, ws, t, fm, M, b, rfl, enp, ebp, hR, hd, hfd, hpl, lw, m1, hf, hb, be, hw, q⟩ := h
    refine ⟨_, (pss_cons (ps_set (i := 3) sc_law_form.nd rfl (.inl rfl) pe_dnewK)
      (pss_cons (ps_for PassesOwn.never rfl (pi_list (pe_slice sl_list (pv 0) (po_some pe_int) po_none)) (pg_name (i := 4) sc_law_form.nd rfl (.inl rfl)) (pss_one (ps_dput (hu1 hr) (pv 3) (pv 4) pe_int rfl)))
      (pss_cons (ps_set (i := 5) sc_law_form.nd rfl (.inl rfl) (pe_lst (pa_cons (pe_call G_law_size (hr.mono (by decide)) (by rfl) T.D_law_size.G T.D_law_size.F.kp T.D_law_size.B .nil pass0 (pa_cons (pv 1) (pa_cons (pv 3) (pa_cons (pv 2) pa_nil)))) pa_nil)))
      (pss_cons (ps_for PassesOwn.never rfl (pi_list (pe_slice sl_list (pv 0) (po_some pe_int) po_none)) (pg_name (i := 4) sc_law_form.nd rfl (.inl rfl)) (pss_cons (ps_dput (hu1 hr) (pv 3) (pv 4) pe_int rfl)
      (pss_cons (ps_expr (pe_bm PySem.F.plainAttrs_list PySem.F.slot_list_append PySem.F.type_list_append mt_append (pv 5) (pa_cons (pe_op op_sub (pe_call G_law_size (hr.mono (by decide)) (by rfl) T.D_law_size.G T.D_law_size.F.kp T.D_law_size.B .nil pass0 (pa_cons (pv 1) (pa_cons (pv 3) (pa_cons (pv 2) pa_nil)))) (pe_ix ix_list (pv 5) pe_int (fun _ _ => rfl))) pa_nil)))
      (pss_one (ps_dput (hu1 hr) (pv 3) (pv 4) pe_int rfl)))))
      (pss_one (ps_ret (pv 5))))))), ?_⟩
    intro D nD
    have s0 := same_upd (o := .dK []) (Same.refl H) nD
    refine ⟨_, rfl, _, rfl, np, _, rfl, SqL.of (s0 _ _ enp), fun p1 np1 => ?_⟩
    rw [show cutV ((m :: ps).map sV) (some 1) none = ps.map sV from cut_hi (ts := m :: ps) (i := 1) (by rw [List.length_cons]; omega)]
    have s1 := same_upd (o := .lst (ps.map sV)) (Same.refl _) np1
    have e1 : upd (upd H D (.dK [])) p1 (.lst (ps.map sV)) p1 = some (.lst (ps.map sV)) := upd_same
    have eD1 := s1 _ _ (upd_same (H := H) (a := D) (o := .dK []))
    have s01 := s0.trans s1
    generalize upd (upd H D (.dK [])) p1 (.lst (ps.map sV)) = H1 at s1 e1 eD1 s01 ⊢
    have p1D : p1 ≠ D := fun z => by rw [z, eD1] at e1; cases e1
    refine ⟨p1, rfl, ⟨_, SqL.of e1⟩, ?_⟩
    refine for_it (walk_list (K := K) (a := p1) (xs := ps.map sV)) (fun i σ' H' => ∃ (kvs : List (Key × V)) (x4 : Option V), σ' = [some (.ref np), some (.ref bp), some (.ref fd), some (.ref D), x4, none] ∧ Same H H' ∧ H' p1 = some (.lst (ps.map sV)) ∧ H' D = some (.dK kvs) ∧ kvs.length ≤ i ∧ ∀ n : List Nat, valV kvs (Sum.inr (mkS n)) = if n ∈ ps.take i then some (.int 0) else none)
      ⟨[], none, rfl, s01, e1, eD1, Nat.le_refl _, fun n => by rw [List.take_zero, if_neg (by simp)]; rfl⟩ ?_ ?_ ?_
    · rintro i σ' H' _ ⟨_, _, _, _, e, _⟩
      exact SqL.of e
    · rintro i x σ' H2 H3 hi ⟨kvs, x4, rfl, k2, ep, eD, lk, hv⟩ ⟨rfl, hx⟩
      rw [List.getElem?_map] at hx
      obtain ⟨pm, hpm, rfl⟩ : ∃ pm, ps[i]? = some pm ∧ sV pm = x := by
        cases h : ps[i]? with
        | none => rw [h] at hx; cases hx
        | some z => rw [h] at hx; exact ⟨z, rfl, Option.some.inj hx⟩
      have hi2 : i < ps.length := (List.getElem?_eq_some_iff.mp hpm).1
      refine ⟨_, rfl, _, rfl, D, _, rfl, DPut.k (k := Sum.inr (mkS pm)) eD (lt_size (by omega)), _, _, rfl, same_mut k2 nD, by rw [upd_ne p1D]; exact ep, upd_same, Nat.le_trans (length_putK _ _ _) (by omega), fun n => ?_⟩
      rw [valV_put, take_succ' hpm]
      by_cases e : n = pm
      · rw [if_pos (by rw [e]), if_pos (by rw [e]; simp)]
      · rw [if_neg (fun z => e (mkS_inj (Sum.inr.inj z))), hv n]
        by_cases h : n ∈ ps.take i
        · rw [if_pos h, if_pos (List.mem_append_left _ h)]
        · rw [if_neg h, if_neg fun z => (List.mem_append.mp z).elim h fun y => e (List.mem_singleton.mp y)]
    · rintro σ' H2 ⟨kvs, x4, rfl, k2, ep, eD, lk, hv⟩
      rw [List.length_map, List.take_length] at hv
      rw [List.length_map] at lk
      have sg0 : SgV kvs (ps.map fun q => (q, (0 : Int))) := fun n => by
        rw [hv n, look_mapf (f := fun _ => 0)]
        by_cases h : n ∈ ps
        · rw [if_pos h, if_pos h]; rfl
        · rw [if_neg h, if_neg h]; rfl
      have bd0 := bd_of (ps := ps) (f := fun _ => 0) m1 hf (fun _ => ⟨Int.le_refl 0, by decide⟩)
      refine ⟨_, rfl, _, rfl, _, rfl, bp, D, fd, ws, t, kvs, _, fm, M, b, depT t, rfl, k2 _ _ ebp, RepT.keep (TKeep.same k2) hR, hd, eD, sg0, hfd.same k2, lw fun _ => 0, bd0, hb, be, hw, Nat.le_refl _, fun H3 k3 => ?_⟩
      have k23 := k2.trans k3
      have eD3 := k3 _ _ eD
      refine ⟨by show 1 ≤ sizeLine; decide, fun R nR => ?_⟩
      have nR0 := same_none k23 nR
      have s4 := same_upd (o := .lst [V.int (lszT (ps.map fun q => (q, (0 : Int))) fm t)]) (Same.refl H3) nR
      have eR4 : upd H3 R (.lst [V.int (lszT (ps.map fun q => (q, (0 : Int))) fm t)]) R = some (.lst [V.int (lszT (ps.map fun q => (q, (0 : Int))) fm t)]) := upd_same
      have k4 := k23.trans s4
      have eD4 := s4 _ _ eD3
      generalize upd H3 R (.lst [V.int (lszT (ps.map fun q => (q, (0 : Int))) fm t)]) = H4 at s4 eR4 k4 eD4 ⊢
      have hRD : R ≠ D := fun z => by rw [z, eD3] at nR; cases nR
      refine ⟨_, rfl, _, rfl, np, _, rfl, SqL.of (k4 _ _ enp), fun p2 np2 => ?_⟩
      rw [show cutV ((m :: ps).map sV) (some 1) none = ps.map sV from cut_hi (ts := m :: ps) (i := 1) (by rw [List.length_cons]; omega)]
      have s5 := same_upd (o := .lst (ps.map sV)) (Same.refl _) np2
      have e5 : upd H4 p2 (.lst (ps.map sV)) p2 = some (.lst (ps.map sV)) := upd_same
      have k5 := k4.trans s5
      have eD5 := s5 _ _ eD4
      have eR5 := s5 _ _ eR4
      have p2D : p2 ≠ D := fun z => by rw [z, eD4] at np2; cases np2
      have p2R : p2 ≠ R := fun z => by rw [z, eR4] at np2; cases np2
      generalize upd H4 p2 (.lst (ps.map sV)) = H5 at s5 e5 k5 eD5 eR5 ⊢
      refine ⟨p2, rfl, ⟨_, SqL.of e5⟩, ?_⟩
      refine for_it (walk_list (K := K) (a := p2) (xs := ps.map sV)) (fun i σ' H' => ∃ (kvs : List (Key × V)) (x4 : Option V), σ' = [some (.ref np), some (.ref bp), some (.ref fd), some (.ref D), x4, some (.ref R)] ∧ Same H H' ∧ H' p2 = some (.lst (ps.map sV)) ∧ H' D = some (.dK kvs) ∧ H' R = some (.lst ((formP ps t fm i).map V.int)) ∧ kvs.length ≤ 100 + 2 * i ∧ SgV kvs (ps.map fun q => (q, (0 : Int))))
        ⟨kvs, x4, rfl, k5, e5, eD5, by unfold formP; rw [List.take_zero]; exact eR5, by omega, sg0⟩ ?_ ?_ ?_
      · rintro i σ' H' _ ⟨_, _, _, _, e, _⟩
        exact SqL.of e
      · rintro i x σ' H6 H7 hi ⟨kvs, x4, rfl, k6, ep, eD, eR, lk, sgk⟩ ⟨rfl, hx⟩
        rw [List.getElem?_map] at hx
        obtain ⟨pm, hpm, rfl⟩ : ∃ pm, ps[i]? = some pm ∧ sV pm = x := by
          cases h : ps[i]? with
          | none => rw [h] at hx; cases hx
          | some z => rw [h] at hx; exact ⟨z, rfl, Option.some.inj hx⟩
        have hi2 : i < ps.length := (List.getElem?_eq_some_iff.mp hpm).1
        have hmem : pm ∈ ps := List.mem_of_getElem? hpm
        refine ⟨_, rfl, _, rfl, D, _, rfl, DPut.k (k := Sum.inr (mkS pm)) eD (lt_size (by omega)), ?_⟩
        have sg1 : SgV (putK kvs (Sum.inr (mkS pm)) (.int 1)) (ps.map fun q => (q, if q = pm then (1 : Int) else 0)) := fun n => by
          rw [valV_put, look_mapf (f := fun q => if q = pm then (1 : Int) else 0)]
          by_cases e : n = pm
          · rw [if_pos (by rw [e]), if_pos (by rw [e]; exact hmem), if_pos e]; rfl
          · rw [if_neg (fun z => e (mkS_inj (Sum.inr.inj z))), sgk n, look_mapf (f := fun _ => 0)]
            by_cases h : n ∈ ps
            · rw [if_pos h, if_pos h, if_neg e]
            · rw [if_neg h, if_neg h]
        have bd1 := bd_of (ps := ps) (f := fun q => if q = pm then (1 : Int) else 0) m1 hf (fun q => by
          show 0 ≤ (if q = pm then (1 : Int) else 0) ∧ (if q = pm then (1 : Int) else 0) ≤ 1
          by_cases e : q = pm
          · rw [if_pos e]; exact ⟨by decide, by decide⟩
          · rw [if_neg e]; exact ⟨by decide, by decide⟩)
        have k8 := same_mut (o := .dK (putK kvs (Sum.inr (mkS pm)) (V.int 1))) k6 nD
        have eD8 : upd H7 D (.dK (putK kvs (Sum.inr (mkS pm)) (V.int 1))) D = some (.dK (putK kvs (Sum.inr (mkS pm)) (V.int 1))) := upd_same
        have eR8 : upd H7 D (.dK (putK kvs (Sum.inr (mkS pm)) (V.int 1))) R = some (.lst ((formP ps t fm i).map V.int)) := by rw [upd_ne hRD]; exact eR
        have ep8 : upd H7 D (.dK (putK kvs (Sum.inr (mkS pm)) (V.int 1))) p2 = some (.lst (ps.map sV)) := by rw [upd_ne p2D]; exact ep
        generalize upd H7 D (.dK (putK kvs (Sum.inr (mkS pm)) (V.int 1))) = H8 at k8 eD8 eR8 ep8 ⊢
        have lk8 : (putK kvs (Sum.inr (mkS pm)) (V.int 1)).length ≤ 100 + 2 * i + 1 := Nat.le_trans (length_putK _ _ _) (by omega)
        have lfP : (formP ps t fm i).length = i + 1 := by
          unfold formP
          rw [List.length_cons, List.length_map, List.length_take]; omega
        refine ⟨.ref R, rfl, .inl ⟨rfl, _, .inl (.inl eR8)⟩, _, rfl, _, rfl, _, rfl, bp, D, fd, ws, t, _, _, fm, M, b, depT t, rfl, k8 _ _ ebp, RepT.keep (TKeep.same k8) hR, hd, eD8, sg1, hfd.same k8, lw fun q => if q = pm then (1 : Int) else 0, bd1, hb, be, hw, Nat.le_refl _, fun H9 k9 => ?_⟩
        have eR9 := k9 _ _ eR8
        have eD9 := k9 _ _ eD8
        have ep9 := k9 _ _ ep8
        have k09 := k8.trans k9
        refine ⟨_, rfl, R, _, 0, _, rfl, rfl, SqL.of eR9, atI_nat (j := 0) rfl, _, _, rfl, rfl, R, _, _, rfl, rfl, eR9, by rw [List.length_map, lfP]; exact lt_size (by omega), ?_⟩
        have k10 := same_mut (o := .lst ((formP ps t fm i).map V.int ++ [V.int (lszT (ps.map fun q => (q, if q = pm then (1 : Int) else 0)) fm t - lszT (ps.map fun q => (q, (0 : Int))) fm t)])) k09 nR0
        have eR10 : upd H9 R (.lst ((formP ps t fm i).map V.int ++ [V.int (lszT (ps.map fun q => (q, if q = pm then (1 : Int) else 0)) fm t - lszT (ps.map fun q => (q, (0 : Int))) fm t)])) R = some (.lst ((formP ps t fm (i + 1)).map V.int)) := by
          rw [upd_same, formP_succ hpm, List.map_append]; rfl
        have eD10 : upd H9 R (.lst ((formP ps t fm i).map V.int ++ [V.int (lszT (ps.map fun q => (q, if q = pm then (1 : Int) else 0)) fm t - lszT (ps.map fun q => (q, (0 : Int))) fm t)])) D = some (.dK (putK kvs (Sum.inr (mkS pm)) (V.int 1))) := by rw [upd_ne hRD.symm]; exact eD9
        have ep10 : upd H9 R (.lst ((formP ps t fm i).map V.int ++ [V.int (lszT (ps.map fun q => (q, if q = pm then (1 : Int) else 0)) fm t - lszT (ps.map fun q => (q, (0 : Int))) fm t)])) p2 = some (.lst (ps.map sV)) := by rw [upd_ne p2R]; exact ep9
        generalize hH10 : upd H9 R (.lst ((formP ps t fm i).map V.int ++ [V.int (lszT (ps.map fun q => (q, if q = pm then (1 : Int) else 0)) fm t - lszT (ps.map fun q => (q, (0 : Int))) fm t)])) = H10 at k10 eR10 eD10 ep10
        have hg : upd H9 R (.lst ((formP ps t fm i).map V.int ++ [V.int (lszT (ps.map fun q => (q, if q = pm then (1 : Int) else 0)) fm t - lszT (ps.map fun q => (q, (0 : Int))) fm t)])) = H10 := hH10
        subst hH10
        refine ⟨_, rfl, _, rfl, D, _, rfl, DPut.k (k := Sum.inr (mkS pm)) eD10 (lt_size (by omega)), _, some (sV pm), rfl, same_mut k10 nD, by rw [upd_ne p2D]; exact ep10, upd_same, by rw [upd_ne hRD]; exact eR10, Nat.le_trans (length_putK _ _ _) (by omega), fun n => ?_⟩
        rw [valV_put, look_mapf (f := fun _ => 0)]
        by_cases e : n = pm
        · rw [if_pos (by rw [e]), if_pos (by rw [e]; exact hmem)]; rfl
        · rw [if_neg (fun z => e (mkS_inj (Sum.inr.inj z))), sg1 n, look_mapf (f := fun q => if q = pm then (1 : Int) else 0)]
          by_cases h : n ∈ ps
          · rw [if_pos h, if_pos h, if_neg e]
          · rw [if_neg h, if_neg h]
      · rintro σ' H6 ⟨kvs, x4, rfl, k6, ep, eD, eR, lk, sgk⟩
        have eF : formP ps t fm (ps.map sV).length = formL ps t fm := by
          unfold formP formL
          rw [List.length_map, List.take_length]
        rw [eF] at eR
        exact ⟨_, rfl, q H6 R k6 nR0 eR⟩
end
end Vf

set_option Elab.async false
set_option linter.all false
set_option maxRecDepth 100000
set_option maxHeartbeats 4000000
namespace Vf
open PySem PySem.Spec PyProof.Rows L2 TL
/-! ### the law's own length -/
theorem form_len {ps : List (List Nat)} {sz : Sz} {fm : Fm} (o : SzOk sz fm) {n : List Nat} {k : Nat} (w : WfN ps sz n k) (hn : n ∉ ps) : (formS fm n k).length = k + 1 := by
  rw [← whole_fst o]
  unfold fsS
  rw [List.length_map, whole_len w hn]
mutual
theorem lw_of {ps : List (List Nat)} {sz : Sz} {fm : Fm} {sg : Sg} (o : SzOk sz fm) (hs : ∀ n, sg.lookup n = none → n ∉ ps) : ∀ {t : Tr}, WfT ps sz t → LwT sg fm t
  | .nil, _ => by simp only [LwT]
  | .word _ r, w => by
    simp only [WfT] at w
    simp only [LwT]
    exact lw_of o hs w
  | .call n a r, w => by
    simp only [WfT] at w
    simp only [LwT]
    exact ⟨fun e => form_len o w.1 (hs n e), lwA_of o hs w.2.1, lw_of o hs w.2.2⟩
theorem lwA_of {ps : List (List Nat)} {sz : Sz} {fm : Fm} {sg : Sg} (o : SzOk sz fm) (hs : ∀ n, sg.lookup n = none → n ∉ ps) : ∀ {a : Ar}, WfA ps sz a → LwA sg fm a
  | .nil, _ => by simp only [LwA]
  | .cons t r, w => by
    simp only [WfA] at w
    simp only [LwA]
    exact ⟨lw_of o hs w.1, lwA_of o hs w.2⟩
end
theorem SzI.fbd {kn : Kn} {sz : Sz} {fm : Fm} {b : Nat} (h : SzI kn sz fm b) : ∀ n f, fm.lookup n = some f → ∀ x ∈ f, 0 ≤ x ∧ x ≤ ((2 ^ b : Nat) : Int) := by
  intro n f e x hx
  have h1 := h.ks.ok.fst n
  rw [e] at h1
  cases es : sz.lookup n with
  | none => rw [es] at h1; cases h1
  | some s =>
    rw [es] at h1
    have h1 : fsS s = f := Option.some.inj h1
    rw [← h1] at hx
    obtain ⟨y, hy, rfl⟩ := List.mem_map.mp hx
    exact ⟨(h.ks.ok.nn n s es).1 y hy, h.mx.2 n s es y hy⟩
theorem SzI.step2 {kn : Kn} {sz : Sz} {fm : Fm} {b b' : Nat} (h : SzI kn sz fm b) {x : Mc} (hm : kn.lookup x.1 = none) (hf : fauT x.2.1 kn x.2.2 = []) (hb : x.1 ∉ bnN) (hn : x.2.1.Nodup) (pl : x.2.1.length ≤ 10) (hbb : b ≤ b') (hL : LeS (pszT x.2.1 sz ((0, 0) :: noneS x.2.1) x.2.2) (2 ^ b')) :
    SzI (kn ++ [(x.1, x.2.1.length)]) (stM sz x) (fm ++ [(x.1, formL x.2.1 x.2.2 fm)]) b' := by
  obtain ⟨f1, f2, f3⟩ := form_ok h.ks.ok hn (wfT_of h.ks hf)
  obtain ⟨fm', si⟩ := h.step hm hf hb hn pl hbb hL
  have ks := h.ks.step hm hb f2 f3
  rw [f1] at ks
  exact ⟨ks, si.mx, si.sl⟩
theorem grow_le : ∀ {ms : List Mc} {sz : Sz} {b B : Nat}, Grow ms sz b B → b ≤ B
  | [], _, _, _, h => h
  | x :: r, sz, b, B, h => by
    obtain ⟨_, _, _, _, b', h1, _, h2⟩ := h
    exact Nat.le_trans h1 (grow_le h2)
theorem LKf.upd {H : Hp} {D : Addr} {o : HO} (h1 : ∀ xs, H D ≠ some (.lst xs)) : ∀ {a : Option V} {b : Option (List Int)}, LKf H a b → LKf (L2.upd H D o) a b
  | none, none, _ => trivial
  | some _, some f, ⟨p, e, h⟩ => ⟨p, e, by rw [upd_ne (fun z => h1 _ (by rw [← z]; exact h))]; exact h⟩
  | none, some _, h => h
  | some _, none, h => h
theorem RepT.oneN {H : Hp} {x : V} {nd : Nd} (h : NV H x nd) : RepT H (nd.tr .nil) [x] := by
  cases nd with
  | word z =>
    obtain ⟨p, rfl, e⟩ := h
    simp only [Nd.tr, RepT]
    exact ⟨p, [], rfl, e, rfl⟩
  | call n a =>
    obtain ⟨p, q, us, rfl, e, e2, hA⟩ := h
    simp only [Nd.tr, RepT]
    exact ⟨p, q, us, [], rfl, e, e2, hA, rfl⟩
theorem lenT_trN (nd : Nd) (r : Tr) : lenT (nd.tr r) = lenT r + 1 := by
  cases nd <;> rfl
section
variable {P : Program} {w : World} {K : PySem.W.Frag} {mg : Str → Option Value} {base : Heap}
end
end Vf

set_option Elab.async false
set_option linter.all false
set_option maxRecDepth 100000
set_option maxHeartbeats 4000000
namespace Vf
open PySem PySem.Spec PyProof.Rows L2 TL
/-! ### the law's own depths -/
mutual
def LdT (sg : Sg) (rc : Fm) : Tr → Prop
  | .nil => True
  | .word _ r => LdT sg rc r
  | .call n a r => (sg.lookup n = none → (reachS rc n (lenA a)).length = lenA a + 1) ∧ LdA sg rc a ∧ LdT sg rc r
def LdA (sg : Sg) (rc : Fm) : Ar → Prop
  | .nil => True
  | .cons t r => LdT sg rc t ∧ LdA sg rc r
end
def ldC (sg : Sg) (rc : Fm) (n : List Nat) (a : Ar) : Int := match sg.lookup n with
  | some x => x
  | none => ldW (reachS rc n (lenA a)) (ldA sg rc a)
theorem ldT_call (sg : Sg) (rc : Fm) (n : List Nat) (a : Ar) (r : Tr) : ldT sg rc (.call n a r) = max (ldC sg rc n a) (ldT sg rc r) := by
  simp only [ldT]
  unfold ldC
  cases sg.lookup n <;> rfl
def ldN (sg : Sg) (rc : Fm) : Nd → Int
  | .word _ => 0
  | .call n a => ldC sg rc n a
theorem ld_tr {sg : Sg} {rc : Fm} {nd : Nd} {r : Tr} : ldT sg rc (nd.tr r) = max (ldN sg rc nd) (ldT sg rc r) := by
  cases nd with
  | word z =>
    have := ldT_nn (sg := sg) (rc := rc) r
    simp only [Nd.tr, ldT, ldN]; omega
  | call n a => simp only [Nd.tr, ldN]; exact ldT_call sg rc n a r
def LdN (sg : Sg) (rc : Fm) : Nd → Prop
  | .word _ => True
  | .call n a => (sg.lookup n = none → (reachS rc n (lenA a)).length = lenA a + 1) ∧ LdA sg rc a
theorem ldw_tr {sg : Sg} {rc : Fm} {nd : Nd} {r : Tr} (h : LdT sg rc (nd.tr r)) : LdN sg rc nd ∧ LdT sg rc r := by
  cases nd with
  | word z => simp only [Nd.tr, LdT] at h; exact ⟨trivial, h⟩
  | call n a => simp only [Nd.tr, LdT] at h; exact ⟨⟨h.1, h.2.1⟩, h.2.2⟩
theorem ldA_len (sg : Sg) (rc : Fm) : ∀ a : Ar, (ldA sg rc a).length = lenA a
  | .nil => rfl
  | .cons t r => by simp only [ldA, lenA, List.length_cons]; rw [ldA_len sg rc r]
theorem mxs_nn : ∀ cs vs : List Int, 0 ≤ mxs cs vs
  | [], _ => by simp only [mxs]; exact Int.le_refl 0
  | _ :: _, [] => by simp only [mxs]; exact Int.le_refl 0
  | c :: cs, v :: vs => by
    have := mxs_nn cs vs
    simp only [mxs]; omega
theorem mxs_succ : ∀ {cs vs : List Int} {k : Nat} {c v : Int}, cs[k]? = some c → vs[k]? = some v → mxs (cs.take (k + 1)) (vs.take (k + 1)) = max (mxs (cs.take k) (vs.take k)) (if c ≥ 0 then c + v else 0)
  | [], _, _, _, _, h, _ => by simp at h
  | _ :: _, [], _, _, _, _, h => by simp at h
  | c :: cs, v :: vs, 0, c', v', h1, h2 => by
    have e1 : c = c' := by simpa using h1
    have e2 : v = v' := by simpa using h2
    subst e1 e2
    show max (if c ≥ 0 then c + v else 0) (mxs (cs.take 0) (vs.take 0)) = max 0 (if c ≥ 0 then c + v else 0)
    rw [List.take_zero, List.take_zero]
    show max _ (0 : Int) = _
    omega
  | c :: cs, v :: vs, k + 1, c', v', h1, h2 => by
    have ih := mxs_succ (cs := cs) (vs := vs) (k := k) (by simpa using h1) (by simpa using h2)
    show max (if c ≥ 0 then c + v else 0) (mxs (cs.take (k + 1)) (vs.take (k + 1))) = max (max (if c ≥ 0 then c + v else 0) (mxs (cs.take k) (vs.take k))) (if c' ≥ 0 then c' + v' else 0)
    rw [ih]; omega
section
variable {P : Program} {w : World} {K : PySem.W.Frag} {mg : Str → Option Value} {base : Heap}
def spDeep (n : Nat) : Sp := fun vs H Q _ => ∃ (tp sd fd : Addr) (us : List V) (t : Tr) (kvs : List (Key × V)) (sg : Sg) (rc : Fm), vs = [.ref tp, .ref sd, .ref fd] ∧ H tp = some (.tup us) ∧ RepT H t us ∧ depT t < n ∧ H sd = some (.dK kvs) ∧ SgV kvs sg ∧ FmD H fd rc ∧
  LdT sg rc t ∧ wT t ≤ 90000 ∧ ∀ H', Same H H' → Q (.int (ldT sg rc t)) H'
theorem ok_law_deep (T : Txt K mg) : ∀ n : Nat, FnOk P w K mg base CX0 (n + 1) T.a_law_deep T.d_law_deep ["_law_tree_here", "_law_deeps", "_law_reaches"] (spDeep n)
  | 0 => by
    refine T.D_law_deep.F.ok (k := 0) sc_law_deep (fun vs H Q E h => ?_) (fun cdv A outer s H vs Q E hr h => ?_)
    · obtain ⟨tp, sd, fd, us, t, kvs, sg, rc, rfl, _⟩ := h
      rfl
    · obtain ⟨tp, sd, fd, us, t, kvs, sg, rc, rfl, _, _, hd, _⟩ := h
      exact absurd hd (Nat.not_lt_zero _)
  | n + 1 => by
    have G_law_deep : FnOk P w K mg base CX0 (n + 1) T.a_law_deep T.d_law_deep ["_law_tree_here", "_law_deeps", "_law_reaches"] (spDeep n) := ok_law_deep T n
    refine T.D_law_deep.F.ok (k := n + 1) sc_law_deep (fun vs H Q E h => ?_) (fun cdv A outer s H vs Q E hr h => ?_)
    · obtain ⟨tp, sd, fd, us, t, kvs, sg, rc, rfl, _⟩ := h
      rfl
    · obtain ⟨tp, sd, fd, us, t, kvs, sg, rc, rfl, etp, hR, hdn, esd, hsg, hfd, lw, hw, q⟩ := h
      refine ⟨_, (pss_cons (ps_set (i := 3) sc_law_deep.nd rfl (.inl rfl) pe_int)
      (pss_cons (ps_for PassesOwn.never rfl (pi_tup (pv 0)) (pg_name (i := 4) sc_law_deep.nd rfl (.inl rfl)) (pss_cons (ps_if (pt_cmpR op_eq (pe_ix ix_tup (pv 4) pe_int (fun _ _ => rfl)) pe_str (nomark _)) (pss_one ps_continue) pss_nil)
      (pss_cons (ps_if (pt_cmp (pc_din (hu1 hr) (pe_ix ix_tup (pv 4) pe_int (fun _ _ => rfl)) (pv 1))) (pss_cons (ps_set (i := 3) sc_law_deep.nd rfl (.inl rfl) (pe_callB (call_max2 (by rfl)) (by rfl) T.n_max (by decide +kernel) (pa_cons (pv 3) (pa_cons (pe_dget (hu1 hr) (pv 1) (pe_ix ix_tup (pv 4) pe_int (fun _ _ => rfl)) (fun _ _ => rfl)) pa_nil))))
      (pss_one ps_continue)) pss_nil)
      (pss_cons (ps_setLc (i := 5) (own := [("_law_part", 8)]) (g := gName 8) (tt := tYes) rfl sc_law_deep.nd rfl rfl (sw_true rfl rfl rfl (by decide +kernel)) (pi_tup (pe_ix ix_tup (pv 4) pe_int (fun _ _ => rfl))) (blkOk_by (own := [("_law_part", 8)]) (N := ["_law_tree_here", "_law_deeps", "_law_reaches", "_law_found", "_law_node_here", "_law_inner", "_law_reach_here", "_law_k", "_law_part"]) (sc := defScope s_law_deep) (by decide +kernel)) (fun _ _ _ _ _ => (pg_name (i := 8) sc_law_deep.nd rfl (.inl rfl))) (fun _ _ _ _ _ => pts_nil) (fun _ _ _ _ _ => (pe_call G_law_deep (hr.mono (by omega)) (by rfl) T.D_law_deep.G T.D_law_deep.F.kp T.D_law_deep.B .nil pass0 (pa_cons (pv 8) (pa_cons (pv 1) (pa_cons (pv 2) pa_nil))))))
      (pss_cons (ps_set (i := 6) sc_law_deep.nd rfl (.inl rfl) (pe_ifExp (pt_cmp (pc_din (hu1 hr) (pe_ix ix_tup (pv 4) pe_int (fun _ _ => rfl)) (pv 2))) (pe_dget (hu1 hr) (pv 2) (pe_ix ix_tup (pv 4) pe_int (fun _ _ => rfl)) (fun _ _ => rfl)) (pe_op op_cat (pe_lst (pa_cons (pe_callB (call_min2 (by rfl)) (by rfl) T.n_min (by decide +kernel) (pa_cons (pe_callB call_len_seq (by rfl) T.n_len PySem.boot_len (pa_cons (pv 5) pa_nil)) (pa_cons pe_int pa_nil))) pa_nil)) (pe_op op_rep (pe_lst (pa_cons pe_int pa_nil)) (pe_callB call_len_seq (by rfl) T.n_len PySem.boot_len (pa_cons (pv 5) pa_nil))))))
      (pss_cons (ps_set (i := 3) sc_law_deep.nd rfl (.inl rfl) (pe_callB (call_max2 (by rfl)) (by rfl) T.n_max (by decide +kernel) (pa_cons (pv 3) (pa_cons (pe_ix ix_list (pv 6) pe_int (fun _ _ => rfl)) pa_nil))))
      (pss_one (ps_for PassesOwn.never rfl (pi_range1 (by rfl) T.n_range (pa_cons (pe_callB call_len_seq (by rfl) T.n_len PySem.boot_len (pa_cons (pv 5) pa_nil)) pa_nil)) (pg_name (i := 7) sc_law_deep.nd rfl (.inl rfl)) (pss_one (ps_if (pt_cmpR op_ge (pe_ix ix_list (pv 6) (pe_op op_add (pv 7) pe_int) (fun _ _ => rfl)) pe_int (nomark _)) (pss_one (ps_set (i := 3) sc_law_deep.nd rfl (.inl rfl) (pe_callB (call_max2 (by rfl)) (by rfl) T.n_max (by decide +kernel) (pa_cons (pv 3) (pa_cons (pe_op op_add (pe_ix ix_list (pv 6) (pe_op op_add (pv 7) pe_int) (fun _ _ => rfl)) (pe_ix ix_list (pv 5) (pv 7) (fun _ _ => rfl))) pa_nil))))) pss_nil))))))))))
      (pss_one (ps_ret (pv 3))))), ?_⟩
      refine ⟨_, rfl, tp, rfl, ⟨_, SqT.of etp⟩, ?_⟩
      refine for_tup (K := K) (a := tp) (xs := us) (fun i σ' H' => ∃ (r : Tr) (z : Int) (x4 x5 x6 x7 : Option V), σ' = [some (.ref tp), some (.ref sd), some (.ref fd), some (.int z), x4, x5, x6, x7, none] ∧ Same H H' ∧ RepT H r (us.drop i) ∧ 0 ≤ z ∧ max z (ldT sg rc r) = ldT sg rc t ∧ LdT sg rc r ∧ wT r ≤ 90000 ∧ depT r < n + 1)
        ⟨t, 0, none, none, none, none, rfl, Same.refl _, hR, Int.le_refl 0, by have := ldT_nn (sg := sg) (rc := rc) t; omega, lw, hw, hdn⟩ ?_ ?_ ?_
      · rintro i σ' H' _ ⟨_, _, _, _, _, _, _, k, _⟩
        exact SqT.of (k _ _ etp)
      · rintro i x σ' H1 hx ⟨r, z, x4, x5, x6, x7, rfl, k1, hr1, z0, ez, lw1, hw1, hd1⟩
        rw [drop_x hx] at hr1
        obtain ⟨nd, r2, rfl, hnd, hr2⟩ := hr1.first
        obtain ⟨w1, w2⟩ := ldw_tr lw1
        rw [w_tr] at hw1
        rw [depT_tr] at hd1
        rw [ld_tr] at ez
        have hnd1 := hnd.keep (TKeep.same k1)
        have hT2 := ldT_nn (sg := sg) (rc := rc) r2
        cases nd with
        | word wz =>
          obtain ⟨p, rfl, ep⟩ := hnd1
          refine ⟨_, rfl, p, _, _, _, rfl, rfl, SqT.of ep, rfl, rfl, true, word_eq_word, ?_⟩
          simp only [ldN] at ez
          exact ⟨r2, z, _, _, _, _, rfl, k1, hr2, z0, by omega, w2, by omega, by omega⟩
        | call nm a =>
          obtain ⟨p, qa, ua, rfl, ep, eq, hA⟩ := hnd1
          have el := hA.lenA
          have esd1 := k1 _ _ esd
          have hfd1 := hfd.same k1
          refine ⟨_, rfl, p, _, _, _, rfl, rfl, SqT.of ep, rfl, rfl, false, call_ne_word, ?_⟩
          have hg : DGet H1 sd (sV nm) ((sg.lookup nm).map V.int) := by rw [← hsg nm]; exact DGet.k (k := Sum.inr (mkS nm)) esd1
          refine ⟨_, rfl, p, _, _, _, rfl, rfl, SqT.of ep, rfl, _, rfl, sd, _, rfl, hg, ?_⟩
          simp only [ldN] at ez
          cases es : sg.lookup nm with
          | some v =>
            rw [es] at hg
            have eC : ldC sg rc nm a = v := by unfold ldC; rw [es]
            rw [eC] at ez
            refine ⟨true, rfl, ?_⟩
            refine ⟨_, rfl, _, rfl, _, rfl, p, _, _, _, rfl, rfl, SqT.of ep, rfl, sd, _, rfl, hg, ?_⟩
            refine ⟨_, _, rfl, ?_⟩
            exact ⟨r2, if v > z then v else z, _, _, _, _, rfl, k1, hr2, by split <;> omega, by split <;> omega, w2, by omega, by omega⟩
          | none =>
            have hdA : depA a < n + 1 := by simp only [depN] at hd1; omega
            have hwA : 1 + wA a ≤ 90000 := by simp only [wN] at hw1; omega
            obtain ⟨lwn, lwa⟩ := w1
            have lwn := lwn es
            have eC : ldC sg rc nm a = ldW (reachS rc nm (lenA a)) (ldA sg rc a) := by unfold ldC; rw [es]
            rw [eC] at ez
            refine ⟨false, rfl, ?_⟩
            refine ⟨_, rfl, p, _, _, _, rfl, rfl, SqT.of ep, rfl, qa, rfl, ⟨_, SqT.of eq⟩, fun D nD => ?_⟩
            refine lc_tup (K := K) (a := qa) (xs := ua) (fun i H' => ∃ (ra : Ar) (acc : List Int), Same H1 H' ∧ H' D = some (.lst (acc.map V.int)) ∧ acc.length = i ∧ RepA H1 ra (ua.drop i) ∧ acc ++ ldA sg rc ra = ldA sg rc a ∧ LdA sg rc ra ∧ wA ra ≤ 90000 ∧ depA ra < n + 1)
              ⟨a, [], same_upd (Same.refl H1) nD, upd_same, rfl, hA, rfl, lwa, by omega, hdA⟩ ?_ ?_ ?_
            · rintro i H' _ ⟨_, _, k, _⟩
              exact SqT.of (k _ _ eq)
            · rintro i x H2 hx2 ⟨ra, acc, k2, eD, la, hra, ea, lra, wra, dra⟩
              rw [drop_x hx2] at hra
              obtain ⟨ta, ra2, rfl, ⟨tq, wq, rfl, etq, hta⟩, hra2⟩ := hra.first
              simp only [LdA] at lra
              simp only [wA] at wra
              simp only [depA] at dra
              simp only [ldA] at ea
              have k12 := k1.trans k2
              have hi9 : i < ua.length := (List.getElem?_eq_some_iff.mp hx2).1
              have hlA := lenA_le a
              refine ⟨rfl, _, rfl, _, rfl, _, rfl, tq, sd, fd, wq, ta, kvs, sg, rc, rfl, k2 _ _ etq, RepT.keep (TKeep.same k2) hta, by omega, k12 _ _ esd, hsg, hfd.same k12, lra.1, by omega, fun H3 k3 => ?_⟩
              refine ⟨_, k3 _ _ eD, by rw [List.length_map, la]; exact lt_size (by omega), ra2, acc ++ [ldT sg rc ta], same_mut (k2.trans k3) nD, by rw [upd_same, List.map_append]; rfl, by rw [List.length_append, la]; rfl, hra2, by rw [List.append_assoc]; exact ea, lra.2, by omega, by omega⟩
            rintro H2 ⟨ra, acc, k2, eD, la, hra, ea, _⟩
            rw [List.drop_length] at hra
            have er := hra.last
            subst er
            have ea : acc ++ [] = ldA sg rc a := ea
            rw [List.append_nil] at ea
            subst ea
            obtain ⟨kvf, ef, hL⟩ := hfd1.same k2
            have hLn := hL nm
            have hgf : DGet H2 fd (sV nm) (valV kvf (Sum.inr (mkS nm))) := DGet.k (k := Sum.inr (mkS nm)) ef
            have ep2 := k2 _ _ ep
            have lvs := ldA_len sg rc a
            have hlA := lenA_le a
            refine ⟨_, rfl, p, _, _, _, rfl, rfl, SqT.of ep2, rfl, _, rfl, fd, _, rfl, hgf, ?_⟩
            cases eu : rc.lookup nm with
            | some f =>
              rw [eu] at hLn
              cases ev : valV kvf (Sum.inr (mkS nm)) with
              | none => rw [ev] at hLn; exact hLn.elim
              | some fv =>
                rw [ev] at hLn hgf
                obtain ⟨pf, rfl, eP0⟩ := hLn
                have eS : reachS rc nm (lenA a) = f := by unfold reachS; rw [eu]
                refine ⟨true, rfl, _, rfl, _, rfl, p, _, _, _, rfl, rfl, SqT.of ep2, rfl, fd, _, rfl, hgf, ?_⟩
                obtain ⟨H3, hH3⟩ : ∃ H3, H3 = H2 := ⟨_, rfl⟩
                have k3 : Same H2 H3 := by rw [hH3]; exact Same.refl _
                have eP : H3 pf = some (.lst ((reachS rc nm (lenA a)).map V.int)) := by rw [hH3, eS]; exact eP0
                rw [← hH3]
                obtain ⟨f0, ft, eF⟩ : ∃ f0 ft, reachS rc nm (lenA a) = f0 :: ft := by
                  cases h : reachS rc nm (lenA a) with
                  | nil => rw [h] at lwn; cases lwn
                  | cons f0 ft => exact ⟨f0, ft, rfl⟩
                rw [eF] at lwn eP
                rw [eF] at ez
                have ez : max z (max (max f0 (mxs ft (ldA sg rc a))) (ldT sg rc r2)) = ldT sg rc t := ez
                have lft : ft.length = lenA a := Nat.succ.inj lwn
                have eD3 := k3 _ _ eD
                have k13 := (k1.trans k2).trans k3
                refine ⟨_, rfl, _, rfl, pf, _, 0, _, rfl, rfl, SqL.of eP, atI_nat (j := 0) rfl, _, _, rfl, ?_⟩
                refine ⟨_, rfl, D, _, rfl, .inl (SqL.of eD3), _, rfl, by rw [List.length_map]; omega, by rw [List.length_map]; omega, ?_⟩
                have enn : ((((ldA sg rc a).map V.int).length : Nat) : Int).toNat = (ldA sg rc a).length := by rw [List.length_map]; omega
                refine for_it walk_range (fun k σ' H' => ∃ (zk : Int) (x7 : Option V), σ' = [some (.ref tp), some (.ref sd), some (.ref fd), some (.int zk), some (.ref p), some (.ref D), some (.ref pf), x7, none] ∧ H' = H3 ∧ zk = max (max z f0) (mxs (ft.take k) ((ldA sg rc a).take k))) ⟨if f0 > z then f0 else z, x7, rfl, rfl, ?_⟩ (fun _ _ _ _ _ => trivial) ?_ ?_
                · rw [List.take_zero, List.take_zero]
                  show _ = max (max z f0) (0 : Int)
                  split <;> omega
                · rintro k x σ' H4 H5 hk ⟨zk, x7, rfl, rfl, ezk⟩ ⟨rfl, hx⟩
                  have hk : k < (ldA sg rc a).length := by omega
                  have hx : x = .int (k : Int) := by rw [hx]; show V.int (0 + (k : Int)) = _; rw [Int.zero_add]
                  subst hx
                  have hk2 : k < ft.length := by omega
                  have gf : ft[k]? = some ft[k] := List.getElem?_eq_getElem hk2
                  have gv : (ldA sg rc a)[k]? = some (ldA sg rc a)[k] := List.getElem?_eq_getElem hk
                  have gf2 : ((f0 :: ft).map V.int)[k + 1]? = some (.int ft[k]) := by rw [List.getElem?_map]; show ft[k]?.map V.int = _; rw [gf]; rfl
                  have gv2 : ((ldA sg rc a).map V.int)[k]? = some (.int (ldA sg rc a)[k]) := by rw [List.getElem?_map, gv]; rfl
                  have ek : (k : Int) + 1 = ((k + 1 : Nat) : Int) := rfl
                  have hs := mxs_succ gf gv
                  refine ⟨_, rfl, _, rfl, _, _, rfl, rfl, pf, _, _, _, rfl, rfl, SqL.of eP, by rw [ek]; exact atI_nat gf2, _, _, rfl, rfl, decide ((0 : Int) ≤ ft[k]), rfl, ?_⟩
                  by_cases hc : (0 : Int) ≤ ft[k]
                  · rw [decide_eq_true hc]
                    rw [if_pos hc] at hs
                    refine ⟨_, rfl, _, rfl, _, rfl, _, _, rfl, rfl, pf, _, _, _, rfl, rfl, SqL.of eP, by rw [ek]; exact atI_nat gf2, _, rfl, _, rfl, D, _, _, _, rfl, rfl, SqL.of eD3, atI_nat gv2, _, _, rfl, rfl, _, _, rfl, ?_⟩
                    refine ⟨_, _, rfl, rfl, ?_⟩
                    rw [hs]
                    split <;> omega
                  · rw [decide_eq_false hc]
                    rw [if_neg hc] at hs
                    have := mxs_nn (ft.take k) ((ldA sg rc a).take k)
                    refine ⟨_, _, rfl, rfl, ?_⟩
                    rw [hs]; omega
                · rintro σ' H4 ⟨zk, x7, rfl, rfl, ezk⟩
                  rw [enn, List.take_of_length_le (show ft.length ≤ (ldA sg rc a).length by omega), List.take_length] at ezk
                  exact ⟨r2, zk, some (.ref p), some (.ref D), some (.ref pf), x7, rfl, k13, hr2, by omega, by omega, w2, by omega, by omega⟩
            | none =>
              rw [eu] at hLn
              cases ev : valV kvf (Sum.inr (mkS nm)) with
              | some fv => rw [ev] at hLn; exact hLn.elim
              | none =>
                have eS : reachS rc nm (lenA a) = (if (1 : Int) < (lenA a : Int) then 1 else (lenA a : Int)) :: List.replicate (lenA a) 1 := by unfold reachS; rw [eu]
                refine ⟨false, rfl, ?_⟩
                refine ⟨_, rfl, D, _, rfl, .inl (SqL.of eD), _, _, rfl, by show 1 ≤ sizeLine; decide, fun L nL => ⟨by show 1 ≤ sizeLine; decide, fun L2 nL2 => ?_⟩⟩
                have ehd : (if (1 : Int) < ((((ldA sg rc a).map V.int).length : Nat) : Int) then 1 else ((((ldA sg rc a).map V.int).length : Nat) : Int)) = if (1 : Int) < (lenA a : Int) then 1 else (lenA a : Int) := by rw [List.length_map, lvs]
                rw [ehd] at nL2 ⊢
                generalize (if (1 : Int) < (lenA a : Int) then 1 else (lenA a : Int)) = h0 at eS nL2 ⊢
                have u1 := same_upd (o := .lst [V.int h0]) (Same.refl H2) nL
                have u2 := same_upd (o := .lst [V.int 1]) (Same.refl _) nL2
                have eL1 := u2 _ _ (upd_same (H := H2) (a := L) (o := .lst [V.int h0]))
                refine ⟨_, rfl, D, _, rfl, .inl (SqL.of ((u1.trans u2) _ _ eD)), L2, _, _, rfl, rfl, upd_same, by omega, by rw [List.length_map]; omega, ?_, fun L3 nL3 => ?_⟩
                · rw [List.length_map]; exact Nat.le_of_lt (lt_size (by rw [List.length_singleton]; omega))
                have efl : (List.replicate ((((ldA sg rc a).map V.int).length : Nat) : Int).toNat [V.int 1]).flatten = (List.replicate (lenA a) (1 : Int)).map V.int := by
                  rw [List.length_map, List.flatten_replicate_singleton, List.map_replicate, lvs]
                  congr 1
                rw [efl]
                have u3 := same_upd (o := .lst ((List.replicate (lenA a) (1 : Int)).map V.int)) (Same.refl _) nL3
                refine ⟨L, L3, _, _, rfl, rfl, u3 _ _ eL1, upd_same, ?_, fun pf npf => ?_⟩
                · rw [List.length_map, List.length_replicate]; exact Nat.le_of_lt (lt_size (by rw [List.length_singleton]; omega))
                have ecat : [V.int h0] ++ (List.replicate (lenA a) (1 : Int)).map V.int = (reachS rc nm (lenA a)).map V.int := by rw [eS]; rfl
                rw [ecat]
                have u4 := same_upd (o := .lst ((reachS rc nm (lenA a)).map V.int)) (Same.refl _) npf
                have k3 : Same H2 _ := u1.trans (u2.trans (u3.trans u4))
                have eP := upd_same (H := upd (upd (upd H2 L (.lst [V.int h0])) L2 (.lst [V.int 1])) L3 (.lst ((List.replicate (lenA a) (1 : Int)).map V.int))) (a := pf) (o := .lst ((reachS rc nm (lenA a)).map V.int))
                generalize upd (upd (upd (upd H2 L (.lst [V.int h0])) L2 (.lst [V.int 1])) L3 (.lst ((List.replicate (lenA a) (1 : Int)).map V.int))) pf (.lst ((reachS rc nm (lenA a)).map V.int)) = H3 at k3 eP ⊢
                obtain ⟨f0, ft, eF⟩ : ∃ f0 ft, reachS rc nm (lenA a) = f0 :: ft := by
                  cases h : reachS rc nm (lenA a) with
                  | nil => rw [h] at lwn; cases lwn
                  | cons f0 ft => exact ⟨f0, ft, rfl⟩
                rw [eF] at lwn eP
                rw [eF] at ez
                have ez : max z (max (max f0 (mxs ft (ldA sg rc a))) (ldT sg rc r2)) = ldT sg rc t := ez
                have lft : ft.length = lenA a := Nat.succ.inj lwn
                have eD3 := k3 _ _ eD
                have k13 := (k1.trans k2).trans k3
                refine ⟨_, rfl, _, rfl, pf, _, 0, _, rfl, rfl, SqL.of eP, atI_nat (j := 0) rfl, _, _, rfl, ?_⟩
                refine ⟨_, rfl, D, _, rfl, .inl (SqL.of eD3), _, rfl, by rw [List.length_map]; omega, by rw [List.length_map]; omega, ?_⟩
                have enn : ((((ldA sg rc a).map V.int).length : Nat) : Int).toNat = (ldA sg rc a).length := by rw [List.length_map]; omega
                refine for_it walk_range (fun k σ' H' => ∃ (zk : Int) (x7 : Option V), σ' = [some (.ref tp), some (.ref sd), some (.ref fd), some (.int zk), some (.ref p), some (.ref D), some (.ref pf), x7, none] ∧ H' = H3 ∧ zk = max (max z f0) (mxs (ft.take k) ((ldA sg rc a).take k))) ⟨if f0 > z then f0 else z, x7, rfl, rfl, ?_⟩ (fun _ _ _ _ _ => trivial) ?_ ?_
                · rw [List.take_zero, List.take_zero]
                  show _ = max (max z f0) (0 : Int)
                  split <;> omega
                · rintro k x σ' H4 H5 hk ⟨zk, x7, rfl, rfl, ezk⟩ ⟨rfl, hx⟩
                  have hk : k < (ldA sg rc a).length := by omega
                  have hx : x = .int (k : Int) := by rw [hx]; show V.int (0 + (k : Int)) = _; rw [Int.zero_add]
                  subst hx
                  have hk2 : k < ft.length := by omega
                  have gf : ft[k]? = some ft[k] := List.getElem?_eq_getElem hk2
                  have gv : (ldA sg rc a)[k]? = some (ldA sg rc a)[k] := List.getElem?_eq_getElem hk
                  have gf2 : ((f0 :: ft).map V.int)[k + 1]? = some (.int ft[k]) := by rw [List.getElem?_map]; show ft[k]?.map V.int = _; rw [gf]; rfl
                  have gv2 : ((ldA sg rc a).map V.int)[k]? = some (.int (ldA sg rc a)[k]) := by rw [List.getElem?_map, gv]; rfl
                  have ek : (k : Int) + 1 = ((k + 1 : Nat) : Int) := rfl
                  have hs := mxs_succ gf gv
                  refine ⟨_, rfl, _, rfl, _, _, rfl, rfl, pf, _, _, _, rfl, rfl, SqL.of eP, by rw [ek]; exact atI_nat gf2, _, _, rfl, rfl, decide ((0 : Int) ≤ ft[k]), rfl, ?_⟩
                  by_cases hc : (0 : Int) ≤ ft[k]
                  · rw [decide_eq_true hc]
                    rw [if_pos hc] at hs
                    refine ⟨_, rfl, _, rfl, _, rfl, _, _, rfl, rfl, pf, _, _, _, rfl, rfl, SqL.of eP, by rw [ek]; exact atI_nat gf2, _, rfl, _, rfl, D, _, _, _, rfl, rfl, SqL.of eD3, atI_nat gv2, _, _, rfl, rfl, _, _, rfl, ?_⟩
                    refine ⟨_, _, rfl, rfl, ?_⟩
                    rw [hs]
                    split <;> omega
                  · rw [decide_eq_false hc]
                    rw [if_neg hc] at hs
                    have := mxs_nn (ft.take k) ((ldA sg rc a).take k)
                    refine ⟨_, _, rfl, rfl, ?_⟩
                    rw [hs]; omega
                · rintro σ' H4 ⟨zk, x7, rfl, rfl, ezk⟩
                  rw [enn, List.take_of_length_le (show ft.length ≤ (ldA sg rc a).length by omega), List.take_length] at ezk
                  exact ⟨r2, zk, some (.ref p), some (.ref D), some (.ref pf), x7, rfl, k13, hr2, by omega, by omega, w2, by omega, by omega⟩
      · rintro σ' H1 ⟨r, z, x4, x5, x6, x7, rfl, k1, hr1, z0, ez, _⟩
        rw [List.drop_length] at hr1
        have er := hr1.last
        subst er
        have ez : max z 0 = ldT sg rc t := ez
        have ez : z = ldT sg rc t := by omega
        subst ez
        exact ⟨_, rfl, q H1 k1⟩
end
end Vf

set_option Elab.async false
set_option linter.all false
set_option maxRecDepth 100000
set_option maxHeartbeats 4000000
namespace Vf
open PySem PySem.Spec PyProof.Rows L2 TL
def reachP (ps : List (List Nat)) (b : Tr) (rc : Fm) (i : Nat) : List Int := ldT (ps.map fun q => (q, 0)) rc b :: (ps.take i).map fun p => ldT (ps.map fun q => (q, if q = p then ldT (ps.map fun q => (q, 0)) rc b + 1 else 0)) rc b - ldT (ps.map fun q => (q, 0)) rc b - 1
theorem reachP_succ {ps : List (List Nat)} {b : Tr} {rc : Fm} {i : Nat} {p : List Nat} (h : ps[i]? = some p) : reachP ps b rc (i + 1) = reachP ps b rc i ++ [ldT (ps.map fun q => (q, if q = p then ldT (ps.map fun q => (q, 0)) rc b + 1 else 0)) rc b - ldT (ps.map fun q => (q, 0)) rc b - 1] := by
  unfold reachP
  rw [take_succ' h, List.map_append]; rfl
section
variable {P : Program} {w : World} {K : PySem.W.Frag} {mg : Str → Option Value} {base : Heap}
def spReach : Sp := fun vs H Q _ => ∃ (np bp fd : Addr) (m : List Nat) (ps : List (List Nat)) (ws : List V) (t : Tr) (fm : Fm), vs = [.ref np, .ref bp, .ref fd] ∧ H np = some (.lst ((m :: ps).map sV)) ∧ H bp = some (.tup ws) ∧ RepT H t ws ∧ depT t < 20 ∧ FmD H fd fm ∧
  ps.length ≤ 100 ∧ (∀ f : List Nat → Int, LdT (ps.map fun q => (q, f q)) fm t) ∧ wT t ≤ 90000 ∧
  ∀ H' r, Same H H' → H r = none → H' r = some (.lst ((reachL ps t fm).map V.int)) → Q (.ref r) H'
theorem ok_law_reach (T : Txt K mg) : FnOk P w K mg base CX0 22 T.a_law_reach T.d_law_reach ["_law_names_here", "_law_body", "_law_reaches"] spReach := by
  have G_law_deep : FnOk P w K mg base CX0 21 T.a_law_deep T.d_law_deep ["_law_tree_here", "_law_deeps", "_law_reaches"] (spDeep 20) := ok_law_deep T 20
  refine T.D_law_reach.F.ok (k := 21) sc_law_reach (fun vs H Q E h => ?_) (fun cdv A outer s H vs Q E hr h => ?_)
  · obtain ⟨np, bp, fd, m, ps, ws, t, fm, rfl, _⟩ := h
    rfl
  · obtain ⟨np, bp, fd, m, ps, ws, t, fm, rfl, enp, ebp, hR, hd, hfd, hpl, lw, hw, q⟩ := h
    refine ⟨_, (pss_cons (ps_set (i := 3) sc_law_reach.nd rfl (.inl rfl) pe_dnewK)
      (pss_cons (ps_for PassesOwn.never rfl (pi_list (pe_slice sl_list (pv 0) (po_some pe_int) po_none)) (pg_name (i := 4) sc_law_reach.nd rfl (.inl rfl)) (pss_one (ps_dput (hu1 hr) (pv 3) (pv 4) pe_int rfl)))
      (pss_cons (ps_set (i := 5) sc_law_reach.nd rfl (.inl rfl) (pe_lst (pa_cons (pe_call G_law_deep (hr.mono (by decide)) (by rfl) T.D_law_deep.G T.D_law_deep.F.kp T.D_law_deep.B .nil pass0 (pa_cons (pv 1) (pa_cons (pv 3) (pa_cons (pv 2) pa_nil)))) pa_nil)))
      (pss_cons (ps_for PassesOwn.never rfl (pi_list (pe_slice sl_list (pv 0) (po_some pe_int) po_none)) (pg_name (i := 4) sc_law_reach.nd rfl (.inl rfl)) (pss_cons (ps_dput (hu1 hr) (pv 3) (pv 4) (pe_op op_add (pe_ix ix_list (pv 5) pe_int (fun _ _ => rfl)) pe_int) rfl)
      (pss_cons (ps_expr (pe_bm PySem.F.plainAttrs_list PySem.F.slot_list_append PySem.F.type_list_append mt_append (pv 5) (pa_cons (pe_op op_sub (pe_op op_sub (pe_call G_law_deep (hr.mono (by decide)) (by rfl) T.D_law_deep.G T.D_law_deep.F.kp T.D_law_deep.B .nil pass0 (pa_cons (pv 1) (pa_cons (pv 3) (pa_cons (pv 2) pa_nil)))) (pe_ix ix_list (pv 5) pe_int (fun _ _ => rfl))) pe_int) pa_nil)))
      (pss_one (ps_dput (hu1 hr) (pv 3) (pv 4) pe_int rfl)))))
      (pss_one (ps_ret (pv 5))))))), ?_⟩
    intro D nD
    have s0 := same_upd (o := .dK []) (Same.refl H) nD
    refine ⟨_, rfl, _, rfl, np, _, rfl, SqL.of (s0 _ _ enp), fun p1 np1 => ?_⟩
    rw [show cutV ((m :: ps).map sV) (some 1) none = ps.map sV from cut_hi (ts := m :: ps) (i := 1) (by rw [List.length_cons]; omega)]
    have s1 := same_upd (o := .lst (ps.map sV)) (Same.refl _) np1
    have e1 : upd (upd H D (.dK [])) p1 (.lst (ps.map sV)) p1 = some (.lst (ps.map sV)) := upd_same
    have eD1 := s1 _ _ (upd_same (H := H) (a := D) (o := .dK []))
    have s01 := s0.trans s1
    generalize upd (upd H D (.dK [])) p1 (.lst (ps.map sV)) = H1 at s1 e1 eD1 s01 ⊢
    have p1D : p1 ≠ D := fun z => by rw [z, eD1] at e1; cases e1
    refine ⟨p1, rfl, ⟨_, SqL.of e1⟩, ?_⟩
    refine for_it (walk_list (K := K) (a := p1) (xs := ps.map sV)) (fun i σ' H' => ∃ (kvs : List (Key × V)) (x4 : Option V), σ' = [some (.ref np), some (.ref bp), some (.ref fd), some (.ref D), x4, none] ∧ Same H H' ∧ H' p1 = some (.lst (ps.map sV)) ∧ H' D = some (.dK kvs) ∧ kvs.length ≤ i ∧ ∀ n : List Nat, valV kvs (Sum.inr (mkS n)) = if n ∈ ps.take i then some (.int 0) else none)
      ⟨[], none, rfl, s01, e1, eD1, Nat.le_refl _, fun n => by rw [List.take_zero, if_neg (by simp)]; rfl⟩ ?_ ?_ ?_
    · rintro i σ' H' _ ⟨_, _, _, _, e, _⟩
      exact SqL.of e
    · rintro i x σ' H2 H3 hi ⟨kvs, x4, rfl, k2, ep, eD, lk, hv⟩ ⟨rfl, hx⟩
      rw [List.getElem?_map] at hx
      obtain ⟨pm, hpm, rfl⟩ : ∃ pm, ps[i]? = some pm ∧ sV pm = x := by
        cases h : ps[i]? with
        | none => rw [h] at hx; cases hx
        | some z => rw [h] at hx; exact ⟨z, rfl, Option.some.inj hx⟩
      have hi2 : i < ps.length := (List.getElem?_eq_some_iff.mp hpm).1
      refine ⟨_, rfl, _, rfl, D, _, rfl, DPut.k (k := Sum.inr (mkS pm)) eD (lt_size (by omega)), _, _, rfl, same_mut k2 nD, by rw [upd_ne p1D]; exact ep, upd_same, Nat.le_trans (length_putK _ _ _) (by omega), fun n => ?_⟩
      rw [valV_put, take_succ' hpm]
      by_cases e : n = pm
      · rw [if_pos (by rw [e]), if_pos (by rw [e]; simp)]
      · rw [if_neg (fun z => e (mkS_inj (Sum.inr.inj z))), hv n]
        by_cases h : n ∈ ps.take i
        · rw [if_pos h, if_pos (List.mem_append_left _ h)]
        · rw [if_neg h, if_neg fun z => (List.mem_append.mp z).elim h fun y => e (List.mem_singleton.mp y)]
    · rintro σ' H2 ⟨kvs, x4, rfl, k2, ep, eD, lk, hv⟩
      rw [List.length_map, List.take_length] at hv
      rw [List.length_map] at lk
      have sg0 : SgV kvs (ps.map fun q => (q, (0 : Int))) := fun n => by
        rw [hv n, look_mapf (f := fun _ => 0)]
        by_cases h : n ∈ ps
        · rw [if_pos h, if_pos h]; rfl
        · rw [if_neg h, if_neg h]; rfl
      refine ⟨_, rfl, _, rfl, _, rfl, bp, D, fd, ws, t, kvs, _, fm, rfl, k2 _ _ ebp, RepT.keep (TKeep.same k2) hR, hd, eD, sg0, hfd.same k2, lw fun _ => 0, hw, fun H3 k3 => ?_⟩
      have k23 := k2.trans k3
      have eD3 := k3 _ _ eD
      refine ⟨by show 1 ≤ sizeLine; decide, fun R nR => ?_⟩
      have nR0 := same_none k23 nR
      have s4 := same_upd (o := .lst [V.int (ldT (ps.map fun q => (q, (0 : Int))) fm t)]) (Same.refl H3) nR
      have eR4 : upd H3 R (.lst [V.int (ldT (ps.map fun q => (q, (0 : Int))) fm t)]) R = some (.lst [V.int (ldT (ps.map fun q => (q, (0 : Int))) fm t)]) := upd_same
      have k4 := k23.trans s4
      have eD4 := s4 _ _ eD3
      generalize upd H3 R (.lst [V.int (ldT (ps.map fun q => (q, (0 : Int))) fm t)]) = H4 at s4 eR4 k4 eD4 ⊢
      have hRD : R ≠ D := fun z => by rw [z, eD3] at nR; cases nR
      refine ⟨_, rfl, _, rfl, np, _, rfl, SqL.of (k4 _ _ enp), fun p2 np2 => ?_⟩
      rw [show cutV ((m :: ps).map sV) (some 1) none = ps.map sV from cut_hi (ts := m :: ps) (i := 1) (by rw [List.length_cons]; omega)]
      have s5 := same_upd (o := .lst (ps.map sV)) (Same.refl _) np2
      have e5 : upd H4 p2 (.lst (ps.map sV)) p2 = some (.lst (ps.map sV)) := upd_same
      have k5 := k4.trans s5
      have eD5 := s5 _ _ eD4
      have eR5 := s5 _ _ eR4
      have p2D : p2 ≠ D := fun z => by rw [z, eD4] at np2; cases np2
      have p2R : p2 ≠ R := fun z => by rw [z, eR4] at np2; cases np2
      generalize upd H4 p2 (.lst (ps.map sV)) = H5 at s5 e5 k5 eD5 eR5 ⊢
      refine ⟨p2, rfl, ⟨_, SqL.of e5⟩, ?_⟩
      refine for_it (walk_list (K := K) (a := p2) (xs := ps.map sV)) (fun i σ' H' => ∃ (kvs : List (Key × V)) (x4 : Option V), σ' = [some (.ref np), some (.ref bp), some (.ref fd), some (.ref D), x4, some (.ref R)] ∧ Same H H' ∧ H' p2 = some (.lst (ps.map sV)) ∧ H' D = some (.dK kvs) ∧ H' R = some (.lst ((reachP ps t fm i).map V.int)) ∧ kvs.length ≤ 100 + 2 * i ∧ SgV kvs (ps.map fun q => (q, (0 : Int))))
        ⟨kvs, x4, rfl, k5, e5, eD5, by unfold reachP; rw [List.take_zero]; exact eR5, by omega, sg0⟩ ?_ ?_ ?_
      · rintro i σ' H' _ ⟨_, _, _, _, e, _⟩
        exact SqL.of e
      · rintro i x σ' H6 H7 hi ⟨kvs, x4, rfl, k6, ep, eD, eR, lk, sgk⟩ ⟨rfl, hx⟩
        rw [List.getElem?_map] at hx
        obtain ⟨pm, hpm, rfl⟩ : ∃ pm, ps[i]? = some pm ∧ sV pm = x := by
          cases h : ps[i]? with
          | none => rw [h] at hx; cases hx
          | some z => rw [h] at hx; exact ⟨z, rfl, Option.some.inj hx⟩
        have hi2 : i < ps.length := (List.getElem?_eq_some_iff.mp hpm).1
        have hmem : pm ∈ ps := List.mem_of_getElem? hpm
        have eh0 : ((reachP ps t fm i).map V.int)[0]? = some (.int (ldT (ps.map fun q => (q, (0 : Int))) fm t)) := rfl
        refine ⟨_, rfl, R, _, 0, _, rfl, rfl, SqL.of eR, atI_nat (j := 0) eh0, _, _, rfl, rfl, _, rfl, _, rfl, D, _, rfl, DPut.k (k := Sum.inr (mkS pm)) eD (lt_size (by omega)), ?_⟩
        have sg1 : SgV (putK kvs (Sum.inr (mkS pm)) (.int (ldT (ps.map fun q => (q, (0 : Int))) fm t + 1))) (ps.map fun q => (q, if q = pm then ldT (ps.map fun q => (q, (0 : Int))) fm t + 1 else 0)) := fun n => by
          rw [valV_put, look_mapf (f := fun q => if q = pm then ldT (ps.map fun q => (q, (0 : Int))) fm t + 1 else 0)]
          by_cases e : n = pm
          · rw [if_pos (by rw [e]), if_pos (by rw [e]; exact hmem), if_pos e]; rfl
          · rw [if_neg (fun z => e (mkS_inj (Sum.inr.inj z))), sgk n, look_mapf (f := fun _ => 0)]
            by_cases h : n ∈ ps
            · rw [if_pos h, if_pos h, if_neg e]
            · rw [if_neg h, if_neg h]
        have k8 := same_mut (o := .dK (putK kvs (Sum.inr (mkS pm)) (V.int (ldT (ps.map fun q => (q, (0 : Int))) fm t + 1)))) k6 nD
        have eD8 : upd H7 D (.dK (putK kvs (Sum.inr (mkS pm)) (V.int (ldT (ps.map fun q => (q, (0 : Int))) fm t + 1)))) D = some (.dK (putK kvs (Sum.inr (mkS pm)) (V.int (ldT (ps.map fun q => (q, (0 : Int))) fm t + 1)))) := upd_same
        have eR8 : upd H7 D (.dK (putK kvs (Sum.inr (mkS pm)) (V.int (ldT (ps.map fun q => (q, (0 : Int))) fm t + 1)))) R = some (.lst ((reachP ps t fm i).map V.int)) := by rw [upd_ne hRD]; exact eR
        have ep8 : upd H7 D (.dK (putK kvs (Sum.inr (mkS pm)) (V.int (ldT (ps.map fun q => (q, (0 : Int))) fm t + 1)))) p2 = some (.lst (ps.map sV)) := by rw [upd_ne p2D]; exact ep
        generalize upd H7 D (.dK (putK kvs (Sum.inr (mkS pm)) (V.int (ldT (ps.map fun q => (q, (0 : Int))) fm t + 1)))) = H8 at k8 eD8 eR8 ep8 ⊢
        have lk8 : (putK kvs (Sum.inr (mkS pm)) (V.int (ldT (ps.map fun q => (q, (0 : Int))) fm t + 1))).length ≤ 100 + 2 * i + 1 := Nat.le_trans (length_putK _ _ _) (by omega)
        have lfP : (reachP ps t fm i).length = i + 1 := by
          unfold reachP
          rw [List.length_cons, List.length_map, List.length_take]; omega
        refine ⟨.ref R, rfl, .inl ⟨rfl, _, .inl (.inl eR8)⟩, _, rfl, _, rfl, _, rfl, bp, D, fd, ws, t, _, _, fm, rfl, k8 _ _ ebp, RepT.keep (TKeep.same k8) hR, hd, eD8, sg1, hfd.same k8, lw fun q => if q = pm then ldT (ps.map fun q => (q, (0 : Int))) fm t + 1 else 0, hw, fun H9 k9 => ?_⟩
        have eR9 := k9 _ _ eR8
        have eD9 := k9 _ _ eD8
        have ep9 := k9 _ _ ep8
        have k09 := k8.trans k9
        refine ⟨_, rfl, R, _, 0, _, rfl, rfl, SqL.of eR9, atI_nat (j := 0) rfl, _, _, rfl, rfl, _, _, rfl, rfl, R, _, _, rfl, rfl, eR9, by rw [List.length_map, lfP]; exact lt_size (by omega), ?_⟩
        have k10 := same_mut (o := .lst ((reachP ps t fm i).map V.int ++ [V.int (ldT (ps.map fun q => (q, if q = pm then ldT (ps.map fun q => (q, (0 : Int))) fm t + 1 else 0)) fm t - ldT (ps.map fun q => (q, (0 : Int))) fm t - 1)])) k09 nR0
        have eR10 : upd H9 R (.lst ((reachP ps t fm i).map V.int ++ [V.int (ldT (ps.map fun q => (q, if q = pm then ldT (ps.map fun q => (q, (0 : Int))) fm t + 1 else 0)) fm t - ldT (ps.map fun q => (q, (0 : Int))) fm t - 1)])) R = some (.lst ((reachP ps t fm (i + 1)).map V.int)) := by
          rw [upd_same, reachP_succ hpm, List.map_append]; rfl
        have eD10 : upd H9 R (.lst ((reachP ps t fm i).map V.int ++ [V.int (ldT (ps.map fun q => (q, if q = pm then ldT (ps.map fun q => (q, (0 : Int))) fm t + 1 else 0)) fm t - ldT (ps.map fun q => (q, (0 : Int))) fm t - 1)])) D = some (.dK (putK kvs (Sum.inr (mkS pm)) (V.int (ldT (ps.map fun q => (q, (0 : Int))) fm t + 1)))) := by rw [upd_ne hRD.symm]; exact eD9
        have ep10 : upd H9 R (.lst ((reachP ps t fm i).map V.int ++ [V.int (ldT (ps.map fun q => (q, if q = pm then ldT (ps.map fun q => (q, (0 : Int))) fm t + 1 else 0)) fm t - ldT (ps.map fun q => (q, (0 : Int))) fm t - 1)])) p2 = some (.lst (ps.map sV)) := by rw [upd_ne p2R]; exact ep9
        generalize hH10 : upd H9 R (.lst ((reachP ps t fm i).map V.int ++ [V.int (ldT (ps.map fun q => (q, if q = pm then ldT (ps.map fun q => (q, (0 : Int))) fm t + 1 else 0)) fm t - ldT (ps.map fun q => (q, (0 : Int))) fm t - 1)])) = H10 at k10 eR10 eD10 ep10
        have hg : upd H9 R (.lst ((reachP ps t fm i).map V.int ++ [V.int (ldT (ps.map fun q => (q, if q = pm then ldT (ps.map fun q => (q, (0 : Int))) fm t + 1 else 0)) fm t - ldT (ps.map fun q => (q, (0 : Int))) fm t - 1)])) = H10 := hH10
        subst hH10
        refine ⟨_, rfl, _, rfl, D, _, rfl, DPut.k (k := Sum.inr (mkS pm)) eD10 (lt_size (by omega)), _, some (sV pm), rfl, same_mut k10 nD, by rw [upd_ne p2D]; exact ep10, upd_same, by rw [upd_ne hRD]; exact eR10, Nat.le_trans (length_putK _ _ _) (by omega), fun n => ?_⟩
        rw [valV_put, look_mapf (f := fun _ => 0)]
        by_cases e : n = pm
        · rw [if_pos (by rw [e]), if_pos (by rw [e]; exact hmem)]; rfl
        · rw [if_neg (fun z => e (mkS_inj (Sum.inr.inj z))), sg1 n, look_mapf (f := fun q => if q = pm then ldT (ps.map fun q => (q, (0 : Int))) fm t + 1 else 0)]
          by_cases h : n ∈ ps
          · rw [if_pos h, if_pos h, if_neg e]
          · rw [if_neg h, if_neg h]
      · rintro σ' H6 ⟨kvs, x4, rfl, k6, ep, eD, eR, lk, sgk⟩
        have eF : reachP ps t fm (ps.map sV).length = reachL ps t fm := by
          unfold reachP reachL
          rw [List.length_map, List.take_length]
        rw [eF] at eR
        exact ⟨_, rfl, q H6 R k6 nR0 eR⟩
end
end Vf

set_option Elab.async false
set_option linter.all false
set_option maxRecDepth 100000
set_option maxHeartbeats 4000000
namespace Vf
open PySem PySem.Spec PyProof.Rows L2 TL
theorem ndL_nn : ∀ (t : Tr) (rc : Fm), 0 ≤ ndL t rc
  | .nil, _ => by simp only [ndL]; exact Int.le_refl 0
  | .word _ r, rc => by simp only [ndL]; exact ndL_nn r rc
  | .call n a r, rc => by
    have h1 := ndL_nn r (rcK rc a)
    have h2 := ndL_nn r rc
    simp only [ndL]
    split <;> omega
theorem reach_len {ps : List (List Nat)} {sz : Sz} {rc : Fm} (o : DzOk sz rc) {n : List Nat} {k : Nat} (w : WfN ps sz n k) (hn : n ∉ ps) : (reachS rc n k).length = k + 1 := by
  rw [← whole_ds o]
  have h := whole_len w hn
  unfold dsS
  rw [List.length_cons, List.length_map, List.length_tail]; omega
mutual
theorem ldw_of {ps : List (List Nat)} {sz : Sz} {rc : Fm} {sg : Sg} (o : DzOk sz rc) (hs : ∀ n, sg.lookup n = none → n ∉ ps) : ∀ {t : Tr}, WfT ps sz t → LdT sg rc t
  | .nil, _ => by simp only [LdT]
  | .word _ r, w => by
    simp only [WfT] at w
    simp only [LdT]
    exact ldw_of o hs w
  | .call n a r, w => by
    simp only [WfT] at w
    simp only [LdT]
    exact ⟨fun e => reach_len o w.1 (hs n e), ldwA_of o hs w.2.1, ldw_of o hs w.2.2⟩
theorem ldwA_of {ps : List (List Nat)} {sz : Sz} {rc : Fm} {sg : Sg} (o : DzOk sz rc) (hs : ∀ n, sg.lookup n = none → n ∉ ps) : ∀ {a : Ar}, WfA ps sz a → LdA sg rc a
  | .nil, _ => by simp only [LdA]
  | .cons t r, w => by
    simp only [WfA] at w
    simp only [LdA]
    exact ⟨ldw_of o hs w.1, ldwA_of o hs w.2⟩
end
section
variable {P : Program} {w : World} {K : PySem.W.Frag} {mg : Str → Option Value} {base : Heap}
def spNest : Sp := fun vs H Q _ => ∃ (p : Addr) (us : List V) (t : Tr) (B : Nat), vs = [.ref p] ∧ H p = some (.tup us) ∧ RepT H t us ∧ chk t [] = none ∧ Grow (mcT t) [] 0 B ∧ wT (ndT t) ≤ 90000 ∧ depT (ndT t) < 20 ∧ B * (depT (ndT t) + 2) + 20 ≤ 1000000 ∧
  ∀ H', Same H H' → Q (.int (ndL t [])) H'
theorem ok_law_nesting (T : Txt K mg) : FnOk P w K mg base CX0 23 T.a_law_nesting T.d_law_nesting ["_law_tree_here"] spNest := by
  have G_law_deep : FnOk P w K mg base CX0 21 T.a_law_deep T.d_law_deep ["_law_tree_here", "_law_deeps", "_law_reaches"] (spDeep 20) := ok_law_deep T 20
  have G_law_reach : FnOk P w K mg base CX0 22 T.a_law_reach T.d_law_reach ["_law_names_here", "_law_body", "_law_reaches"] spReach := ok_law_reach T
  refine T.D_law_nesting.F.ok (k := 22) sc_law_nesting (fun vs H Q E h => ?_) (fun cdv A outer s H vs Q E hr h => ?_)
  · obtain ⟨p, us, t, B, rfl, _⟩ := h
    rfl
  · obtain ⟨p, us, t, B, rfl, hp, hR, hc, hg, hw, hd, be, q⟩ := h
    refine ⟨_, (pss_cons (ps_set (i := 1) sc_law_nesting.nd rfl (.inl rfl) pe_dnewK)
      (pss_cons (ps_set (i := 2) sc_law_nesting.nd rfl (.inl rfl) pe_int)
      (pss_cons (ps_for PassesOwn.never rfl (pi_tup (pv 0)) (pg_name (i := 3) sc_law_nesting.nd rfl (.inl rfl)) (pss_one (ps_if (PW.pt (pw_and (pt_cmpR op_eq (pe_ix ix_tup (pv 3) pe_int (fun _ _ => rfl)) pe_str (nomark _)) (pw_and1 (pt_cmpR op_eq (pe_ix ix_tup (pv 3) pe_int (fun _ _ => rfl)) pe_str (nomark _))))) (pss_cons (ps_setLc (i := 4) (own := [("_law_part", 5)]) (g := gName 5) (tt := tYes) rfl sc_law_nesting.nd rfl rfl (sw_true rfl rfl rfl (by decide +kernel)) (pi_tup (pe_ix ix_tup (pe_ix ix_tup (pv 3) pe_int (fun _ _ => rfl)) pe_int (fun _ _ => rfl))) (blkOk_by (own := [("_law_part", 5)]) (N := ["_law_tree_here", "_law_reaches", "_law_found", "_law_node_here", "_law_names_here", "_law_part"]) (sc := defScope s_law_nesting) (by decide +kernel)) (fun _ _ _ _ _ => (pg_name (i := 5) sc_law_nesting.nd rfl (.inl rfl))) (fun _ _ _ _ _ => pts_nil) (fun _ _ _ _ _ => (pe_ix (r := rIxT K) ix_tup (pv 5) pe_int (fun _ _ => rfl))))
      (pss_one (ps_dput (hu1 hr) (pv 1) (pe_ix ix_list (pv 4) pe_int (fun _ _ => rfl)) (pe_call G_law_reach (hr.mono (by decide)) (by rfl) T.D_law_reach.G T.D_law_reach.F.kp T.D_law_reach.B .nil pass0 (pa_cons (pv 4) (pa_cons (pe_ix ix_tup (pe_ix ix_tup (pv 3) pe_int (fun _ _ => rfl)) pe_int (fun _ _ => rfl)) (pa_cons (pv 1) pa_nil)))) rfl))) (pss_one (ps_set (i := 2) sc_law_nesting.nd rfl (.inl rfl) (pe_callB (call_max2 (by rfl)) (by rfl) T.n_max (by decide +kernel) (pa_cons (pv 2) (pa_cons (pe_call G_law_deep (hr.mono (by decide)) (by rfl) T.D_law_deep.G T.D_law_deep.F.kp T.D_law_deep.B .nil pass0 (pa_cons (pe_tup (pa_cons (pv 3) pa_nil)) (pa_cons pe_dnewK (pa_cons (pv 1) pa_nil)))) pa_nil))))))))
      (pss_one (ps_ret (pv 2)))))), ?_⟩
    intro D nD
    have s0 := same_upd (o := .dK []) (Same.refl H) nD
    refine ⟨_, rfl, p, rfl, ⟨_, SqT.of (s0 _ _ hp)⟩, ?_⟩
    refine for_tup (K := K) (a := p) (xs := us) (fun i σ' H' => ∃ (r : Tr) (z : Int) (kn : Kn) (sz : Sz) (fm rc : Fm) (b : Nat) (kvf : List (Key × V)) (x3 x4 : Option V), σ' = [some (.ref p), some (.ref D), some (.int z), x3, x4, none] ∧ Same H H' ∧ RepT H r (us.drop i) ∧ H' D = some (.dK kvf) ∧ (∀ n : List Nat, LKf H' (valV kvf (Sum.inr (mkS n))) (rc.lookup n)) ∧
      SzI kn sz fm b ∧ DzOk sz rc ∧ Grow (mcT r) sz b B ∧ chk r kn = none ∧ 0 ≤ z ∧ max z (ndL r rc) = ndL t [] ∧ wT (ndT r) ≤ 90000 ∧ depT (ndT r) < 20 ∧ depT (ndT r) ≤ depT (ndT t) ∧ kn.length ≤ 40 ∧ kvf.length = kn.length)
      ⟨t, 0, [], [], [], [], 0, [], none, none, rfl, s0, hR, upd_same, fun n => trivial, ⟨ks_nil, ⟨Nat.le_refl _, fun _ _ h => by cases h⟩, fun _ _ h => by cases h⟩, dz_nil, hg, hc, Int.le_refl 0, by have := ndL_nn t []; omega, hw, hd, Nat.le_refl _, by show 0 ≤ 40; decide, rfl⟩ ?_ ?_ ?_
    · rintro i σ' H' _ ⟨_, _, _, _, _, _, _, _, _, _, _, k, _⟩
      exact SqT.of (k _ _ hp)
    · rintro i x σ' H1 hx ⟨r, z, kn, sz, fm, rc, b, kvf, x3, x4, rfl, k1, hr1, eD, hL, si, dz, gr, ec, z0, ez, hw1, hd1, hd2, lkn, lkv⟩
      rw [drop_x hx] at hr1
      obtain ⟨nd, r2, rfl, hnd, hr2⟩ := hr1.first
      have hnd1 := hnd.keep (TKeep.same k1)
      have hfd : FmD H1 D rc := ⟨kvf, eD, hL⟩
      cases hdef : isDefN nd with
      | false =>
        have eN : ndT (nd.tr r2) = nd.tr (ndT r2) := by
          cases nd with
          | word wz => rfl
          | call n a =>
            have en : ¬ n = letN := of_decide_eq_false hdef
            simp only [Nd.tr, ndT]
            rw [if_neg en]
        have eM : mcT (nd.tr r2) = mcT r2 := by
          cases nd with
          | word wz => rfl
          | call n a =>
            have en : ¬ n = letN := of_decide_eq_false hdef
            simp only [Nd.tr, mcT]
            rw [if_neg en]
        have eLen : ndL (nd.tr r2) rc = max (ldT [] rc (nd.tr .nil)) (ndL r2 rc) := by
          cases nd with
          | word wz =>
            have := ndL_nn r2 rc
            simp only [Nd.tr, ndL, ldT]
            omega
          | call n a =>
            have en : ¬ n = letN := of_decide_eq_false hdef
            simp only [Nd.tr, ndL]
            rw [if_neg en]
        rw [chk_tr nd r2 kn hdef] at ec
        have h0 : fauN [] kn nd = [] := by
          cases e : fauN [] kn nd with
          | nil => rfl
          | cons f fs => rw [e] at ec; cases ec
        rw [h0] at ec
        have ec : chk r2 kn = none := ec
        rw [eN, w_tr] at hw1
        rw [eN, depT_tr] at hd1 hd2
        rw [eM] at gr
        rw [eLen] at ez
        have hbB := grow_le gr
        have hfN : fauT [] kn (nd.tr .nil) = [] := by rw [fauT_tr, h0]; simp only [fauT]; rfl
        have wfN := wfT_of si.ks hfN
        have dN : depT (nd.tr .nil) = depN nd := by rw [depT_tr]; simp only [depT]; omega
        have wNil : wT (nd.tr .nil) = wN nd := by rw [w_tr]; simp only [wT]; omega
        have lwN : LdT [] rc (nd.tr .nil) := ldw_of dz (fun _ _ h => by cases h) wfN
        have hone : ∀ H9, Same H1 H9 → RepT H9 (nd.tr .nil) [x] := fun H9 k9 => RepT.oneN (hnd1.keep (TKeep.same k9))
        have nxt : ∀ (H9 : Hp), Same H1 H9 → ∃ (r : Tr) (z' : Int) (kn : Kn) (sz : Sz) (fm2 rc2 : Fm) (b : Nat) (kvf : List (Key × V)) (x3' x4' : Option V), [some (V.ref p), some (V.ref D), some (V.int ((if ldT [] rc (nd.tr .nil) > z then ldT [] rc (nd.tr .nil) else z))), some x, x4, none] = [some (.ref p), some (.ref D), some (.int z'), x3', x4', none] ∧ Same H H9 ∧ RepT H r (us.drop (i + 1)) ∧ H9 D = some (.dK kvf) ∧ (∀ n : List Nat, LKf H9 (valV kvf (Sum.inr (mkS n))) (rc2.lookup n)) ∧
            SzI kn sz fm2 b ∧ DzOk sz rc2 ∧ Grow (mcT r) sz b B ∧ chk r kn = none ∧ 0 ≤ z' ∧ max z' (ndL r rc2) = ndL t [] ∧ wT (ndT r) ≤ 90000 ∧ depT (ndT r) < 20 ∧ depT (ndT r) ≤ depT (ndT t) ∧ kn.length ≤ 40 ∧ kvf.length = kn.length := by
          intro H9 k9
          have hT := ldT_nn (sg := []) (rc := rc) (nd.tr .nil)
          exact ⟨r2, (if ldT [] rc (nd.tr .nil) > z then ldT [] rc (nd.tr .nil) else z), kn, sz, fm, rc, b, kvf, _, _, rfl, k1.trans k9, hr2, k9 _ _ eD, fun n => (hL n).same k9, si, dz, gr, ec, by split <;> omega, by split <;> omega, by omega, by omega, by omega, lkn, lkv⟩
        cases nd with
        | word wz =>
          obtain ⟨pw, rfl, epw⟩ := hnd1
          refine ⟨_, rfl, pw, _, _, _, rfl, rfl, SqT.of epw, rfl, rfl, false, kc_word.2, ?_⟩
          refine ⟨_, rfl, _, rfl, by show 1 ≤ sizeLine; decide, fun tp ntp => ?_⟩
          intro sd nsd
          have u1 := same_upd (o := .tup [V.ref pw]) (Same.refl H1) ntp
          have u2 := same_upd (o := .dK []) (Same.refl _) nsd
          have k9 := u1.trans u2
          have etp := u2 _ _ (upd_same (H := H1) (a := tp) (o := .tup [V.ref pw]))
          have esd : upd (upd H1 tp (.tup [V.ref pw])) sd (.dK []) sd = some (.dK []) := upd_same
          generalize upd (upd H1 tp (.tup [V.ref pw])) sd (.dK []) = H9 at k9 etp esd ⊢
          refine ⟨_, rfl, tp, sd, D, [V.ref pw], _, [], [], rc, rfl, etp, hone H9 k9, by omega, esd, fun _ => rfl, hfd.same k9, lwN, by omega, fun H' k' => ?_⟩
          exact ⟨_, _, rfl, nxt H' (k9.trans k')⟩
        | call n a =>
          have en : ¬ n = letN := of_decide_eq_false hdef
          obtain ⟨pw, qa, ua, rfl, epw, eqa, hA⟩ := hnd1
          refine ⟨_, rfl, pw, _, _, _, rfl, rfl, SqT.of epw, rfl, rfl, true, kc_word.1, ?_⟩
          refine ⟨_, rfl, pw, _, _, _, rfl, rfl, SqT.of epw, rfl, rfl, false, by rw [let_sV, dec_s, decide_eq_false en], ?_⟩
          refine ⟨_, rfl, _, rfl, by show 1 ≤ sizeLine; decide, fun tp ntp => ?_⟩
          intro sd nsd
          have u1 := same_upd (o := .tup [V.ref pw]) (Same.refl H1) ntp
          have u2 := same_upd (o := .dK []) (Same.refl _) nsd
          have k9 := u1.trans u2
          have etp := u2 _ _ (upd_same (H := H1) (a := tp) (o := .tup [V.ref pw]))
          have esd : upd (upd H1 tp (.tup [V.ref pw])) sd (.dK []) sd = some (.dK []) := upd_same
          generalize upd (upd H1 tp (.tup [V.ref pw])) sd (.dK []) = H9 at k9 etp esd ⊢
          refine ⟨_, rfl, tp, sd, D, [V.ref pw], Nd.tr (.call n a) .nil, [], [], rc, rfl, etp, hone H9 k9, by omega, esd, fun _ => rfl, hfd.same k9, lwN, by omega, fun H' k' => ?_⟩
          obtain ⟨r', z', kn', sz', fm', rc', b', kvf', x3', x4', e', n'⟩ := nxt H' (k9.trans k')
          exact ⟨_, _, rfl, r', z', kn', sz', fm', rc', b', kvf', x3', x4', e', n'⟩
      | true =>
        cases nd with
        | word wz => cases hdef
        | call n a =>
          have en : n = letN := of_decide_eq_true hdef
          subst en
          have eC : chk (.call letN a r2) kn = match ltF kn a with | some f => some f | none => chk r2 (ltK kn a) := by
            simp only [chk]
            first
              | (rw [if_pos trivial]; done)
              | (rw [if_pos trivial]; cases ltF kn a <;> rfl)
          have ec : chk (.call letN a r2) kn = none := ec
          have h0 : ltF kn a = none := by
            rw [eC] at ec
            cases e : ltF kn a with
            | none => rfl
            | some f => rw [e] at ec; cases ec
          rw [eC, h0] at ec
          have ec : chk r2 (ltK kn a) = none := ec
          obtain ⟨m, ps, bd, el, hm, hf, hb, hn, hk⟩ := lt_none h0
          obtain ⟨t1, ea, ens, c1, c2, c3⟩ := letOf_ok el
          subst ea
          have l41 := ltK_len lkn h0
          rw [hk] at ec l41
          have eM : mcT (Nd.tr (.call letN (.cons t1 (.cons bd .nil))) r2) = (m, ps, bd) :: mcT r2 := by
            simp only [Nd.tr, mcT, mcA]
            rw [if_pos trivial, el]; rfl
          have eN : ndT (Nd.tr (.call letN (.cons t1 (.cons bd .nil))) r2) = ndT r2 := by
            simp only [Nd.tr, ndT]
            rw [if_pos trivial]
          have eLen : ndL (Nd.tr (.call letN (.cons t1 (.cons bd .nil))) r2) rc = ndL r2 (rc ++ [(m, reachL ps bd rc)]) := by
            simp only [Nd.tr, ndL]
            rw [if_pos trivial]
            unfold rcK
            rw [el]
          rw [eM] at gr
          rw [eN] at hw1 hd1 hd2
          rw [eLen] at ez
          obtain ⟨g1, g2, g3, g4, b', g5, g6, g7⟩ := gr
          obtain ⟨pw, qa, ua, rfl, epw, eqa, hA⟩ := hnd1
          obtain ⟨x0, us1, rfl⟩ : ∃ x0 us1, ua = x0 :: us1 := by
            cases ua with
            | nil => simp only [RepA] at hA; obtain ⟨_, _, _, z, _⟩ := hA; cases z
            | cons x0 us => exact ⟨_, _, rfl⟩
          obtain ⟨t2, a1, ea, ⟨tq, wq, rfl, etq, htq⟩, hA1⟩ := hA.first
          injection ea with ea1 ea2
          subst ea1 ea2
          obtain ⟨x1, us2, rfl⟩ : ∃ x1 us2, us1 = x1 :: us2 := by
            cases us1 with
            | nil => simp only [RepA] at hA1; obtain ⟨_, _, _, z, _⟩ := hA1; cases z
            | cons x1 us => exact ⟨_, _, rfl⟩
          obtain ⟨b1', a3, ea, ⟨bp, wb, rfl, ebp, hbT⟩, _⟩ := hA1.first
          injection ea with ea1 ea2
          subst ea1 ea2
          refine ⟨_, rfl, pw, _, _, _, rfl, rfl, SqT.of epw, rfl, rfl, true, kc_word.1, ?_⟩
          refine ⟨_, rfl, pw, _, _, _, rfl, rfl, SqT.of epw, rfl, rfl, true, by rw [let_sV, dec_s, decide_eq_true rfl], ?_⟩
          refine ⟨_, rfl, pw, _, 2, _, rfl, rfl, SqT.of epw, atI_nat (j := 2) rfl, qa, _, 0, _, rfl, rfl, SqT.of eqa, atI_nat (j := 0) rfl, tq, rfl, ⟨_, SqT.of etq⟩, fun F nF => ?_⟩
          refine lc_tup (K := K) (a := tq) (xs := wq) (fun i H' => ∃ (acc : List (List Nat)) (r : Tr), Same H1 H' ∧ H' F = some (.lst (acc.map sV)) ∧ acc.length = i ∧ i ≤ 4 ∧ RepT H1 r (wq.drop i) ∧ acc ++ nms r = nms t1 ∧ (nms r).length = lenT r ∧ i + lenT r = lenT t1)
            ⟨[], t1, same_upd (Same.refl H1) nF, upd_same, rfl, Nat.zero_le _, htq, rfl, c2, Nat.zero_add _⟩ ?_ ?_ ?_
          · rintro i H' _ ⟨_, _, k, _⟩
            exact SqT.of (k _ _ etq)
          · rintro i x H2 hx2 ⟨acc, r, k2, eF, la, l4, hra, ea, el2, el3⟩
            rw [drop_x hx2] at hra
            obtain ⟨nd, r3, rfl, hnd3, hr3⟩ := hra.first
            rw [nms_tr] at ea el2
            rw [lenT_trN] at el2 el3
            rw [List.length_append] at el2
            have hle := nms_len r3
            cases nd with
            | call n9 a9 =>
              have : (oneN (.call n9 a9)).length = 0 := rfl
              omega
            | word z9 =>
              have ho : oneN (.word z9) = if mayN z9 then [z9] else [] := rfl
              by_cases hmay : mayN z9 = true
              · rw [if_pos hmay] at ho
                rw [ho] at ea el2
                obtain ⟨p9, rfl, ep9⟩ := hnd3
                have l1 : [z9].length = 1 := rfl
                refine ⟨rfl, _, rfl, p9, _, 1, _, rfl, rfl, SqT.of (k2 _ _ ep9), atI_nat (j := 1) rfl, _, eF, by rw [List.length_map, la]; exact lt_size (by omega), acc ++ [z9], r3, same_mut k2 nF, by rw [upd_same, List.map_append]; rfl, by rw [List.length_append, la]; rfl, by omega, hr3, by rw [List.append_assoc]; exact ea, by omega, by omega⟩
              · rw [if_neg hmay] at ho
                rw [ho] at el2
                have : ([] : List (List Nat)).length = 0 := rfl
                omega
          rintro H2 ⟨acc, r, k2, eF, la, l4, hra, ea, el2, el3⟩
          rw [List.drop_length] at hra
          have er := hra.last
          subst er
          have ea : acc ++ [] = nms t1 := ea
          rw [List.append_nil, ← ens] at ea
          subst ea
          have k12 := k1.trans k2
          have lps : (m :: ps).length ≤ 4 := by rw [ens]; omega
          have lps : ps.length + 1 ≤ 4 := lps
          have wf := wfT_of si.ks hf
          refine ⟨_, rfl, _, rfl, pw, _, 2, _, rfl, rfl, SqT.of (k2 _ _ epw), atI_nat (j := 2) rfl, qa, _, 1, _, rfl, rfl, SqT.of (k2 _ _ eqa), atI_nat (j := 1) rfl, _, rfl, F, bp, D, m, ps, wb, bd, rc, rfl, eF, k2 _ _ ebp, RepT.keep (TKeep.same k2) hbT, g2, hfd.same k2, by omega, fun f => ldw_of dz (fun n9 e9 h9 => by rw [look_mapf, if_pos h9] at e9; cases e9) wf, g3, fun H3 R k3 nR eR => ?_⟩
          have k13 := k12.trans k3
          have eD3 := (k2.trans k3) _ _ eD
          have eF3 := k3 _ _ eF
          have hL3 := fun n => ((hL n).same k2).same k3
          have n1 : ∀ xs, H3 D ≠ some (.lst xs) := fun xs z => by rw [eD3] at z; cases z
          have hRD : R ≠ D := fun z => by rw [z, eD3] at eR; cases eR
          refine ⟨_, rfl, _, rfl, F, _, 0, _, rfl, rfl, SqL.of eF3, atI_nat (j := 0) rfl, D, _, rfl, DPut.k (k := Sum.inr (mkS m)) eD3 (by rw [lkv]; exact lt_size (by omega)), ?_⟩
          have hfr : rc.lookup m = none := by
            have h := dz_some si.ks dz m
            rw [hm] at h
            cases e : rc.lookup m with
            | none => rfl
            | some y => rw [e] at h; cases h
          have hvn : valV kvf (Sum.inr (mkS m)) = none := by
            have h := hL m
            rw [hfr] at h
            cases e : valV kvf (Sum.inr (mkS m)) with
            | none => rfl
            | some u => rw [e] at h; exact h.elim
          obtain ⟨e1, e2, e3⟩ := reach_ok dz hn wf
          have l3 := (form_ok si.ks.ok hn wf).2.2
          have dz2 := dz.step (m := m) e2 e3 (by rw [l3]; omega)
          rw [e1] at dz2
          refine ⟨r2, z, kn ++ [(m, ps.length)], _, fm ++ [(m, formL ps bd fm)], rc ++ [(m, reachL ps bd rc)], b', putK kvf (Sum.inr (mkS m)) (.ref R), _, _, rfl, same_mut k13 nD, hr2, upd_same, fun n9 => ?_, si.step2 (x := (m, ps, bd)) hm hf hb hn g1 g5 g6, dz2, g7, ec, z0, ez, hw1, hd1, hd2, l41, by rw [putK_new _ hvn, List.length_append, List.length_append, lkv]; rfl⟩
          rw [valV_put, look_app]
          have h9 := hL3 n9
          cases e1 : rc.lookup n9 with
          | some f9 =>
            have hne : n9 ≠ m := fun z => by rw [z, hfr] at e1; cases e1
            rw [if_neg (fun z => hne (mkS_inj (Sum.inr.inj z)))]
            rw [e1] at h9
            exact LKf.upd n1 h9
          | none =>
            rw [e1] at h9
            show LKf _ _ (if n9 = m then some (reachL ps bd rc) else none)
            by_cases hne : n9 = m
            · rw [if_pos hne, if_pos (by rw [hne])]
              exact ⟨R, rfl, by rw [upd_ne hRD]; exact eR⟩
            · rw [if_neg hne, if_neg (fun z => hne (mkS_inj (Sum.inr.inj z)))]
              exact LKf.upd n1 h9
    · rintro σ' H1 ⟨r, z, kn, sz, fm, rc, b, kvf, x3, x4, rfl, k1, hr1, eD, hL, si, dz, gr, ec, z0, ez, _⟩
      rw [List.drop_length] at hr1
      have er := hr1.last
      subst er
      have ez : max z 0 = ndL t [] := ez
      have ez : z = ndL t [] := by omega
      subst ez
      exact ⟨_, rfl, q H1 k1⟩
end
end Vf

set_option Elab.async false
set_option linter.all false
set_option maxRecDepth 100000
set_option maxHeartbeats 4000000
namespace Vf
open PySem PySem.Spec PyProof.Rows L2 TL
/-! ### within an except suite, whatever own class was raised -/
theorem takesN0 {X : Cx} : L2N.Takes X (fun _ _ _ _ => False) := fun _ _ x => by
  obtain ⟨_, _, _, _, _, _, _, _, _, _, _, _, _, _, _, _, z⟩ := x
  exact z.elim
def rIsAny (K : PySem.W.Frag) (cls : Value) (dd : Option Addr) (a : Addr) (xs : List V) (H : Hp) (Q : VK) : Prop :=
  ∃ (D d : Addr) (c : V) (cv : Value) (b : Bool) (fs : List (Str × V)), cls = .ref D ∧ dd = some d ∧ ExcC K D ∧ xs = [.ref a, c] ∧ ClsV c cv ∧ PySem.W.kitOne K (.ref D) cv = some b ∧ H d = some (.xd fs) ∧ Q (.bl b) H
def tXpA (K : PySem.W.Frag) (cls : Value) (dd : Option Addr) (a : Addr) (n : Str) (te : TE) (σ : L2.St) (H : Hp) (Q : VK) : Prop :=
  te σ H fun x H1 => ∃ (D d : Addr) (fs : List (Str × V)) (v : V), cls = .ref D ∧ dd = some d ∧ XfC K D ∧ PySem.W.findIn K (.ref D) n = some none ∧ x = .ref a ∧ H1 d = some (.xd fs) ∧ fs.lookup n = some v ∧ Q v H1
section
variable {X : Cx} {a : Addr} {oe : Obj} {cls : Value} {dd : Option Addr} {pn : List (Addr × Obj)}
theorem call_isAny (hz : L2N.Zn cls dd oe) (hf : ∃ vs, oe.data = .fields vs) : CallR (X.suite a ((a, oe) :: pn)) (.builtin "isinstance") (rIsAny X.K cls dd a) := by
  intro pins s σ H xs us Q I r h
  obtain ⟨D, d, c, cv, b, fs, rfl, rfl, C, rfl, h1, h2, h3, q⟩ := h
  exact call_isP (X := X.suite a ((a, oe) :: pn)) (p := (a, oe)) C ⟨hz.zc, hf⟩ List.mem_cons_self pins s σ H _ us Q I r ⟨c, cv, b, fs, rfl, h1, h2, h3, q⟩
theorem pe_xpAny {e : Expr} {te : TE} {pos : Pos} {n : Str} (hz : L2N.Zn cls dd oe) (hf : ∃ vs, oe.data = .fields vs) (he : PE (X.suite a ((a, oe) :: pn)) e te)
    (hb : attributeBase e n (X.suite a ((a, oe) :: pn)).env (eval e (X.suite a ((a, oe) :: pn)).env) = eval e (X.suite a ((a, oe) :: pn)).env := by rfl) : PE (X.suite a ((a, oe) :: pn)) (.Attribute e n pos) (tXpA X.K cls dd a n te) := by
  constructor
  intro pins s σ H Q I h
  refine attr_of hb (thn (he.run pins s σ H _ I h) fun u s1 hh => ?_)
  obtain ⟨x, H1, I1, rx, D, d, fs, v, e1, e2, C, hno, ex, hd, l, q⟩ := hh
  subst ex e1 e2
  have eu : u = Value.ref a := rx
  subst eu
  have c : ExcAt X.K D d (a, oe) := ⟨hz.zc, hf⟩
  obtain ⟨od, mA, J, hl, hr⟩ := ExcAt.inst (X := X.suite a ((a, oe) :: pn)) c I1 List.mem_cons_self hd
  obtain ⟨y, hy, ry⟩ := RelO.some_of (v := v) (o := mA n) (by rw [← l]; exact hr n)
  exact HandSPX.exc_get I1.kIn J C.ga C.gg C.exC (PySem.W.findObj_own C.hdC hno rfl (by rw [hl, hy])) (handed_of ry) ⟨v, H1, I1.tok _, ry, q⟩
end
/-! ### list.index over bools -/
def rIxB (K : PySem.W.Frag) : V → List V → Hp → VK → Prop := fun x xs H Q => ∃ (p : Addr) (bs : List Bool) (k : Bool), x = .ref p ∧ xs = [.bl k] ∧ SqL K H p (bs.map V.bl) ∧ k ∈ bs ∧ Q (.int (bs.idxOf k : Nat)) H
theorem mt_index {X : Cx} : MtR X "list.index" (rIxB X.K) := by
  intro pins s σ H x xs v us Q I rx rxs h
  obtain ⟨p, bs, k, rfl, rfl, hs, hk, q⟩ := h
  cases rx
  obtain ⟨u, rfl, ru⟩ := rxs.one
  have eu : u = Value.bool k := ru
  subst eu
  obtain ⟨its, rv, ⟨ob, n, ho, hc, hdn, hd⟩, hlen⟩ := I.list hs
  have ei := bools_of rv
  subst ei
  have e1 : (bs.map Value.bool).length = bs.length := List.length_map ..
  refine PySem.SeqAt.call_list_index (ks := bs) ⟨ob, ho, hc, n, hd⟩ ⟨e1, fun j h1 h2 => ?_⟩ ?_ hk ⟨.int (bs.idxOf k : Nat), H, I.tok _, ⟨s.toks, rfl⟩, q⟩
  · have e2 : (bs.map Value.bool)[j] = Value.bool bs[j] := List.getElem_map ..
    have e3 : decide (bs[j] = k) = (bs[j] == k) := by cases bs[j] <;> cases k <;> rfl
    rw [e2, e3]
    exact PySem.SeqAt.EqAt.bool_bool bs[j] k
  · simpa [e1] using hlen
/-! ### within a suite: the rules that name the kept facts, with the outer room's own -/
section
variable {X : Cx} {a : Addr} {pn : List (Addr × Obj)}
theorem mt_bcountS : MtR (X.suite a pn) "list.count" (rCntB X.K) := mt_bcount
theorem mt_indexS : MtR (X.suite a pn) "list.index" (rIxB X.K) := mt_index
theorem op_eqDS (hu : X.A.units + 64 < cLine) : OpR (X.suite a pn) (compareOp .Eq) (rEqD X.K) := op_eqD (X := X.suite a pn) hu
theorem ix_listS : IxR (X.suite a pn) (rIxL X.K) := ix_list
theorem pe_bmS {o e : Expr} {es : List Expr} {to : TE} {t : TA} {name : Str} {apos cpos : Pos} {T id : String} {r : V → List V → Hp → VK → Prop}
    (pa : PlainAttrs T) (slot : Slot T name id) (hty : typeOf (.builtin id) = pure (.type "method_descriptor")) (hm : MtR (X.suite a pn) id r) (ho : PE (X.suite a pn) o to) (ha : PA (X.suite a pn) (e :: es) t)
    (hbase : attributeBase o name (X.suite a pn).env (eval o (X.suite a pn).env) = eval o (X.suite a pn).env := by rfl)
    (hfew : ((backTo cpos (starEach (e :: es) (X.suite a pn).env)).all (fun x => !x.1) && (backToKw cpos (keywordEach [] (X.suite a pn).env)).all (fun x => x.1.isSome)
      && decide ((e :: es).length + ([] : List Keyword).length + (if ([] : List Keyword).isEmpty then 0 else 1) < 30)) = true := by rfl)
    (hline : (apos.endLine == cpos.line) = true := by rfl) (hs : starEach (e :: es) (X.suite a pn).env = (false, eval e (X.suite a pn).env) :: starEach es (X.suite a pn).env := by rfl)
    (hplain : (backTo cpos (starEach es (X.suite a pn).env)).any (·.1) = false := by rfl) : PE (X.suite a pn) (.Call (.Attribute o name apos) (e :: es) [] cpos) (tBM X.K T r to t) :=
  pe_bm (X := X.suite a pn) pa slot hty hm ho ha hbase hfew hline hs hplain
end
theorem call_isiT {X : Cx} {pn} {xe} : CallR (X.tr pn xe) (.builtin "isinstance") (rIsi X.K) := call_isi (X := X.tr pn xe)
theorem gX {X : Cx} {ss : List Stmt} {R : _ → Prop}
    (c : (∀ (a : Addr) {oe : Obj} {cls : Value} {dd : Option Addr} (pn : List (Addr × Obj)), L2N.Zn cls dd oe → (∃ vs, oe.data = .fields vs) → CallR (X.suite a ((a, oe) :: pn)) (.builtin "isinstance") (rIsAny X.K cls dd a)) →
      (∀ (a : Addr) {oe : Obj} {cls : Value} {dd : Option Addr} (pn : List (Addr × Obj)) {e : Expr} {te : TE} {pos : Pos} {n : Str}, L2N.Zn cls dd oe → (∃ vs, oe.data = .fields vs) → PE (X.suite a ((a, oe) :: pn)) e te →
        attributeBase e n (X.suite a ((a, oe) :: pn)).env (eval e (X.suite a ((a, oe) :: pn)).env) = eval e (X.suite a ((a, oe) :: pn)).env → PE (X.suite a ((a, oe) :: pn)) (.Attribute e n pos) (tXpA X.K cls dd a n te)) →
      ∃ t, PSs X ss t ∧ R t) : ∃ t, PSs X ss t ∧ R t :=
  c (fun _ _ _ _ _ hz hf => call_isAny hz hf) (fun _ _ _ _ _ _ _ _ _ hz hf he hb => pe_xpAny hz hf he hb)
theorem isA {K : PySem.W.Frag} {D d a : Addr} {c : V} {cv : Value} {b : Bool} {fs : List (Str × V)} {H : Hp} {Q : VK} (C : ExcC K D) (hc : ClsV c cv) (hk : PySem.W.kitOne K (.ref D) cv = some b) (hd : H d = some (.xd fs)) (q : Q (.bl b) H) :
    rIsAny K (.ref D) (some d) a [.ref a, c] H Q := ⟨D, d, c, cv, b, fs, rfl, rfl, C, rfl, hc, hk, hd, q⟩
section
variable {P : Program} {w : World} {K : PySem.W.Frag} {mg : Str → Option Value} {base : Heap}
def OLV (H : Hp) (v : V) (t : Tr) : Prop := match chk t [] with
  | none => ∃ c, v = .ref c ∧ H c = some (.tup [.str "nesting", .int (ndL t [])])
  | some f => FV H v f
def GrowT (t : Tr) : Prop := ∃ B, Grow (mcT t) [] 0 B ∧ wT (ndT t) ≤ 90000 ∧ depT (ndT t) < 20 ∧ B * (depT (ndT t) + 2) + 20 ≤ 1000000
def spTold : Sp := fun vs H Q _ => ∃ (p : Addr) (us : List V) (t : Tr), vs = [.ref p] ∧ H p = some (.tup us) ∧ RepT H t us ∧ us.length ≤ 100000 ∧ depT t < 40 ∧ BT 1000 t ∧ (toksT t).length ≤ 100000 ∧ (chk t [] = none → GrowT t) ∧ ∀ H' v, Same H H' → OLV H' v t → Q v H'
theorem ok_told (T : Txt K mg) : FnOk P w K mg base CX0 49 T.a_law_told T.d_law_told ["_law_tree_here"] spTold := by
  have G_nesting_of : FnOk P w K mg base (L2N.CX P w) 48 T.a_nesting_of T.d_nesting_of ["tree"] (spNestingOf T) := ok_nesting_of T
  refine T.D_law_told.F.ok sc_law_told (fun vs H Q E h => ?_) (fun cdv A outer s H vs Q E hr h => ?_)
  · obtain ⟨p, us, t, rfl, _⟩ := h
    rfl
  · obtain ⟨p, us, t, rfl, hp, hR, hul, hd, hB, hl, hG, q⟩ := h
    have hu := Room.units hr
    refine gX fun cia xpa => ?_
    refine' ⟨_, pss_one (L2N.ps_try_as (i := 2) (Wout := fun _ _ _ _ => False) rfl rfl sc_law_told.nd rfl rfl ⟨rfl, by decide, Or.inl T.C_PagesError.G⟩ takesN0 ?tbg ?tsg), ?_⟩
    case tbg =>
      intro W pn xe tk _
      exact (pss_cons (ps_set (i := 1) sc_law_told.nd rfl (.inl rfl) (pe_callS G_nesting_of (hr.mono (by decide)) rfl T.D_nesting_of.G T.D_nesting_of.F.kp T.D_nesting_of.B (fun σ => L2N.passAt tk σ) (pa_cons (pv 0) pa_nil)))
      (pss_cons (ps_if (PW.pt (pw_and (pt_val (pe_callB call_isiT (by rfl) T.n_isinstance (by decide +kernel) (pa_cons (pv 1) (pa_cons (pe_bltn (v := .ty "int") (by rfl) T.n_int (by decide +kernel) rfl) pa_nil)))) (pw_and1 (pt_not (pt_val (pe_callB call_isiT (by rfl) T.n_isinstance (by decide +kernel) (pa_cons (pv 1) (pa_cons (pe_bltn (v := .ty "bool") (by rfl) T.n_bool (by decide +kernel) rfl) pa_nil)))))))) (pss_one (ps_ret (pe_tup (pa_cons pe_str (pa_cons (pv 1) pa_nil))))) pss_nil)
      (pss_one (ps_ret (pe_tup (pa_cons pe_str (pa_cons pe_str pa_nil)))))))
    case tsg =>
      intro a oe cls d pn hz hf
      exact (pss_cons (ps_set (i := 3) sc_law_told.nd rfl (.inl rfl) (pe_lst (pa_cons (pe_callB (cia a pn hz hf) (by rfl) T.n_isinstance (by decide +kernel) (pa_cons (pv 2) (pa_cons (pe_bltn (v := .ty "ValueError") (by rfl) T.n_ValueError (by decide +kernel) rfl) pa_nil))) (pa_cons (pe_callB (cia a pn hz hf) (by rfl) T.n_isinstance (by decide +kernel) (pa_cons (pv 2) (pa_cons (pe_glob (v := .ref T.c_RecordError) (by rfl) T.C_RecordError.G rfl) pa_nil))) (pa_cons (pe_callB (cia a pn hz hf) (by rfl) T.n_isinstance (by decide +kernel) (pa_cons (pv 2) (pa_cons (pe_glob (v := .ref T.c_LimitError) (by rfl) T.C_LimitError.G rfl) pa_nil))) pa_nil)))))
      (pss_cons (ps_expr (pe_bmS PySem.F.plainAttrs_list PySem.F.slot_list_append PySem.F.type_list_append mt_append (pv 3) (pa_cons (pe_callB (cia a pn hz hf) (by rfl) T.n_isinstance (by decide +kernel) (pa_cons (pv 2) (pa_cons (pe_glob (v := .ref T.c_GivenError) (by rfl) T.C_GivenError.G rfl) pa_nil))) pa_nil)))
      (pss_cons (ps_set (i := 4) sc_law_told.nd rfl (.inl rfl) (pe_lst (pa_cons (pe_callB (cia a pn hz hf) (by rfl) T.n_isinstance (by decide +kernel) (pa_cons (pv 2) (pa_cons (pe_glob (v := .ref T.c_BadText) (by rfl) T.C_BadText.G rfl) pa_nil))) (pa_cons (pe_callB (cia a pn hz hf) (by rfl) T.n_isinstance (by decide +kernel) (pa_cons (pv 2) (pa_cons (pe_glob (v := .ref T.c_BadCall) (by rfl) T.C_BadCall.G rfl) pa_nil))) (pa_cons (pe_callB (cia a pn hz hf) (by rfl) T.n_isinstance (by decide +kernel) (pa_cons (pv 2) (pa_cons (pe_glob (v := .ref T.c_Misplaced) (by rfl) T.C_Misplaced.G rfl) pa_nil))) (pa_cons (pe_callB (cia a pn hz hf) (by rfl) T.n_isinstance (by decide +kernel) (pa_cons (pv 2) (pa_cons (pe_glob (v := .ref T.c_Unknown) (by rfl) T.C_Unknown.G rfl) pa_nil))) (pa_cons (pe_callB (cia a pn hz hf) (by rfl) T.n_isinstance (by decide +kernel) (pa_cons (pv 2) (pa_cons (pe_glob (v := .ref T.c_Twice) (by rfl) T.C_Twice.G rfl) pa_nil))) pa_nil)))))))
      (pss_cons (ps_set (i := 5) sc_law_told.nd rfl (.inl rfl) (pe_lst (pa_cons (pe_callB (cia a pn hz hf) (by rfl) T.n_isinstance (by decide +kernel) (pa_cons (pv 2) (pa_cons (pe_glob (v := .ref T.c_TooLong) (by rfl) T.C_TooLong.G rfl) pa_nil))) (pa_cons (pe_callB (cia a pn hz hf) (by rfl) T.n_isinstance (by decide +kernel) (pa_cons (pv 2) (pa_cons (pe_glob (v := .ref T.c_TooLarge) (by rfl) T.C_TooLarge.G rfl) pa_nil))) (pa_cons (pe_callB (cia a pn hz hf) (by rfl) T.n_isinstance (by decide +kernel) (pa_cons (pv 2) (pa_cons (pe_glob (v := .ref T.c_TooMany) (by rfl) T.C_TooMany.G rfl) pa_nil))) (pa_cons (pe_callB (cia a pn hz hf) (by rfl) T.n_isinstance (by decide +kernel) (pa_cons (pv 2) (pa_cons (pe_glob (v := .ref T.c_TooWide) (by rfl) T.C_TooWide.G rfl) pa_nil))) (pa_cons (pe_callB (cia a pn hz hf) (by rfl) T.n_isinstance (by decide +kernel) (pa_cons (pv 2) (pa_cons (pe_glob (v := .ref T.c_TooTall) (by rfl) T.C_TooTall.G rfl) pa_nil))) pa_nil)))))))
      (pss_cons (ps_if (PW.pt (pw_and (pt_cmpR (op_eqDS hu) (pv 3) (pe_lst (pa_cons pe_bl (pa_cons pe_bl (pa_cons pe_bl (pa_cons pe_bl pa_nil))))) (nomark _)) (pw_and (pt_cmpR op_eq (pe_bmS PySem.F.plainAttrs_list PySem.F.slot_list_count PySem.F.type_list_count mt_bcountS (pv 4) (pa_cons pe_bl pa_nil)) pe_int (nomark _)) (pw_and1 (pt_cmpR op_eq (pe_bmS PySem.F.plainAttrs_list PySem.F.slot_list_count PySem.F.type_list_count mt_bcountS (pv 5) (pa_cons pe_bl pa_nil)) pe_int (nomark _)))))) (pss_cons (ps_if (pt_val (pe_ix ix_listS (pv 5) pe_int (fun _ _ => rfl))) (pss_one (ps_ret (pe_tup (pa_cons pe_str (pa_cons (xpa a pn hz hf (pv 2) rfl) pa_nil))))) pss_nil)
      (pss_one (ps_if (pt_val (pe_ix ix_listS (pv 5) pe_int (fun _ _ => rfl))) (pss_one (ps_ret (pe_tup (pa_cons pe_str (pa_cons (xpa a pn hz hf (pv 2) rfl) pa_nil))))) pss_nil))) pss_nil)
      (pss_cons (ps_if (PW.pt (pw_and (pt_cmpR (op_eqDS hu) (pv 3) (pe_lst (pa_cons pe_bl (pa_cons pe_bl (pa_cons pe_bl (pa_cons pe_bl pa_nil))))) (nomark _)) (pw_and (pt_cmpR op_eq (pe_bmS PySem.F.plainAttrs_list PySem.F.slot_list_count PySem.F.type_list_count mt_bcountS (pv 4) (pa_cons pe_bl pa_nil)) pe_int (nomark _)) (pw_and1 (pt_cmpR op_eq (pe_bmS PySem.F.plainAttrs_list PySem.F.slot_list_count PySem.F.type_list_count mt_bcountS (pv 5) (pa_cons pe_bl pa_nil)) pe_int (nomark _)))))) (pss_cons (ps_if (pt_val (pe_ix ix_listS (pv 4) pe_int (fun _ _ => rfl))) (pss_one (ps_ret (pe_tup (pa_cons pe_str (pa_cons (xpa a pn hz hf (pv 2) rfl) pa_nil))))) pss_nil)
      (pss_cons (ps_set (i := 6) sc_law_told.nd rfl (.inl rfl) (pe_ix ix_listS (pe_lst (pa_cons pe_str (pa_cons pe_str (pa_cons pe_str (pa_cons pe_str (pa_cons pe_str pa_nil)))))) (pe_bmS PySem.F.plainAttrs_list PySem.F.slot_list_index PySem.F.type_list_index mt_indexS (pv 4) (pa_cons pe_bl pa_nil)) (fun _ _ => rfl)))
      (pss_one (ps_ret (pe_tup (pa_cons (pv 6) (pa_cons (xpa a pn hz hf (pv 2) rfl) pa_nil))))))) pss_nil)
      (pss_one (ps_ret (pe_tup (pa_cons pe_str (pa_cons pe_str pa_nil)))))))))))
    refine ⟨_, rfl, p, us, t, rfl, hp, hR, hul, hd, hB, hl, fun f ec H1 d s1 hd => ?_, fun ec => ?_⟩
    rotate_left
    · obtain ⟨B, g1, g2, g3, g4⟩ := hG ec
      refine ⟨B, g1, g2, g3, g4, fun H1 s1 => ?_⟩
      refine ⟨_, rfl, _, _, .type "int", .type "int", true, rfl, .ty _, .base (.int _), kit_ty (by decide +kernel), true, rfl, ?_⟩
      refine ⟨_, rfl, _, _, .type "int", .type "bool", false, rfl, .ty _, .base (.int _), kit_ty (by decide +kernel), false, rfl, ?_⟩
      refine ⟨_, rfl, by show 2 ≤ sizeLine; decide, fun c nc => ?_⟩
      refine q _ (.ref c) (s1.trans (same_upd (Same.refl H1) nc)) ?_
      unfold OLV
      rw [ec]
      exact ⟨c, rfl, upd_same⟩
    · have kp : ∀ {H' : Hp} {v : V}, Same H1 H' → FV H' v f → Q v H' := fun s2 hv => q _ _ (s1.trans s2) (by unfold OLV; rw [ec]; exact hv)
      cases f with
      | bad n =>
        refine ⟨true, T.x_BadCall, fun _ a ha => ?_, fun z => nomatch z⟩
        refine ⟨_, rfl, _, _, _, _, _, _, rfl, rfl, T.E_BadCall.EC, rfl, .ty _, T.v_BadCall, hd, ⟨_, rfl, _, _, _, _, _, _, rfl, rfl, T.E_BadCall.EC, rfl, .own _, T.k_BadCall_RecordError, hd, ⟨_, rfl, _, _, _, _, _, _, rfl, rfl, T.E_BadCall.EC, rfl, .own _, T.k_BadCall_LimitError, hd, ⟨by show 3 ≤ sizeLine; decide, fun c1 n1 => ?_⟩⟩⟩⟩
        have s2 : Same H1 (upd (upd H1 c1 (.lst [.bl true, .bl true, .bl false])) c1 (.lst ([.bl true, .bl true, .bl false] ++ [.bl false]))) := same_mut (same_upd (Same.refl H1) n1) n1
        have e2 : (upd (upd H1 c1 (.lst [.bl true, .bl true, .bl false])) c1 (.lst ([.bl true, .bl true, .bl false] ++ [.bl false]))) c1 = some (.lst [.bl true, .bl true, .bl false, .bl false]) := upd_same
        have hd1 := (same_upd (o := .lst [.bl true, .bl true, .bl false]) (Same.refl H1) n1) _ _ hd
        refine ⟨_, rfl, .inl ⟨rfl, _, SqL.of upd_same⟩, ⟨_, rfl, _, _, _, _, _, _, rfl, rfl, T.E_BadCall.EC, rfl, .own _, T.k_BadCall_GivenError, hd1, c1, _, _, rfl, rfl, upd_same, by show 3 < sizeLine; decide, ?_⟩⟩
        generalize (upd (upd H1 c1 (.lst [.bl true, .bl true, .bl false])) c1 (.lst ([.bl true, .bl true, .bl false] ++ [.bl false]))) = H2 at s2 e2 ⊢
        have hd2 := s2 _ _ hd
        refine ⟨_, rfl, _, _, _, _, _, _, rfl, rfl, T.E_BadCall.EC, rfl, .own _, T.k_BadCall_BadText, hd2, ⟨_, rfl, _, _, _, _, _, _, rfl, rfl, T.E_BadCall.EC, rfl, .own _, T.k_BadCall_BadCall, hd2, ⟨_, rfl, _, _, _, _, _, _, rfl, rfl, T.E_BadCall.EC, rfl, .own _, T.k_BadCall_Misplaced, hd2, ⟨_, rfl, _, _, _, _, _, _, rfl, rfl, T.E_BadCall.EC, rfl, .own _, T.k_BadCall_Unknown, hd2, ⟨_, rfl, _, _, _, _, _, _, rfl, rfl, T.E_BadCall.EC, rfl, .own _, T.k_BadCall_Twice, hd2, ⟨by show 5 ≤ sizeLine; decide, fun c3 n3 => ?_⟩⟩⟩⟩⟩⟩
        have s3 := same_upd (o := .lst [.bl false, .bl true, .bl false, .bl false, .bl false]) s2 n3
        have e3 : upd H2 c3 (.lst [.bl false, .bl true, .bl false, .bl false, .bl false]) c1 = _ := same_upd (Same.refl H2) n3 _ _ e2
        have r3 : upd H2 c3 (.lst [.bl false, .bl true, .bl false, .bl false, .bl false]) c3 = _ := upd_same
        generalize upd H2 c3 (.lst [.bl false, .bl true, .bl false, .bl false, .bl false]) = H3 at s3 e3 r3 ⊢
        have hd3 := s3 _ _ hd
        refine ⟨_, rfl, _, _, _, _, _, _, rfl, rfl, T.E_BadCall.EC, rfl, .own _, T.k_BadCall_TooLong, hd3, ⟨_, rfl, _, _, _, _, _, _, rfl, rfl, T.E_BadCall.EC, rfl, .own _, T.k_BadCall_TooLarge, hd3, ⟨_, rfl, _, _, _, _, _, _, rfl, rfl, T.E_BadCall.EC, rfl, .own _, T.k_BadCall_TooMany, hd3, ⟨_, rfl, _, _, _, _, _, _, rfl, rfl, T.E_BadCall.EC, rfl, .own _, T.k_BadCall_TooWide, hd3, ⟨_, rfl, _, _, _, _, _, _, rfl, rfl, T.E_BadCall.EC, rfl, .own _, T.k_BadCall_TooTall, hd3, ⟨by show 5 ≤ sizeLine; decide, fun c4 n4 => ?_⟩⟩⟩⟩⟩⟩
        have t4 := same_upd (o := .lst [.bl false, .bl false, .bl false, .bl false, .bl false]) (Same.refl H3) n4
        have s4 := s3.trans t4
        have e4 := t4 _ _ e3
        have r4 := t4 _ _ r3
        have l4 : upd H3 c4 (.lst [.bl false, .bl false, .bl false, .bl false, .bl false]) c4 = _ := upd_same
        generalize upd H3 c4 (.lst [.bl false, .bl false, .bl false, .bl false, .bl false]) = H4 at s4 e4 r4 l4 t4 ⊢
        refine ⟨_, rfl, by show 4 ≤ sizeLine; decide, fun c5 n5 => ?_⟩
        have t5 := same_upd (o := .lst [.bl true, .bl false, .bl true, .bl false]) (Same.refl H4) n5
        have s5 := s4.trans t5
        have e5 := t5 _ _ e4
        have r5 := t5 _ _ r4
        have l5 := t5 _ _ l4
        have m5 : upd H4 c5 (.lst [.bl true, .bl false, .bl true, .bl false]) c5 = _ := upd_same
        generalize upd H4 c5 (.lst [.bl true, .bl false, .bl true, .bl false]) = H5 at s5 e5 r5 l5 t5 m5 ⊢
        refine ⟨_, _, .lst (SqL.of e5) (.cons (.bl _) (.cons (.bl _) (.cons (.bl _) (.cons (.bl _) .nil)))), .lst (SqL.of m5) (.cons (.bl _) (.cons (.bl _) (.cons (.bl _) (.cons (.bl _) .nil)))), rfl, rfl, false, rfl, ?_⟩
        refine ⟨_, rfl, by show 4 ≤ sizeLine; decide, fun c6 n6 => ?_⟩
        have t6 := same_upd (o := .lst [.bl true, .bl true, .bl false, .bl false]) (Same.refl H5) n6
        have s6 := s5.trans t6
        have e6 := t6 _ _ e5
        have r6 := t6 _ _ r5
        have l6 := t6 _ _ l5
        have m6 : upd H5 c6 (.lst [.bl true, .bl true, .bl false, .bl false]) c6 = _ := upd_same
        generalize upd H5 c6 (.lst [.bl true, .bl true, .bl false, .bl false]) = H6 at s6 e6 r6 l6 t6 m6 ⊢
        refine ⟨_, _, .lst (SqL.of e6) (.cons (.bl _) (.cons (.bl _) (.cons (.bl _) (.cons (.bl _) .nil)))), .lst (SqL.of m6) (.cons (.bl _) (.cons (.bl _) (.cons (.bl _) (.cons (.bl _) .nil)))), rfl, rfl, true, rfl, ?_⟩
        refine ⟨_, rfl, .inl ⟨rfl, _, SqL.of r6⟩, c3, [false, true, false, false, false], true, rfl, rfl, SqL.of r6, by trivial, true, rfl, ?_⟩
        refine ⟨_, rfl, .inl ⟨rfl, _, SqL.of l6⟩, c4, [false, false, false, false, false], true, rfl, rfl, SqL.of l6, by trivial, true, rfl, ?_⟩
        refine ⟨_, rfl, _, _, _, _, rfl, rfl, SqL.of r6, rfl, false, rfl, ?_⟩
        refine ⟨by show 5 ≤ sizeLine; decide, fun c7 n7 => ?_⟩
        have t7 := fun (o : HO) => same_upd (o := o) (Same.refl H6) n7
        have s7 := fun (o : HO) => s6.trans (t7 o)
        refine ⟨_, rfl, .inl ⟨rfl, _, SqL.of (t7 _ _ _ r6)⟩, c3, [false, true, false, false, false], true, rfl, rfl, SqL.of (t7 _ _ _ r6), by decide, _, _, _, _, rfl, rfl, SqL.of upd_same, rfl, ?_⟩
        exact ⟨_, rfl, _, rfl, _, d, _, _, rfl, rfl, T.E_BadCall.XC, T.E_BadCall.no "name" (by simp), rfl, s7 _ _ _ hd, rfl, by show 2 ≤ sizeLine; decide, fun c8 n8 => kp (same_upd (s7 _) n8) ⟨c8, rfl, upd_same⟩⟩
      | unk n =>
        refine ⟨true, T.x_Unknown, fun _ a ha => ?_, fun z => nomatch z⟩
        refine ⟨_, rfl, _, _, _, _, _, _, rfl, rfl, T.E_Unknown.EC, rfl, .ty _, T.v_Unknown, hd, ⟨_, rfl, _, _, _, _, _, _, rfl, rfl, T.E_Unknown.EC, rfl, .own _, T.k_Unknown_RecordError, hd, ⟨_, rfl, _, _, _, _, _, _, rfl, rfl, T.E_Unknown.EC, rfl, .own _, T.k_Unknown_LimitError, hd, ⟨by show 3 ≤ sizeLine; decide, fun c1 n1 => ?_⟩⟩⟩⟩
        have s2 : Same H1 (upd (upd H1 c1 (.lst [.bl true, .bl true, .bl false])) c1 (.lst ([.bl true, .bl true, .bl false] ++ [.bl false]))) := same_mut (same_upd (Same.refl H1) n1) n1
        have e2 : (upd (upd H1 c1 (.lst [.bl true, .bl true, .bl false])) c1 (.lst ([.bl true, .bl true, .bl false] ++ [.bl false]))) c1 = some (.lst [.bl true, .bl true, .bl false, .bl false]) := upd_same
        have hd1 := (same_upd (o := .lst [.bl true, .bl true, .bl false]) (Same.refl H1) n1) _ _ hd
        refine ⟨_, rfl, .inl ⟨rfl, _, SqL.of upd_same⟩, ⟨_, rfl, _, _, _, _, _, _, rfl, rfl, T.E_Unknown.EC, rfl, .own _, T.k_Unknown_GivenError, hd1, c1, _, _, rfl, rfl, upd_same, by show 3 < sizeLine; decide, ?_⟩⟩
        generalize (upd (upd H1 c1 (.lst [.bl true, .bl true, .bl false])) c1 (.lst ([.bl true, .bl true, .bl false] ++ [.bl false]))) = H2 at s2 e2 ⊢
        have hd2 := s2 _ _ hd
        refine ⟨_, rfl, _, _, _, _, _, _, rfl, rfl, T.E_Unknown.EC, rfl, .own _, T.k_Unknown_BadText, hd2, ⟨_, rfl, _, _, _, _, _, _, rfl, rfl, T.E_Unknown.EC, rfl, .own _, T.k_Unknown_BadCall, hd2, ⟨_, rfl, _, _, _, _, _, _, rfl, rfl, T.E_Unknown.EC, rfl, .own _, T.k_Unknown_Misplaced, hd2, ⟨_, rfl, _, _, _, _, _, _, rfl, rfl, T.E_Unknown.EC, rfl, .own _, T.k_Unknown_Unknown, hd2, ⟨_, rfl, _, _, _, _, _, _, rfl, rfl, T.E_Unknown.EC, rfl, .own _, T.k_Unknown_Twice, hd2, ⟨by show 5 ≤ sizeLine; decide, fun c3 n3 => ?_⟩⟩⟩⟩⟩⟩
        have s3 := same_upd (o := .lst [.bl false, .bl false, .bl false, .bl true, .bl false]) s2 n3
        have e3 : upd H2 c3 (.lst [.bl false, .bl false, .bl false, .bl true, .bl false]) c1 = _ := same_upd (Same.refl H2) n3 _ _ e2
        have r3 : upd H2 c3 (.lst [.bl false, .bl false, .bl false, .bl true, .bl false]) c3 = _ := upd_same
        generalize upd H2 c3 (.lst [.bl false, .bl false, .bl false, .bl true, .bl false]) = H3 at s3 e3 r3 ⊢
        have hd3 := s3 _ _ hd
        refine ⟨_, rfl, _, _, _, _, _, _, rfl, rfl, T.E_Unknown.EC, rfl, .own _, T.k_Unknown_TooLong, hd3, ⟨_, rfl, _, _, _, _, _, _, rfl, rfl, T.E_Unknown.EC, rfl, .own _, T.k_Unknown_TooLarge, hd3, ⟨_, rfl, _, _, _, _, _, _, rfl, rfl, T.E_Unknown.EC, rfl, .own _, T.k_Unknown_TooMany, hd3, ⟨_, rfl, _, _, _, _, _, _, rfl, rfl, T.E_Unknown.EC, rfl, .own _, T.k_Unknown_TooWide, hd3, ⟨_, rfl, _, _, _, _, _, _, rfl, rfl, T.E_Unknown.EC, rfl, .own _, T.k_Unknown_TooTall, hd3, ⟨by show 5 ≤ sizeLine; decide, fun c4 n4 => ?_⟩⟩⟩⟩⟩⟩
        have t4 := same_upd (o := .lst [.bl false, .bl false, .bl false, .bl false, .bl false]) (Same.refl H3) n4
        have s4 := s3.trans t4
        have e4 := t4 _ _ e3
        have r4 := t4 _ _ r3
        have l4 : upd H3 c4 (.lst [.bl false, .bl false, .bl false, .bl false, .bl false]) c4 = _ := upd_same
        generalize upd H3 c4 (.lst [.bl false, .bl false, .bl false, .bl false, .bl false]) = H4 at s4 e4 r4 l4 t4 ⊢
        refine ⟨_, rfl, by show 4 ≤ sizeLine; decide, fun c5 n5 => ?_⟩
        have t5 := same_upd (o := .lst [.bl true, .bl false, .bl true, .bl false]) (Same.refl H4) n5
        have s5 := s4.trans t5
        have e5 := t5 _ _ e4
        have r5 := t5 _ _ r4
        have l5 := t5 _ _ l4
        have m5 : upd H4 c5 (.lst [.bl true, .bl false, .bl true, .bl false]) c5 = _ := upd_same
        generalize upd H4 c5 (.lst [.bl true, .bl false, .bl true, .bl false]) = H5 at s5 e5 r5 l5 t5 m5 ⊢
        refine ⟨_, _, .lst (SqL.of e5) (.cons (.bl _) (.cons (.bl _) (.cons (.bl _) (.cons (.bl _) .nil)))), .lst (SqL.of m5) (.cons (.bl _) (.cons (.bl _) (.cons (.bl _) (.cons (.bl _) .nil)))), rfl, rfl, false, rfl, ?_⟩
        refine ⟨_, rfl, by show 4 ≤ sizeLine; decide, fun c6 n6 => ?_⟩
        have t6 := same_upd (o := .lst [.bl true, .bl true, .bl false, .bl false]) (Same.refl H5) n6
        have s6 := s5.trans t6
        have e6 := t6 _ _ e5
        have r6 := t6 _ _ r5
        have l6 := t6 _ _ l5
        have m6 : upd H5 c6 (.lst [.bl true, .bl true, .bl false, .bl false]) c6 = _ := upd_same
        generalize upd H5 c6 (.lst [.bl true, .bl true, .bl false, .bl false]) = H6 at s6 e6 r6 l6 t6 m6 ⊢
        refine ⟨_, _, .lst (SqL.of e6) (.cons (.bl _) (.cons (.bl _) (.cons (.bl _) (.cons (.bl _) .nil)))), .lst (SqL.of m6) (.cons (.bl _) (.cons (.bl _) (.cons (.bl _) (.cons (.bl _) .nil)))), rfl, rfl, true, rfl, ?_⟩
        refine ⟨_, rfl, .inl ⟨rfl, _, SqL.of r6⟩, c3, [false, false, false, true, false], true, rfl, rfl, SqL.of r6, by trivial, true, rfl, ?_⟩
        refine ⟨_, rfl, .inl ⟨rfl, _, SqL.of l6⟩, c4, [false, false, false, false, false], true, rfl, rfl, SqL.of l6, by trivial, true, rfl, ?_⟩
        refine ⟨_, rfl, _, _, _, _, rfl, rfl, SqL.of r6, rfl, false, rfl, ?_⟩
        refine ⟨by show 5 ≤ sizeLine; decide, fun c7 n7 => ?_⟩
        have t7 := fun (o : HO) => same_upd (o := o) (Same.refl H6) n7
        have s7 := fun (o : HO) => s6.trans (t7 o)
        refine ⟨_, rfl, .inl ⟨rfl, _, SqL.of (t7 _ _ _ r6)⟩, c3, [false, false, false, true, false], true, rfl, rfl, SqL.of (t7 _ _ _ r6), by decide, _, _, _, _, rfl, rfl, SqL.of upd_same, rfl, ?_⟩
        exact ⟨_, rfl, _, rfl, _, d, _, _, rfl, rfl, T.E_Unknown.XC, T.E_Unknown.no "name" (by simp), rfl, s7 _ _ _ hd, rfl, by show 2 ≤ sizeLine; decide, fun c8 n8 => kp (same_upd (s7 _) n8) ⟨c8, rfl, upd_same⟩⟩
      | twice n =>
        refine ⟨true, T.x_Twice, fun _ a ha => ?_, fun z => nomatch z⟩
        refine ⟨_, rfl, _, _, _, _, _, _, rfl, rfl, T.E_Twice.EC, rfl, .ty _, T.v_Twice, hd, ⟨_, rfl, _, _, _, _, _, _, rfl, rfl, T.E_Twice.EC, rfl, .own _, T.k_Twice_RecordError, hd, ⟨_, rfl, _, _, _, _, _, _, rfl, rfl, T.E_Twice.EC, rfl, .own _, T.k_Twice_LimitError, hd, ⟨by show 3 ≤ sizeLine; decide, fun c1 n1 => ?_⟩⟩⟩⟩
        have s2 : Same H1 (upd (upd H1 c1 (.lst [.bl true, .bl true, .bl false])) c1 (.lst ([.bl true, .bl true, .bl false] ++ [.bl false]))) := same_mut (same_upd (Same.refl H1) n1) n1
        have e2 : (upd (upd H1 c1 (.lst [.bl true, .bl true, .bl false])) c1 (.lst ([.bl true, .bl true, .bl false] ++ [.bl false]))) c1 = some (.lst [.bl true, .bl true, .bl false, .bl false]) := upd_same
        have hd1 := (same_upd (o := .lst [.bl true, .bl true, .bl false]) (Same.refl H1) n1) _ _ hd
        refine ⟨_, rfl, .inl ⟨rfl, _, SqL.of upd_same⟩, ⟨_, rfl, _, _, _, _, _, _, rfl, rfl, T.E_Twice.EC, rfl, .own _, T.k_Twice_GivenError, hd1, c1, _, _, rfl, rfl, upd_same, by show 3 < sizeLine; decide, ?_⟩⟩
        generalize (upd (upd H1 c1 (.lst [.bl true, .bl true, .bl false])) c1 (.lst ([.bl true, .bl true, .bl false] ++ [.bl false]))) = H2 at s2 e2 ⊢
        have hd2 := s2 _ _ hd
        refine ⟨_, rfl, _, _, _, _, _, _, rfl, rfl, T.E_Twice.EC, rfl, .own _, T.k_Twice_BadText, hd2, ⟨_, rfl, _, _, _, _, _, _, rfl, rfl, T.E_Twice.EC, rfl, .own _, T.k_Twice_BadCall, hd2, ⟨_, rfl, _, _, _, _, _, _, rfl, rfl, T.E_Twice.EC, rfl, .own _, T.k_Twice_Misplaced, hd2, ⟨_, rfl, _, _, _, _, _, _, rfl, rfl, T.E_Twice.EC, rfl, .own _, T.k_Twice_Unknown, hd2, ⟨_, rfl, _, _, _, _, _, _, rfl, rfl, T.E_Twice.EC, rfl, .own _, T.k_Twice_Twice, hd2, ⟨by show 5 ≤ sizeLine; decide, fun c3 n3 => ?_⟩⟩⟩⟩⟩⟩
        have s3 := same_upd (o := .lst [.bl false, .bl false, .bl false, .bl false, .bl true]) s2 n3
        have e3 : upd H2 c3 (.lst [.bl false, .bl false, .bl false, .bl false, .bl true]) c1 = _ := same_upd (Same.refl H2) n3 _ _ e2
        have r3 : upd H2 c3 (.lst [.bl false, .bl false, .bl false, .bl false, .bl true]) c3 = _ := upd_same
        generalize upd H2 c3 (.lst [.bl false, .bl false, .bl false, .bl false, .bl true]) = H3 at s3 e3 r3 ⊢
        have hd3 := s3 _ _ hd
        refine ⟨_, rfl, _, _, _, _, _, _, rfl, rfl, T.E_Twice.EC, rfl, .own _, T.k_Twice_TooLong, hd3, ⟨_, rfl, _, _, _, _, _, _, rfl, rfl, T.E_Twice.EC, rfl, .own _, T.k_Twice_TooLarge, hd3, ⟨_, rfl, _, _, _, _, _, _, rfl, rfl, T.E_Twice.EC, rfl, .own _, T.k_Twice_TooMany, hd3, ⟨_, rfl, _, _, _, _, _, _, rfl, rfl, T.E_Twice.EC, rfl, .own _, T.k_Twice_TooWide, hd3, ⟨_, rfl, _, _, _, _, _, _, rfl, rfl, T.E_Twice.EC, rfl, .own _, T.k_Twice_TooTall, hd3, ⟨by show 5 ≤ sizeLine; decide, fun c4 n4 => ?_⟩⟩⟩⟩⟩⟩
        have t4 := same_upd (o := .lst [.bl false, .bl false, .bl false, .bl false, .bl false]) (Same.refl H3) n4
        have s4 := s3.trans t4
        have e4 := t4 _ _ e3
        have r4 := t4 _ _ r3
        have l4 : upd H3 c4 (.lst [.bl false, .bl false, .bl false, .bl false, .bl false]) c4 = _ := upd_same
        generalize upd H3 c4 (.lst [.bl false, .bl false, .bl false, .bl false, .bl false]) = H4 at s4 e4 r4 l4 t4 ⊢
        refine ⟨_, rfl, by show 4 ≤ sizeLine; decide, fun c5 n5 => ?_⟩
        have t5 := same_upd (o := .lst [.bl true, .bl false, .bl true, .bl false]) (Same.refl H4) n5
        have s5 := s4.trans t5
        have e5 := t5 _ _ e4
        have r5 := t5 _ _ r4
        have l5 := t5 _ _ l4
        have m5 : upd H4 c5 (.lst [.bl true, .bl false, .bl true, .bl false]) c5 = _ := upd_same
        generalize upd H4 c5 (.lst [.bl true, .bl false, .bl true, .bl false]) = H5 at s5 e5 r5 l5 t5 m5 ⊢
        refine ⟨_, _, .lst (SqL.of e5) (.cons (.bl _) (.cons (.bl _) (.cons (.bl _) (.cons (.bl _) .nil)))), .lst (SqL.of m5) (.cons (.bl _) (.cons (.bl _) (.cons (.bl _) (.cons (.bl _) .nil)))), rfl, rfl, false, rfl, ?_⟩
        refine ⟨_, rfl, by show 4 ≤ sizeLine; decide, fun c6 n6 => ?_⟩
        have t6 := same_upd (o := .lst [.bl true, .bl true, .bl false, .bl false]) (Same.refl H5) n6
        have s6 := s5.trans t6
        have e6 := t6 _ _ e5
        have r6 := t6 _ _ r5
        have l6 := t6 _ _ l5
        have m6 : upd H5 c6 (.lst [.bl true, .bl true, .bl false, .bl false]) c6 = _ := upd_same
        generalize upd H5 c6 (.lst [.bl true, .bl true, .bl false, .bl false]) = H6 at s6 e6 r6 l6 t6 m6 ⊢
        refine ⟨_, _, .lst (SqL.of e6) (.cons (.bl _) (.cons (.bl _) (.cons (.bl _) (.cons (.bl _) .nil)))), .lst (SqL.of m6) (.cons (.bl _) (.cons (.bl _) (.cons (.bl _) (.cons (.bl _) .nil)))), rfl, rfl, true, rfl, ?_⟩
        refine ⟨_, rfl, .inl ⟨rfl, _, SqL.of r6⟩, c3, [false, false, false, false, true], true, rfl, rfl, SqL.of r6, by trivial, true, rfl, ?_⟩
        refine ⟨_, rfl, .inl ⟨rfl, _, SqL.of l6⟩, c4, [false, false, false, false, false], true, rfl, rfl, SqL.of l6, by trivial, true, rfl, ?_⟩
        refine ⟨_, rfl, _, _, _, _, rfl, rfl, SqL.of r6, rfl, false, rfl, ?_⟩
        refine ⟨by show 5 ≤ sizeLine; decide, fun c7 n7 => ?_⟩
        have t7 := fun (o : HO) => same_upd (o := o) (Same.refl H6) n7
        have s7 := fun (o : HO) => s6.trans (t7 o)
        refine ⟨_, rfl, .inl ⟨rfl, _, SqL.of (t7 _ _ _ r6)⟩, c3, [false, false, false, false, true], true, rfl, rfl, SqL.of (t7 _ _ _ r6), by decide, _, _, _, _, rfl, rfl, SqL.of upd_same, rfl, ?_⟩
        exact ⟨_, rfl, _, rfl, _, d, _, _, rfl, rfl, T.E_Twice.XC, T.E_Twice.no "name" (by simp), rfl, s7 _ _ _ hd, rfl, by show 2 ≤ sizeLine; decide, fun c8 n8 => kp (same_upd (s7 _) n8) ⟨c8, rfl, upd_same⟩⟩
      | large =>
        refine ⟨true, T.x_TooLarge, fun _ a ha => ?_, fun z => nomatch z⟩
        refine ⟨_, rfl, _, _, _, _, _, _, rfl, rfl, T.E_TooLarge.EC, rfl, .ty _, T.v_TooLarge, hd, ⟨_, rfl, _, _, _, _, _, _, rfl, rfl, T.E_TooLarge.EC, rfl, .own _, T.k_TooLarge_RecordError, hd, ⟨_, rfl, _, _, _, _, _, _, rfl, rfl, T.E_TooLarge.EC, rfl, .own _, T.k_TooLarge_LimitError, hd, ⟨by show 3 ≤ sizeLine; decide, fun c1 n1 => ?_⟩⟩⟩⟩
        have s2 : Same H1 (upd (upd H1 c1 (.lst [.bl true, .bl false, .bl true])) c1 (.lst ([.bl true, .bl false, .bl true] ++ [.bl false]))) := same_mut (same_upd (Same.refl H1) n1) n1
        have e2 : (upd (upd H1 c1 (.lst [.bl true, .bl false, .bl true])) c1 (.lst ([.bl true, .bl false, .bl true] ++ [.bl false]))) c1 = some (.lst [.bl true, .bl false, .bl true, .bl false]) := upd_same
        have hd1 := (same_upd (o := .lst [.bl true, .bl false, .bl true]) (Same.refl H1) n1) _ _ hd
        refine ⟨_, rfl, .inl ⟨rfl, _, SqL.of upd_same⟩, ⟨_, rfl, _, _, _, _, _, _, rfl, rfl, T.E_TooLarge.EC, rfl, .own _, T.k_TooLarge_GivenError, hd1, c1, _, _, rfl, rfl, upd_same, by show 3 < sizeLine; decide, ?_⟩⟩
        generalize (upd (upd H1 c1 (.lst [.bl true, .bl false, .bl true])) c1 (.lst ([.bl true, .bl false, .bl true] ++ [.bl false]))) = H2 at s2 e2 ⊢
        have hd2 := s2 _ _ hd
        refine ⟨_, rfl, _, _, _, _, _, _, rfl, rfl, T.E_TooLarge.EC, rfl, .own _, T.k_TooLarge_BadText, hd2, ⟨_, rfl, _, _, _, _, _, _, rfl, rfl, T.E_TooLarge.EC, rfl, .own _, T.k_TooLarge_BadCall, hd2, ⟨_, rfl, _, _, _, _, _, _, rfl, rfl, T.E_TooLarge.EC, rfl, .own _, T.k_TooLarge_Misplaced, hd2, ⟨_, rfl, _, _, _, _, _, _, rfl, rfl, T.E_TooLarge.EC, rfl, .own _, T.k_TooLarge_Unknown, hd2, ⟨_, rfl, _, _, _, _, _, _, rfl, rfl, T.E_TooLarge.EC, rfl, .own _, T.k_TooLarge_Twice, hd2, ⟨by show 5 ≤ sizeLine; decide, fun c3 n3 => ?_⟩⟩⟩⟩⟩⟩
        have s3 := same_upd (o := .lst [.bl false, .bl false, .bl false, .bl false, .bl false]) s2 n3
        have e3 : upd H2 c3 (.lst [.bl false, .bl false, .bl false, .bl false, .bl false]) c1 = _ := same_upd (Same.refl H2) n3 _ _ e2
        have r3 : upd H2 c3 (.lst [.bl false, .bl false, .bl false, .bl false, .bl false]) c3 = _ := upd_same
        generalize upd H2 c3 (.lst [.bl false, .bl false, .bl false, .bl false, .bl false]) = H3 at s3 e3 r3 ⊢
        have hd3 := s3 _ _ hd
        refine ⟨_, rfl, _, _, _, _, _, _, rfl, rfl, T.E_TooLarge.EC, rfl, .own _, T.k_TooLarge_TooLong, hd3, ⟨_, rfl, _, _, _, _, _, _, rfl, rfl, T.E_TooLarge.EC, rfl, .own _, T.k_TooLarge_TooLarge, hd3, ⟨_, rfl, _, _, _, _, _, _, rfl, rfl, T.E_TooLarge.EC, rfl, .own _, T.k_TooLarge_TooMany, hd3, ⟨_, rfl, _, _, _, _, _, _, rfl, rfl, T.E_TooLarge.EC, rfl, .own _, T.k_TooLarge_TooWide, hd3, ⟨_, rfl, _, _, _, _, _, _, rfl, rfl, T.E_TooLarge.EC, rfl, .own _, T.k_TooLarge_TooTall, hd3, ⟨by show 5 ≤ sizeLine; decide, fun c4 n4 => ?_⟩⟩⟩⟩⟩⟩
        have t4 := same_upd (o := .lst [.bl false, .bl true, .bl false, .bl false, .bl false]) (Same.refl H3) n4
        have s4 := s3.trans t4
        have e4 := t4 _ _ e3
        have r4 := t4 _ _ r3
        have l4 : upd H3 c4 (.lst [.bl false, .bl true, .bl false, .bl false, .bl false]) c4 = _ := upd_same
        generalize upd H3 c4 (.lst [.bl false, .bl true, .bl false, .bl false, .bl false]) = H4 at s4 e4 r4 l4 t4 ⊢
        refine ⟨_, rfl, by show 4 ≤ sizeLine; decide, fun c5 n5 => ?_⟩
        have t5 := same_upd (o := .lst [.bl true, .bl false, .bl true, .bl false]) (Same.refl H4) n5
        have s5 := s4.trans t5
        have e5 := t5 _ _ e4
        have r5 := t5 _ _ r4
        have l5 := t5 _ _ l4
        have m5 : upd H4 c5 (.lst [.bl true, .bl false, .bl true, .bl false]) c5 = _ := upd_same
        generalize upd H4 c5 (.lst [.bl true, .bl false, .bl true, .bl false]) = H5 at s5 e5 r5 l5 t5 m5 ⊢
        refine ⟨_, _, .lst (SqL.of e5) (.cons (.bl _) (.cons (.bl _) (.cons (.bl _) (.cons (.bl _) .nil)))), .lst (SqL.of m5) (.cons (.bl _) (.cons (.bl _) (.cons (.bl _) (.cons (.bl _) .nil)))), rfl, rfl, true, rfl, ?_⟩
        refine ⟨_, rfl, .inl ⟨rfl, _, SqL.of r5⟩, c3, [false, false, false, false, false], true, rfl, rfl, SqL.of r5, by trivial, true, rfl, ?_⟩
        refine ⟨_, rfl, .inl ⟨rfl, _, SqL.of l5⟩, c4, [false, true, false, false, false], true, rfl, rfl, SqL.of l5, by trivial, true, rfl, ?_⟩
        refine ⟨_, rfl, _, _, _, _, rfl, rfl, SqL.of l5, rfl, false, rfl, ?_⟩
        refine ⟨_, rfl, _, _, _, _, rfl, rfl, SqL.of l5, rfl, true, rfl, ?_⟩
        exact ⟨_, rfl, _, d, _, _, rfl, rfl, T.E_TooLarge.XC, T.E_TooLarge.no "part" (by simp), rfl, s5 _ _ hd, rfl, by show 2 ≤ sizeLine; decide, fun c8 n8 => kp (same_upd s5 n8) ⟨c8, rfl, upd_same⟩⟩
end
end Vf

set_option Elab.async false
set_option linter.all false
set_option maxRecDepth 100000
set_option maxHeartbeats 4000000
namespace Vf
open PySem PySem.Spec PyProof.Rows L2 TL
/-! ### how large the sizes of a drawn world become -/
mutual
theorem wT_toks : ∀ t : Tr, wT t ≤ (toksT t).length
  | .nil => Nat.le_refl _
  | .word _ r => by
    have := wT_toks r
    simp only [wT, toksT, List.length_cons]; omega
  | .call _ a r => by
    have h1 := wA_toks a
    have h2 := wT_toks r
    simp only [wT, toksT, List.length_cons, List.length_append]; omega
theorem wA_toks : ∀ a : Ar, wA a ≤ (toksA a).length
  | .nil => Nat.le_refl _
  | .cons t r => by
    have h1 := wT_toks t
    have h2 := wA_toks r
    simp only [wA, toksA, List.length_cons, List.length_append]; omega
end
def gb : Nat → Nat → Nat
  | 0, b => b
  | n + 1, b => gb n (12 + 4 * b)
theorem gb_le : ∀ (n b : Nat), b ≤ gb n b
  | 0, _ => Nat.le_refl _
  | n + 1, b => Nat.le_trans (by omega) (gb_le n (12 + 4 * b))
def Mild (x : Mc) : Prop := x.2.1.length ≤ 10 ∧ depT x.2.2 ≤ 3 ∧ wT x.2.2 ≤ 2100
theorem grow_of : ∀ (ms : List Mc) {kn : Kn} {sz : Sz} {fm : Fm} {b : Nat}, SzI kn sz fm b → ChkM kn ms → (∀ x ∈ ms, Mild x) → gb ms.length b * 5 + 20 ≤ 1000000 → Grow ms sz b (gb ms.length b)
  | [], _, _, _, b, _, _, _, _ => Nat.le_refl b
  | x :: r, kn, sz, fm, b, si, hc, hm, hB => by
    obtain ⟨m1, m2, m3, m4, m5⟩ := hc
    obtain ⟨c1, c2, c3⟩ := hm x List.mem_cons_self
    have e1 : gb (x :: r).length b = gb r.length (12 + 4 * b) := rfl
    rw [e1] at hB ⊢
    have h1 := gb_le r.length (12 + 4 * b)
    have wf := wfT_of si.ks m2
    have le := pszT_le si.ks.ok si.mx m4 (t := x.2.2) (acc := (0, 0) :: noneS x.2.1) (e := depT x.2.2) (A := 0) wf cons_none_len (nn_cons_none (Int.le_refl 0)) (Nat.le_refl _) (le_none (by show (0 : Int) ≤ _; omega))
    have hL : LeS (pszT x.2.1 sz ((0, 0) :: noneS x.2.1) x.2.2) (2 ^ (12 + 4 * b)) := by
      refine le.mono ?_
      have p1 : (2 ^ b) ^ (depT x.2.2 + 1) ≤ 2 ^ (4 * b) := by
        rw [← Nat.pow_mul]
        refine Nat.pow_le_pow_right (by decide) ?_
        rw [Nat.mul_comm]
        exact Nat.mul_le_mul_right b (by omega)
      have p2 : wT x.2.2 * (2 ^ b) ^ (depT x.2.2 + 1) ≤ 2 ^ 12 * 2 ^ (4 * b) := Nat.mul_le_mul (by have : (2 : Nat) ^ 12 = 4096 := rfl; omega) p1
      rw [Nat.zero_add, Nat.pow_add 2 12]; exact p2
    have b5 : b * (depT x.2.2 + 2) ≤ b * 5 := Nat.mul_le_mul_left b (by omega)
    obtain ⟨fm', si'⟩ := si.step m1 m2 m3 m4 c1 (show b ≤ 12 + 4 * b by omega) hL
    exact ⟨c1, by omega, by omega, by omega, 12 + 4 * b, by omega, hL, grow_of r si' m5 (fun y hy => hm y (List.mem_cons_of_mem _ hy)) hB⟩
theorem gb7 : ∀ n : Nat, n ≤ 7 → gb n 0 ≤ 65532 := by
  intro n hn
  rcases n with _ | _ | _ | _ | _ | _ | _ | _ | n
  all_goals first | decide | omega
/-- the nodes of a world, with what its macros are like -/
theorem ln_tr2 {H : Hp} : ∀ {us : List V}, (∀ v ∈ us, LN H v) → ∃ t, RepT H t us ∧ depT t ≤ 4 ∧ BT 100 t ∧ (toksT t).length ≤ us.length * 2100 ∧ (∀ x ∈ mcT t, Mild x) ∧ (mcT t).length ≤ us.length ∧ wT (ndT t) ≤ us.length * 2100 ∧ depT (ndT t) ≤ 4
  | [], _ => ⟨.nil, by simp only [RepT], Nat.zero_le _, trivial, Nat.zero_le _, (fun x h => by cases h), Nat.zero_le _, Nat.zero_le _, Nat.zero_le _⟩
  | v :: us, h => by
    obtain ⟨r, hr, d1, b1, l1, m1, n1, w1, e1⟩ := ln_tr2 (us := us) fun u hu => h u (List.mem_cons_of_mem _ hu)
    obtain ⟨nd, hv, d2, b2, l2⟩ := h v List.mem_cons_self
    have ltk := toksT_tr nd r
    have ln2 : (toksT (nd.tr r)).length ≤ 2100 + us.length * 2100 := by
      cases nd with
      | word z =>
        simp only [Nd.tr, toksT, List.length_cons] at l2 ⊢
        simp at l2
        omega
      | call n a =>
        simp only [Nd.tr, toksT, List.length_cons, List.length_append] at l2 ⊢
        simp at l2
        omega
    have wN2 : wN nd ≤ 2100 := by
      have := wT_toks (nd.tr .nil)
      rw [w_tr] at this
      omega
    have key : (∀ x ∈ mcT (nd.tr r), Mild x) ∧ (mcT (nd.tr r)).length ≤ (mcT r).length + 1 ∧ wT (ndT (nd.tr r)) ≤ wN nd + wT (ndT r) ∧ depT (ndT (nd.tr r)) ≤ max (depN nd) (depT (ndT r)) := by
      cases nd with
      | word z =>
        refine ⟨m1, Nat.le_succ _, ?_, ?_⟩
        · simp only [Nd.tr, ndT, wT, wN]; omega
        · simp only [Nd.tr, ndT, depT]; omega
      | call n a =>
        by_cases en : n = letN
        · have e1 : mcT (Nd.tr (.call n a) r) = mcA a ++ mcT r := by simp only [Nd.tr, mcT]; rw [if_pos en]
          have e2 : ndT (Nd.tr (.call n a) r) = ndT r := by simp only [Nd.tr, ndT]; rw [if_pos en]
          have hA : (∀ x ∈ mcA a, Mild x) ∧ (mcA a).length ≤ 1 := by
            unfold mcA
            cases el : letOf a with
            | none => exact ⟨(fun _ h => nomatch h), Nat.zero_le _⟩
            | some y =>
              obtain ⟨ns, b⟩ := y
              cases ns with
              | nil => exact ⟨(fun _ h => nomatch h), Nat.zero_le _⟩
              | cons m ps =>
                refine ⟨fun x h => ?_, Nat.le_refl _⟩
                rw [List.mem_singleton.mp h]
                obtain ⟨t1, ea, ens, c1, c2, c3⟩ := letOf_ok el
                have lps : (m :: ps).length ≤ 4 := by rw [ens]; omega
                have lps : ps.length + 1 ≤ 4 := lps
                subst ea
                simp only [depN, depA] at d2
                simp only [wN, wA] at wN2
                exact ⟨by show ps.length ≤ 10; omega, by show depT b ≤ 3; omega, by show wT b ≤ 2100; omega⟩
          rw [e1, e2]
          refine ⟨fun x hx => ?_, by rw [List.length_append]; have := hA.2; omega, by omega, by omega⟩
          rcases List.mem_append.mp hx with z | z
          · exact hA.1 x z
          · exact m1 x z
        · have e1 : mcT (Nd.tr (.call n a) r) = mcT r := by simp only [Nd.tr, mcT]; rw [if_neg en]
          have e2 : ndT (Nd.tr (.call n a) r) = .call n a (ndT r) := by simp only [Nd.tr, ndT]; rw [if_neg en]
          rw [e1, e2]
          refine ⟨m1, Nat.le_succ _, ?_, ?_⟩
          · simp only [wT, wN]; omega
          · simp only [depT, depN]; omega
    obtain ⟨q1, q2, q3, q4⟩ := key
    refine ⟨nd.tr r, ?_, by rw [depT_tr]; omega, ?_, by rw [List.length_cons, Nat.add_mul]; omega, q1, by rw [List.length_cons]; omega, by rw [List.length_cons, Nat.add_mul]; omega, by omega⟩
    · cases nd with
      | word z =>
        obtain ⟨p, rfl, e⟩ := hv
        simp only [Nd.tr, RepT]
        exact ⟨p, us, rfl, e, hr⟩
      | call n a =>
        obtain ⟨p, q, ws, rfl, e, e2, hA⟩ := hv
        simp only [Nd.tr, RepT]
        exact ⟨p, q, ws, us, rfl, e, e2, hA, hr⟩
    · cases nd with
      | word z => simp only [Nd.tr, BT]; exact ⟨b2, b1⟩
      | call n a => simp only [Nd.tr, BT]; exact ⟨b2.1, b2.2, b1⟩
theorem grow_world {t : Tr} (hc : chk t [] = none) (hm : ∀ x ∈ mcT t, Mild x) (hl : (mcT t).length ≤ 7) (hw : wT (ndT t) ≤ 90000) (hd : depT (ndT t) ≤ 4) : GrowT t := by
  have h7 := gb7 _ hl
  refine ⟨gb (mcT t).length 0, grow_of _ ⟨ks_nil, ⟨Nat.le_refl _, fun _ _ h => by cases h⟩, fun _ _ h => by cases h⟩ (chk_mc t [] hc) hm (by omega), hw, by omega, ?_⟩
  have := Nat.mul_le_mul h7 (show depT (ndT t) + 2 ≤ 6 by omega)
  omega
end Vf

set_option Elab.async false
set_option linter.all false
set_option maxRecDepth 100000
set_option maxHeartbeats 4000000
namespace Vf
open PySem PySem.Spec PyProof.Rows L2 TL
/-! ### chains: the mathematics -/
/-- the name of the k-th macro of a chain -/
def ttl (k : Nat) : List Nat := [120, 97 + k / 7, 97 + k % 7]
theorem ttl_inj {j k : Nat} (h : ttl j = ttl k) : j = k := by
  unfold ttl at h
  have h1 := (List.cons.inj h).2
  have h2 := List.cons.inj h1
  have h3 := List.cons.inj h2.2
  have e1 : 97 + j / 7 = 97 + k / 7 := h2.1
  have e2 : 97 + j % 7 = 97 + k % 7 := h3.1
  have := Nat.div_add_mod j 7
  have := Nat.div_add_mod k 7
  omega
theorem ttl_bn (k : Nat) : ttl k ∉ bnN := by
  intro h
  have hall : ∀ z ∈ bnN, z.take 1 ≠ [120] := by decide +kernel
  exact hall _ h rfl
mutual
/-- calls of parameters without arguments, of built-in names, of the macro ahead with all its arguments -/
def ChT (ps : List (List Nat)) (la : Option (List Nat)) : Tr → Prop
  | .nil => True
  | .word _ r => ChT ps la r
  | .call n a r => ((n ∈ ps ∧ lenA a = 0) ∨ (n ∉ ps ∧ n ∈ bnN ∧ n ≠ letN) ∨ (n ∉ ps ∧ la = some n ∧ lenA a = ps.length)) ∧ ChA ps la a ∧ ChT ps la r
def ChA (ps : List (List Nat)) (la : Option (List Nat)) : Ar → Prop
  | .nil => True
  | .cons t r => ChT ps la t ∧ ChA ps la r
end
mutual
theorem ch_wf {ps : List (List Nat)} {la : Option (List Nat)} {sz : Sz} (hb : ∀ n ∈ bnN, sz.lookup n = none) (hl : ∀ n, la = some n → ∀ s, sz.lookup n = some s → s.length = ps.length + 1) : ∀ {t : Tr}, ChT ps la t → WfT ps sz t
  | .nil, _ => by simp only [WfT]
  | .word _ r, h => by
    simp only [ChT] at h
    simp only [WfT]
    exact ch_wf hb hl h
  | .call n a r, h => by
    simp only [ChT] at h
    simp only [WfT]
    refine ⟨fun hn s hs => ?_, ch_wfA hb hl h.2.1, ch_wf hb hl h.2.2⟩
    rcases h.1 with c | c | c
    · exact absurd c.1 hn
    · rw [hb n c.2.1] at hs; cases hs
    · rw [hl n c.2.1 s hs, c.2.2]
theorem ch_wfA {ps : List (List Nat)} {la : Option (List Nat)} {sz : Sz} (hb : ∀ n ∈ bnN, sz.lookup n = none) (hl : ∀ n, la = some n → ∀ s, sz.lookup n = some s → s.length = ps.length + 1) : ∀ {a : Ar}, ChA ps la a → WfA ps sz a
  | .nil, _ => by simp only [WfA]
  | .cons t r, h => by
    simp only [ChA] at h
    simp only [WfA]
    exact ⟨ch_wf hb hl h.1, ch_wfA hb hl h.2⟩
end
mutual
/-- without a macro the sizes known do not matter -/
theorem psz_free {ps : List (List Nat)} {sz : Sz} (hb : ∀ n ∈ bnN, sz.lookup n = none) : ∀ {t : Tr} {acc : PS}, ChT ps none t → pszT ps sz acc t = pszT ps [] acc t
  | .nil, acc, _ => by simp only [pszT]
  | .word _ r, acc, h => by
    simp only [ChT] at h
    simp only [pszT]
    exact psz_free hb h
  | .call n a r, acc, h => by
    simp only [ChT] at h
    simp only [pszT]
    by_cases hn : n ∈ ps
    · rw [if_pos hn, if_pos hn]
      exact psz_free hb h.2.2
    · rw [if_neg hn, if_neg hn]
      have hbn : n ∈ bnN := by
        rcases h.1 with c | c | c
        · exact absurd c.1 hn
        · exact c.2.1
        · cases c.2.1
      have e1 : wholeS sz n (lenA a) = builtS (lenA a) := by unfold wholeS; rw [hb n hbn]
      have e2 : wholeS [] n (lenA a) = builtS (lenA a) := rfl
      rw [e1, e2, psz_freeA hb h.2.1]
      exact psz_free hb h.2.2
theorem psz_freeA {ps : List (List Nat)} {sz : Sz} (hb : ∀ n ∈ bnN, sz.lookup n = none) : ∀ {a : Ar} {pls acc : PS}, ChA ps none a → pszA ps sz pls acc a = pszA ps [] pls acc a
  | .nil, pls, acc, _ => by cases pls <;> simp only [pszA]
  | .cons t r, [], acc, _ => by simp only [pszA]
  | .cons t r, pl :: pls, acc, h => by
    simp only [ChA] at h
    simp only [pszA]
    rw [psz_free hb h.1]
    exact psz_freeA hb h.2
end
theorem free_small {ps : List (List Nat)} {sz : Sz} (hb : ∀ n ∈ bnN, sz.lookup n = none) (hn : ps.Nodup) {t : Tr} (h : ChT ps none t) : LeS (pszT ps sz ((0, 0) :: noneS ps) t) (wT t) := by
  rw [psz_free hb h]
  have wf : WfT ps [] t := ch_wf (la := none) (fun _ _ => rfl) (fun _ e => by cases e) h
  have le := pszT_le (ps := ps) (sz := []) (fm := []) (M := 1) ⟨fun _ => rfl, fun _ _ e => by cases e⟩ ⟨Nat.le_refl _, fun _ _ e => by cases e⟩ hn (t := t) (acc := (0, 0) :: noneS ps) (e := depT t) (A := 0) wf cons_none_len (nn_cons_none (Int.le_refl 0)) (Nat.le_refl _) (le_none (by show (0 : Int) ≤ _; omega))
  rw [Nat.one_pow, Nat.mul_one, Nat.zero_add] at le
  exact le
theorem szM_snoc (ms : List Mc) (x : Mc) (sz : Sz) : szM (ms ++ [x]) sz = stM (szM ms sz) x := by
  unfold szM
  rw [List.foldl_append]; rfl
/-- one bound for all -/
theorem grow_snoc : ∀ (ms : List Mc) {sz : Sz} {b B : Nat} {x : Mc}, Grow ms sz b B → x.2.1.length ≤ 10 → depT x.2.2 < 20 → wT x.2.2 ≤ 90000 → B * (depT x.2.2 + 2) + 20 ≤ 1000000 → LeS (pszT x.2.1 (szM ms sz) ((0, 0) :: noneS x.2.1) x.2.2) (2 ^ B) → Grow (ms ++ [x]) sz b B
  | [], sz, b, B, x, h, h1, h2, h3, h4, h5 => by
    have h : b ≤ B := h
    have := Nat.mul_le_mul_right (depT x.2.2 + 2) h
    exact ⟨h1, h2, h3, by omega, B, h, h5, Nat.le_refl _⟩
  | y :: ms, sz, b, B, x, h, h1, h2, h3, h4, h5 => by
    obtain ⟨g1, g2, g3, g4, b', g5, g6, g7⟩ := h
    exact ⟨g1, g2, g3, g4, b', g5, g6, grow_snoc ms g7 h1 h2 h3 h4 h5⟩
/-- the sizes of a chain so far, in the law's own forms -/
structure ChI (ps : List (List Nat)) (ms : List Mc) (fm : Fm) (B : Nat) : Prop where
  nm : ∀ (i : Nat) (x : Mc), ms[i]? = some x → x.1 = ttl i ∧ x.2.1 = ps
  kf : KS (knM ms) (szM ms []) fm
  gr : Grow ms [] 0 B
  mx : MaxS (szM ms []) (2 ^ B)
theorem ch_none {ps : List (List Nat)} {ms : List Mc} (h : ∀ (i : Nat) (x : Mc), ms[i]? = some x → x.1 = ttl i ∧ x.2.1 = ps) : (knM ms).lookup (ttl ms.length) = none := by
  have : ∀ (l : List Mc), (∀ x ∈ l, x.1 ≠ ttl ms.length) → (knM l).lookup (ttl ms.length) = none := by
    intro l
    induction l with
    | nil => intro _; rfl
    | cons x l ih =>
      intro hx
      show List.lookup _ ((x.1, x.2.1.length) :: knM l) = none
      have e2 : (ttl ms.length == x.1) = false := by
        have := hx x List.mem_cons_self
        simpa using fun e : ttl ms.length = x.1 => this e.symm
      rw [List.lookup_cons, e2]
      exact ih fun y hy => hx y (List.mem_cons_of_mem _ hy)
  refine this ms fun x hx e => ?_
  obtain ⟨i, hi⟩ := List.mem_iff_getElem?.mp hx
  have h1 := (h i x hi).1
  rw [e] at h1
  have := ttl_inj h1
  have h2 := (List.getElem?_eq_some_iff.mp hi).1
  omega
theorem ChI.step {ps : List (List Nat)} {ms : List Mc} {fm : Fm} {B : Nat} (h : ChI ps ms fm B) (hn : ps.Nodup) (hp : ps.length ≤ 10) {b : Tr} (wf : WfT ps (szM ms []) b) (hd : depT b < 20) (hw : wT b ≤ 90000) (hB : B * (depT b + 2) + 20 ≤ 1000000) (hL : LeS (pszT ps (szM ms []) ((0, 0) :: noneS ps) b) (2 ^ B)) :
    ChI ps (ms ++ [(ttl ms.length, ps, b)]) (fm ++ [(ttl ms.length, formL ps b fm)]) B := by
  obtain ⟨f1, f2, f3⟩ := form_ok h.kf.ok hn wf
  have ks := h.kf.step (m := ttl ms.length) (ps := ps) (ch_none h.nm) (ttl_bn _) f2 f3
  rw [f1] at ks
  have ek : knM (ms ++ [(ttl ms.length, ps, b)]) = knM ms ++ [(ttl ms.length, ps.length)] := by unfold knM; rw [List.map_append]; rfl
  have es := szM_snoc ms (ttl ms.length, ps, b) []
  have es : szM (ms ++ [(ttl ms.length, ps, b)]) [] = szM ms [] ++ [(ttl ms.length, pszT ps (szM ms []) ((0, 0) :: noneS ps) b)] := es
  refine ⟨fun i x hx => ?_, by rw [ek, es]; exact ks, grow_snoc ms h.gr hp hd hw hB hL, by
    rw [es]
    refine ⟨Nat.one_le_two_pow, fun n s hs => ?_⟩
    rw [look_app] at hs
    cases e : (szM ms []).lookup n with
    | some y =>
      rw [e] at hs
      have hs := Option.some.inj hs
      subst hs
      exact h.mx.2 n y e
    | none =>
      rw [e] at hs
      have hs : (if n = ttl ms.length then some (pszT ps (szM ms []) ((0, 0) :: noneS ps) b) else none) = some s := hs
      by_cases e2 : n = ttl ms.length
      · rw [if_pos e2] at hs
        rw [← Option.some.inj hs]; exact hL
      · rw [if_neg e2] at hs; cases hs⟩
  by_cases hi : i < ms.length
  · rw [List.getElem?_append_left hi] at hx
    exact h.nm i x hx
  · rw [List.getElem?_append_right (by omega)] at hx
    have e0 : i - ms.length = 0 := by
      have := (List.getElem?_eq_some_iff.mp hx).1
      simp at this
      exact this
    rw [e0] at hx
    have hx := Option.some.inj hx
    subst hx
    have : i = ms.length := by omega
    subst this
    exact ⟨rfl, rfl⟩
end Vf

set_option Elab.async false
set_option linter.all false
set_option maxRecDepth 100000
set_option maxHeartbeats 4000000
namespace Vf
open PySem PySem.Spec PyProof.Rows L2 TL
/-! ### chains: trees and nodes as they are drawn -/
def Tt (ps : List (List Nat)) (la : Option (List Nat)) (k N : Nat) (H : Hp) (v : V) : Prop := ∃ t, TV H v t ∧ depT t ≤ k ∧ (toksT t).length ≤ N ∧ BT 100 t ∧ ChT ps la t
def Nn (ps : List (List Nat)) (la : Option (List Nat)) (k N : Nat) (H : Hp) (v : V) : Prop := ∃ nd, NV H v nd ∧ depN nd ≤ k ∧ (toksT (nd.tr .nil)).length ≤ N ∧ BN 100 nd ∧ ChT ps la (nd.tr .nil)
theorem Tt.keep {ps : List (List Nat)} {la : Option (List Nat)} {k N : Nat} {H H' : Hp} {v : V} (h : Tt ps la k N H v) (t : TKeep H H') : Tt ps la k N H' v := by
  obtain ⟨u, a, b⟩ := h
  exact ⟨u, a.keep t, b⟩
theorem Nn.keep {ps : List (List Nat)} {la : Option (List Nat)} {k N : Nat} {H H' : Hp} {v : V} (h : Nn ps la k N H v) (t : TKeep H H') : Nn ps la k N H' v := by
  obtain ⟨u, a, b⟩ := h
  exact ⟨u, a.keep t, b⟩
theorem Tt.mono {ps : List (List Nat)} {la : Option (List Nat)} {k N k' N' : Nat} {H : Hp} {v : V} (h : Tt ps la k N H v) (hk : k ≤ k') (hN : N ≤ N') : Tt ps la k' N' H v := by
  obtain ⟨u, a, b, c, d⟩ := h
  exact ⟨u, a, by omega, by omega, d⟩
theorem Nn.mono {ps : List (List Nat)} {la : Option (List Nat)} {k N k' N' : Nat} {H : Hp} {v : V} (h : Nn ps la k N H v) (hk : k ≤ k') (hN : N ≤ N') : Nn ps la k' N' H v := by
  obtain ⟨u, a, b, c, d⟩ := h
  exact ⟨u, a, by omega, by omega, d⟩
mutual
theorem ChT.up {ps : List (List Nat)} {la : Option (List Nat)} : ∀ {t : Tr}, ChT ps none t → ChT ps la t
  | .nil, _ => by simp only [ChT]
  | .word _ r, h => by
    simp only [ChT] at h ⊢
    exact ChT.up h
  | .call n a r, h => by
    simp only [ChT] at h ⊢
    refine ⟨?_, ChA.up h.2.1, ChT.up h.2.2⟩
    rcases h.1 with c | c | c
    · exact .inl c
    · exact .inr (.inl c)
    · cases c.2.1
theorem ChA.up {ps : List (List Nat)} {la : Option (List Nat)} : ∀ {a : Ar}, ChA ps none a → ChA ps la a
  | .nil, _ => by simp only [ChA]
  | .cons t r, h => by
    simp only [ChA] at h ⊢
    exact ⟨ChT.up h.1, ChA.up h.2⟩
end
theorem Tt.la {ps : List (List Nat)} {la : Option (List Nat)} {k N : Nat} {H : Hp} {v : V} (h : Tt ps none k N H v) : Tt ps la k N H v := by
  obtain ⟨u, a, b, c, d, e⟩ := h
  exact ⟨u, a, b, c, d, e.up⟩
/-- nodes side by side -/
theorem nn_tree {ps : List (List Nat)} {la : Option (List Nat)} {k N : Nat} {H : Hp} : ∀ {vs : List V}, (∀ v ∈ vs, Nn ps la k N H v) → ∃ t, RepT H t vs ∧ depT t ≤ k ∧ (toksT t).length ≤ vs.length * N ∧ BT 100 t ∧ ChT ps la t
  | [], _ => ⟨.nil, by simp only [RepT], Nat.zero_le _, Nat.zero_le _, trivial, by simp only [ChT]⟩
  | v :: vs, h => by
    obtain ⟨r, hr, d1, l1, b1, c1⟩ := nn_tree (vs := vs) fun u hu => h u (List.mem_cons_of_mem _ hu)
    obtain ⟨nd, hv, d2, l2, b2, c2⟩ := h v List.mem_cons_self
    have e9 : (vs.length + 1) * N = N + vs.length * N := by rw [Nat.add_mul, Nat.one_mul, Nat.add_comm]
    cases nd with
    | word z =>
      obtain ⟨p, rfl, e⟩ := hv
      refine ⟨.word z r, ?_, ?_, ?_, ?_, ?_⟩
      · simp only [RepT]; exact ⟨p, vs, rfl, e, hr⟩
      · simp only [depT]; exact d1
      · simp only [Nd.tr, toksT, List.length_cons] at l2 ⊢
        simp at l2
        omega
      · simp only [BT]; exact ⟨b2, b1⟩
      · simp only [ChT]; exact c1
    | call n a =>
      obtain ⟨p, q, ws, rfl, e, e2, hA⟩ := hv
      simp only [Nd.tr, ChT] at c2
      refine ⟨.call n a r, ?_, ?_, ?_, ?_, ?_⟩
      · simp only [RepT]; exact ⟨p, q, ws, vs, rfl, e, e2, hA, hr⟩
      · simp only [depT, depN] at d2 ⊢; omega
      · simp only [Nd.tr, toksT, List.length_cons, List.length_append] at l2 ⊢
        simp at l2
        omega
      · simp only [BT]; exact ⟨b2.1, b2.2, b1⟩
      · simp only [ChT]; exact ⟨c2.1, c2.2.1, c1⟩
theorem tt_of {ps : List (List Nat)} {la : Option (List Nat)} {k N m : Nat} {H : Hp} {p : Addr} {vs : List V} (e : H p = some (.tup vs)) (h : ∀ v ∈ vs, Nn ps la k N H v) (hm : vs.length * N ≤ m) : Tt ps la k m H (.ref p) := by
  obtain ⟨t, hr, d, l, b, c⟩ := nn_tree h
  exact ⟨t, ⟨p, vs, rfl, e, hr⟩, d, by omega, b, c⟩
/-- arguments -/
theorem tt_args {ps : List (List Nat)} {la : Option (List Nat)} {k N : Nat} {H : Hp} : ∀ {vs : List V}, (∀ v ∈ vs, Tt ps la k N H v) → ∃ a, RepA H a vs ∧ depA a ≤ k + 1 ∧ (toksA a).length ≤ vs.length * (N + 2) ∧ BA 100 a ∧ ChA ps la a ∧ lenA a = vs.length
  | [], _ => ⟨.nil, by simp only [RepA], Nat.zero_le _, Nat.zero_le _, trivial, by simp only [ChA], rfl⟩
  | v :: vs, h => by
    obtain ⟨r, hr, d1, l1, b1, c1, n1⟩ := tt_args (vs := vs) fun u hu => h u (List.mem_cons_of_mem _ hu)
    obtain ⟨t, ⟨p, us, rfl, e, ht⟩, d2, l2, b2, c2⟩ := h v List.mem_cons_self
    have e9 : (vs.length + 1) * (N + 2) = (N + 2) + vs.length * (N + 2) := by rw [Nat.add_mul, Nat.one_mul, Nat.add_comm]
    refine ⟨.cons t r, ?_, ?_, ?_, ?_, ?_, ?_⟩
    · simp only [RepA]; exact ⟨p, us, vs, rfl, e, ht, hr⟩
    · simp only [depA]; omega
    · simp only [toksA, List.length_cons, List.length_append]; omega
    · simp only [BA]; exact ⟨b2, b1⟩
    · simp only [ChA]; exact ⟨c2, c1⟩
    · simp only [lenA, List.length_cons]; rw [n1]
theorem nn_call {ps : List (List Nat)} {la : Option (List Nat)} {k N m : Nat} {H : Hp} {p q : Addr} {n : List Nat} {vs : List V} (e : H p = some (.tup [kCall, sV n, .ref q])) (e2 : H q = some (.tup vs)) (h : ∀ v ∈ vs, Tt ps la k N H v) (hn : OkN n)
    (hc : (n ∈ ps ∧ vs.length = 0) ∨ (n ∉ ps ∧ n ∈ bnN ∧ n ≠ letN) ∨ (n ∉ ps ∧ la = some n ∧ vs.length = ps.length)) (hm : 1 + vs.length * (N + 2) ≤ m) : Nn ps la (k + 1) m H (.ref p) := by
  obtain ⟨a, hA, d, l, b, c, la2⟩ := tt_args h
  refine ⟨.call n a, ⟨p, q, vs, rfl, e, e2, hA⟩, d, ?_, ⟨hn, b⟩, ?_⟩
  · simp only [Nd.tr, toksT, List.length_cons, List.length_append, List.length_nil]; omega
  · simp only [Nd.tr, ChT]
    rw [la2]
    exact ⟨hc, c, trivial⟩
theorem nn_word {ps : List (List Nat)} {la : Option (List Nat)} {H : Hp} {p : Addr} {z : List Nat} (e : H p = some (.tup [kWord, sV z])) (hz : OkN z) : Nn ps la 0 1 H (.ref p) :=
  ⟨.word z, ⟨p, rfl, e⟩, Nat.le_refl _, by simp only [Nd.tr, toksT, List.length_cons, List.length_nil]; omega, hz, by simp only [Nd.tr, ChT]⟩
/-- a call of a parameter -/
theorem nn_par {ps : List (List Nat)} {la : Option (List Nat)} {H : Hp} {p q : Addr} {n : List Nat} (e : H p = some (.tup [kCall, sV n, .ref q])) (e2 : H q = some (.tup [])) (hn : OkN n) (hp : n ∈ ps) : Nn ps la 0 1 H (.ref p) :=
  ⟨.call n .nil, ⟨p, q, [], rfl, e, e2, by simp only [RepA]⟩, Nat.le_refl _, by simp only [Nd.tr, toksT, toksA, List.length_cons, List.length_append, List.length_nil]; omega, ⟨hn, trivial⟩, by simp only [Nd.tr, ChT, ChA, lenA]; exact ⟨.inl ⟨hp, trivial⟩, trivial, trivial⟩⟩
end Vf

set_option Elab.async false
set_option linter.all false
set_option maxRecDepth 100000
set_option maxHeartbeats 4000000
namespace Vf
open PySem PySem.Spec PyProof.Rows L2 TL
/-! ### chains: titles, menus, wrapped trees -/
theorem at7 {j : Nat} (h : j < 7) : (("abcdefg" : Str)).cps.toList[j]? = some (97 + j) := by
  rcases j with _ | _ | _ | _ | _ | _ | _ | j
  all_goals first | decide +kernel | omega
theorem ttl_ok (k : Nat) (hk : k < 49) : OkN (ttl k) := ⟨by show 3 ≤ 100; decide, fun c hc => by
  unfold ttl at hc
  simp only [List.mem_cons, List.not_mem_nil, or_false] at hc
  rcases hc with rfl | rfl | rfl <;> omega⟩
section
variable {P : Program} {w : World} {K : PySem.W.Frag} {mg : Str → Option Value} {base : Heap}
def spTitle : Sp := fun vs H Q _ => ∃ k : Nat, vs = [.int (k : Int)] ∧ k < 49 ∧ Q (sV (ttl k)) H
theorem ok_title (T : Txt K mg) : FnOk P w K mg base CX0 1 T.a_law_title T.d_law_title ["_law_k"] spTitle := by
  refine T.D_law_title.F.ok sc_law_title (fun vs H Q E h => ?_) (fun cdv A outer s H vs Q E hr h => ?_)
  · obtain ⟨k, rfl, _⟩ := h
    rfl
  · obtain ⟨k, rfl, hk, q⟩ := h
    refine ⟨_, (pss_one (ps_ret (pe_op op_add_str (pe_op op_add_str pe_str (pe_ix ix_str pe_str (pe_op op_fdivN (pv 0) pe_int) (fun _ _ => rfl))) (pe_ix ix_str pe_str (pe_op op_modN (pe_callTy call_int1 (by rfl) T.n_int (by decide +kernel) (pa_cons (pv 0) pa_nil)) pe_int) (fun _ _ => rfl))))), ?_⟩
    have e1 : (k : Int).fdiv 7 = ((k / 7 : Nat) : Int) := by
      rw [Int.fdiv_eq_ediv_of_nonneg _ (by decide)]; omega
    have e2 : (k : Int).fmod 7 = ((k % 7 : Nat) : Int) := by
      rw [Int.fmod_eq_emod_of_nonneg _ (by decide)]; omega
    have l1 := at7 (j := k / 7) (by omega)
    have l2 := at7 (j := k % 7) (by omega)
    have h0 : ("x" : Str) = mkS [120] := by decide +kernel
    have z1 : ("x" : Str) ++ (⟨#[97 + k / 7]⟩ : Str) = mkS [120, 97 + k / 7] := by
      rw [h0, show (⟨#[97 + k / 7]⟩ : Str) = mkS [97 + k / 7] from rfl, mkS_app]; rfl
    have zn : (("x" : Str) ++ (⟨#[97 + k / 7]⟩ : Str)) ++ (⟨#[97 + k % 7]⟩ : Str) = mkS (ttl k) := by
      rw [z1, show (⟨#[97 + k % 7]⟩ : Str) = mkS [97 + k % 7] from rfl, mkS_app]; rfl
    refine ⟨_, rfl, _, _, rfl, rfl, ⟨by decide, by decide⟩, ("abcdefg" : Str), _, _, rfl, rfl, by decide +kernel, by rw [e1]; exact atI_nat l1, _, _, rfl, rfl, by show _ ≤ sizeLine; exact Nat.le_trans (show 1 + 1 ≤ 100 by decide) (by decide), ?_⟩
    refine ⟨_, rfl, .inl ⟨_, rfl, _, _, rfl, rfl, (by show (7 : Int) ≠ 0; decide), ("abcdefg" : Str), _, _, rfl, rfl, by decide +kernel, by rw [e2]; exact atI_nat l2, _, _, rfl, rfl, ?_, ?_⟩⟩
    · rw [z1, mkS_len]
      exact Nat.le_trans (show 2 + 1 ≤ 100 by decide) (by decide)
    rw [zn]
    exact q
def spMenu : Sp := fun vs H Q _ => ∃ (pl : Addr) (ps : List (List Nat)) (wv : V), vs = [.ref pl, wv] ∧ H pl = some (.lst (ps.map sV)) ∧ 1 ≤ ps.length ∧ ps.length ≤ 2 ∧ (∀ p ∈ ps, OkN p) ∧ Nn ps none 0 1 H wv ∧
  ∀ H' r vs, Same H H' → H r = none → H' r = some (.lst vs) → vs.length = 7 → (∀ v ∈ vs, Tt ps none 0 2 H' v) → Q (.ref r) H'
theorem ok_menu (T : Txt K mg) : FnOk P w K mg base CX0 1 T.a_law_menu T.d_law_menu ["_law_params", "_law_word_here"] spMenu := by
  refine T.D_law_menu.F.ok sc_law_menu (fun vs H Q E h => ?_) (fun cdv A outer s H vs Q E hr h => ?_)
  · obtain ⟨pl, ps, wv, rfl, _⟩ := h
    rfl
  · obtain ⟨pl, ps, wv, rfl, epl, p1, p2, pok, hw, q⟩ := h
    refine ⟨_, (pss_cons (ps_setLc (i := 2) (own := [("_law_one", 3)]) (g := gName 3) (tt := tYes) rfl sc_law_menu.nd rfl rfl (sw_true rfl rfl rfl (by decide +kernel)) (pi_list (pv 0)) (blkOk_by (own := [("_law_one", 3)]) (N := ["_law_params", "_law_word_here", "_law_calls", "_law_one"]) (sc := defScope s_law_menu) (by decide +kernel)) (fun _ _ _ _ _ => (pg_name (i := 3) sc_law_menu.nd rfl (.inl rfl))) (fun _ _ _ _ _ => pts_nil) (fun _ _ _ _ _ => (pe_tup (pa_cons pe_str (pa_cons (pv 3) (pa_cons (pe_tup pa_nil) pa_nil))))))
      (pss_one (ps_ret (pe_lst (pa_cons (pe_callTy call_tuple_of (by rfl) T.n_tuple (by decide +kernel) (pa_cons (pv 2) pa_nil)) (pa_cons (pe_tup (pa_cons (pe_ix ix_list (pv 2) (pe_un un_neg pe_int) (fun _ _ => rfl)) pa_nil)) (pa_cons (pe_tup (pa_cons (pv 1) pa_nil)) (pa_cons (pe_tup (pa_cons (pe_ix ix_list (pv 2) pe_int (fun _ _ => rfl)) (pa_cons (pv 1) pa_nil))) (pa_cons (pe_tup (pa_cons (pe_ix ix_list (pv 2) pe_int (fun _ _ => rfl)) (pa_cons (pe_ix ix_list (pv 2) pe_int (fun _ _ => rfl)) pa_nil))) (pa_cons (pe_tup (pa_cons (pe_ix ix_list (pv 2) pe_int (fun _ _ => rfl)) pa_nil)) (pa_cons (pe_tup pa_nil) pa_nil))))))))))), ?_⟩
    refine ⟨_, rfl, pl, rfl, ⟨_, SqL.of epl⟩, fun D nD => ?_⟩
    refine lc_it (walk_list (K := K) (a := pl) (xs := ps.map sV)) (fun i H' => Same H H' ∧ ∃ vs, H' D = some (.lst vs) ∧ vs.length = i ∧ ∀ v ∈ vs, Nn ps none 0 1 H' v) ⟨same_upd (Same.refl H) nD, [], upd_same, rfl, fun _ h => nomatch h⟩ ?_ ?_ ?_
    · rintro i H' _ ⟨k, _⟩
      exact SqL.of (k _ _ epl)
    · rintro i x H1 H2 hi ⟨k1, vs, eD, lv, hvs⟩ ⟨rfl, hx⟩
      rw [List.getElem?_map] at hx
      obtain ⟨pm, hpm, rfl⟩ : ∃ pm, ps[i]? = some pm ∧ sV pm = x := by
        cases h : ps[i]? with
        | none => rw [h] at hx; cases hx
        | some z => rw [h] at hx; exact ⟨z, rfl, Option.some.inj hx⟩
      have hmem : pm ∈ ps := List.mem_of_getElem? hpm
      have hi : i < ps.length := by rw [List.length_map] at hi; exact hi
      refine ⟨rfl, _, rfl, by show 0 ≤ sizeLine; decide, fun e0 n0 => ⟨by show 3 ≤ sizeLine; decide, fun c nc => ?_⟩⟩
      have s1 := same_upd (o := .tup []) (Same.refl H2) n0
      have s2 := same_upd (o := .tup [V.str "call", sV pm, V.ref e0]) (Same.refl _) nc
      have s12 := s1.trans s2
      have ee := s2 _ _ (upd_same (H := H2) (a := e0) (o := .tup []))
      have ecc : upd (upd H2 e0 (.tup [])) c (.tup [V.str "call", sV pm, V.ref e0]) c = some (.tup [V.str "call", sV pm, V.ref e0]) := upd_same
      generalize upd (upd H2 e0 (.tup [])) c (.tup [V.str "call", sV pm, V.ref e0]) = H3 at s12 ee ecc ⊢
      have eD3 := s12 _ _ eD
      have tm := TKeep.mut (o := .lst (vs ++ [V.ref c])) eD3
      refine ⟨vs, eD3, lt_size (by omega), same_mut (k1.trans s12) nD, _, upd_same, by rw [List.length_append, lv]; rfl, fun v hv => ?_⟩
      rcases List.mem_append.mp hv with h | h
      · exact ((hvs v h).keep (TKeep.same s12)).keep tm
      · rw [List.mem_singleton.mp h]
        exact (nn_par ecc ee (pok _ hmem) hmem).keep tm
    rintro H1 ⟨k1, vs, eD, lv, hvs⟩
    rw [List.length_map] at lv
    obtain ⟨v0, hv0, ev0⟩ : ∃ v0, Nn ps none 0 1 H1 v0 ∧ vs[0]? = some v0 := ⟨vs[0]'(by omega), hvs _ (List.getElem_mem _), List.getElem?_eq_getElem (by omega)⟩
    obtain ⟨vz, hvz, evz⟩ : ∃ vz, Nn ps none 0 1 H1 vz ∧ atI vs (-1) = some vz := by
      have l12 : vs.length = 1 ∨ vs.length = 2 := by omega
      match vs, l12, hvs with
      | [], h, _ => simp at h
      | [a], _, hvs => exact ⟨a, hvs a (by simp), rfl⟩
      | [a, b], _, hvs => exact ⟨b, hvs b (by simp), rfl⟩
      | _ :: _ :: _ :: _, h, _ => simp at h
    have hw1 := hw.keep (TKeep.same k1)
    have l2v : vs.length ≤ 2 := by omega
    refine ⟨_, rfl, D, vs, rfl, .inl ⟨SqL.of eD, fun a1 n1 => ?_⟩⟩
    have s1 := same_upd (o := .tup vs) (Same.refl H1) n1
    refine ⟨_, rfl, _, rfl, D, _, _, vz, rfl, rfl, SqL.of (s1 _ _ eD), evz, by show 1 ≤ sizeLine; decide, fun a2 n2 => ?_⟩
    have s2 := same_upd (o := .tup [vz]) (Same.refl _) n2
    refine ⟨_, rfl, by show 1 ≤ sizeLine; decide, fun a3 n3 => ?_⟩
    have s3 := same_upd (o := .tup [wv]) (Same.refl _) n3
    have s13 := s1.trans (s2.trans s3)
    refine ⟨_, rfl, D, _, 0, v0, rfl, rfl, SqL.of (s13 _ _ eD), atI_nat (j := 0) ev0, _, rfl, by show 2 ≤ sizeLine; decide, fun a4 n4 => ?_⟩
    have s4 := same_upd (o := .tup [v0, wv]) (Same.refl _) n4
    have s14 := s13.trans s4
    refine ⟨_, rfl, D, _, 0, v0, rfl, rfl, SqL.of (s14 _ _ eD), atI_nat (j := 0) ev0, _, rfl, D, _, 0, v0, rfl, rfl, SqL.of (s14 _ _ eD), atI_nat (j := 0) ev0, by show 2 ≤ sizeLine; decide, fun a5 n5 => ?_⟩
    have s5 := same_upd (o := .tup [v0, v0]) (Same.refl _) n5
    have s15 := s14.trans s5
    refine ⟨_, rfl, D, _, 0, v0, rfl, rfl, SqL.of (s15 _ _ eD), atI_nat (j := 0) ev0, by show 1 ≤ sizeLine; decide, fun a6 n6 => ?_⟩
    have s6 := same_upd (o := .tup [v0]) (Same.refl _) n6
    refine ⟨by show 0 ≤ sizeLine; decide, fun a7 n7 => ?_⟩
    have s7 := same_upd (o := .tup []) (Same.refl _) n7
    refine ⟨by show 7 ≤ sizeLine; decide, fun r nr => ?_⟩
    have s8 := same_upd (o := .lst [V.ref a1, V.ref a2, V.ref a3, V.ref a4, V.ref a5, V.ref a6, V.ref a7]) (Same.refl _) nr
    have f7 := s7.trans s8
    have f6 := s6.trans f7
    have f5 := s5.trans f6
    have f4 := s4.trans f5
    have f3 := s3.trans f4
    have f2 := s2.trans f3
    have f1 := s1.trans f2
    have k0 := k1.trans f1
    refine q _ r _ k0 ?_ upd_same rfl fun v hv => ?_
    · cases e : H r with
      | none => rfl
      | some o =>
        have := (k1.trans (s15.trans (s6.trans s7))) _ _ e
        rw [nr] at this; cases this
    have t1 := TKeep.same f1
    have hv0' := hv0.keep t1
    have hvz' := hvz.keep t1
    have hw' := hw1.keep t1
    simp only [List.mem_cons, List.not_mem_nil, or_false] at hv
    rcases hv with rfl | rfl | rfl | rfl | rfl | rfl | rfl
    · exact tt_of (f2 _ _ upd_same) (fun u hu => (hvs u hu).keep t1) (by omega)
    · exact tt_of (f3 _ _ upd_same) (fun u hu => by rw [List.mem_singleton.mp hu]; exact hvz') (by show 1 * 1 ≤ 2; decide)
    · exact tt_of (f4 _ _ upd_same) (fun u hu => by rw [List.mem_singleton.mp hu]; exact hw') (by show 1 * 1 ≤ 2; decide)
    · exact tt_of (f5 _ _ upd_same) (fun u hu => by
        rcases List.mem_cons.mp hu with z | z
        · rw [z]; exact hv0'
        · rw [List.mem_singleton.mp z]; exact hw') (by show 2 * 1 ≤ 2; decide)
    · exact tt_of (f6 _ _ upd_same) (fun u hu => by
        rcases List.mem_cons.mp hu with z | z
        · rw [z]; exact hv0'
        · rw [List.mem_singleton.mp z]; exact hv0') (by show 2 * 1 ≤ 2; decide)
    · exact tt_of (f7 _ _ upd_same) (fun u hu => by rw [List.mem_singleton.mp hu]; exact hv0') (by show 1 * 1 ≤ 2; decide)
    · exact tt_of (s8 _ _ upd_same) (fun u hu => nomatch hu) (by show 0 * 1 ≤ 2; decide)
def spWrap : Sp := fun vs H Q _ => ∃ (d l : Addr) (v : V) (ps : List (List Nat)) (la : Option (List Nat)) (k N : Nat), vs = [.ref d, v] ∧ DI d l H ∧ Tt ps la k N H v ∧ 1 ≤ N ∧ (∀ p ∈ ps, p ∉ bnN) ∧
  ∀ H' r, Kp d H H' → DI d l H' → Nn ps la (k + 1) (2 * N + 5) H' r → Q r H'
theorem ok_wrap (T : Txt K mg) : FnOk P w K mg base CX0 3 T.a_law_wrapped T.d_law_wrapped ["_law_d", "_law_tree_here"] spWrap := by
  have G_law_pick : FnOk P w K mg base CX0 2 T.a_law_pick T.d_law_pick ["_law_d", "_law_row"] (spPick K) := ok_pick T
  refine T.D_law_wrapped.F.ok sc_law_wrapped (fun vs H Q E h => ?_) (fun cdv A outer s H vs Q E hr h => ?_)
  · obtain ⟨d, l, v, ps, la, k, N, rfl, _⟩ := h
    rfl
  · obtain ⟨d, l, v, ps, la, k, N, rfl, hD, hv, hN, hpb, q⟩ := h
    refine ⟨_, (pss_cons (ps_set (i := 2) sc_law_wrapped.nd rfl (.inl rfl) (pe_call G_law_pick (hr.mono (by decide)) (by rfl) T.D_law_pick.G T.D_law_pick.F.kp T.D_law_pick.B .nil pass0 (pa_cons (pv 0) (pa_cons (pe_lst (pa_cons pe_str (pa_cons pe_str (pa_cons pe_str pa_nil)))) pa_nil))))
      (pss_cons (ps_if (pt_cmpR op_eq (pv 2) pe_str (nomark _)) (pss_one (ps_ret (pe_tup (pa_cons pe_str (pa_cons (pv 2) (pa_cons (pe_tup (pa_cons (pv 1) (pa_cons (pe_tup (pa_cons (pe_tup (pa_cons pe_str (pa_cons pe_str pa_nil))) pa_nil)) pa_nil))) pa_nil)))))) pss_nil)
      (pss_one (ps_ret (pe_tup (pa_cons pe_str (pa_cons (pv 2) (pa_cons (pe_tup (pa_cons (pv 1) pa_nil)) pa_nil)))))))), ?_⟩
    refine ⟨_, rfl, by show 3 ≤ sizeLine; decide, fun p np => ?_⟩
    refine ⟨d, l, _, _, rfl, hD.new np, .inl ⟨p, rfl, (hD.nd np).1, SqL.of upd_same⟩, by show 0 < 3; decide, by show 3 ≤ 1000; decide, fun H1 x K1 D1 hx => ?_⟩
    have KA := ((Kp.refl d H).new np).trans K1
    have hv1 := hv.keep (TKeep.kp KA hD)
    have nb : ∀ n : List Nat, n ∈ bnN → n ≠ letN → ∀ (m : Nat), (n ∈ ps ∧ m = 0) ∨ (n ∉ ps ∧ n ∈ bnN ∧ n ≠ letN) ∨ (n ∉ ps ∧ la = some n ∧ m = ps.length) := fun n hn hl m => .inr (.inl ⟨fun h => hpb n h hn, hn, hl⟩)
    have one : ∀ n : List Nat, n ∈ bnN → n ≠ letN → OkN n → ∀ H2, Same H1 H2 → ∀ q1, H2 q1 = some (.tup [v]) → ∀ r, H2 r = some (.tup [kCall, sV n, .ref q1]) → Nn ps la (k + 1) (2 * N + 5) H2 (.ref r) := fun n hn hl ho H2 s2 q1 e1 r er =>
      nn_call er e1 (fun u hu => by rw [List.mem_singleton.mp hu]; exact hv1.keep (TKeep.same s2)) ho (nb n hn hl _) (by show 1 + 1 * (N + 2) ≤ _; omega)
    simp only [List.mem_cons, List.not_mem_nil, or_false] at hx
    rcases hx with rfl | rfl | rfl
    · refine ⟨_, rfl, rfl, false, by decide +kernel, ?_⟩
      refine ⟨_, rfl, _, rfl, by show 1 ≤ sizeLine; decide, fun q1 n1 => ⟨by show 3 ≤ sizeLine; decide, fun r nr => ?_⟩⟩
      have s1 := same_upd (o := .tup [v]) (Same.refl H1) n1
      have s2 := same_upd (o := .tup [V.str "call", V.str "par", V.ref q1]) (Same.refl _) nr
      exact q _ _ ((KA.new n1).new nr) ((D1.new n1).new nr) (one ("par" : Str).cps.toList (by decide +kernel) (by decide +kernel) (ok_of (by decide +kernel)) _ (s1.trans s2) q1 (s2 _ _ upd_same) r upd_same)
    · refine ⟨_, rfl, rfl, true, by decide +kernel, ?_⟩
      refine ⟨_, rfl, _, rfl, by show 2 ≤ sizeLine; decide, fun o1 m1 => ⟨by show 1 ≤ sizeLine; decide, fun o2 m2 => ⟨by show 2 ≤ sizeLine; decide, fun q1 n1 => ⟨by show 3 ≤ sizeLine; decide, fun r nr => ?_⟩⟩⟩⟩
      have s1 := same_upd (o := .tup [V.str "word", V.str "o"]) (Same.refl H1) m1
      have s2 := same_upd (o := .tup [V.ref o1]) (Same.refl _) m2
      have s3 := same_upd (o := .tup [v, V.ref o2]) (Same.refl _) n1
      have s4 := same_upd (o := .tup [V.str "call", V.str "over", V.ref q1]) (Same.refl _) nr
      have all := s1.trans (s2.trans (s3.trans s4))
      refine q _ _ ((((KA.new m1).new m2).new n1).new nr) ((((D1.new m1).new m2).new n1).new nr) (nn_call (n := ("over" : Str).cps.toList) (k := k) (N := N) upd_same (s4 _ _ upd_same) (fun u hu => ?_) (ok_of (by decide +kernel)) (nb _ (by decide +kernel) (by decide +kernel) _) (by show 1 + 2 * (N + 2) ≤ _; omega))
      rcases List.mem_cons.mp hu with z | z
      · rw [z]; exact hv1.keep (TKeep.same all)
      · rw [List.mem_singleton.mp z]
        have ho : Nn ps la 0 1 _ (V.ref o1) := nn_word (z := ("o" : Str).cps.toList) ((s2.trans (s3.trans s4)) _ _ upd_same) (ok_of (by decide +kernel))
        exact (tt_of (m := 1) ((s3.trans s4) _ _ upd_same) (fun u hu => by rw [List.mem_singleton.mp hu]; exact ho) (by show 1 * 1 ≤ 1; decide)).mono (Nat.zero_le _) hN
    · refine ⟨_, rfl, rfl, false, by decide +kernel, ?_⟩
      refine ⟨_, rfl, _, rfl, by show 1 ≤ sizeLine; decide, fun q1 n1 => ⟨by show 3 ≤ sizeLine; decide, fun r nr => ?_⟩⟩
      have s1 := same_upd (o := .tup [v]) (Same.refl H1) n1
      have s2 := same_upd (o := .tup [V.str "call", V.str "cell", V.ref q1]) (Same.refl _) nr
      exact q _ _ ((KA.new n1).new nr) ((D1.new n1).new nr) (one ("cell" : Str).cps.toList (by decide +kernel) (by decide +kernel) (ok_of (by decide +kernel)) _ (s1.trans s2) q1 (s2 _ _ upd_same) r upd_same)
end
end Vf

set_option Elab.async false
set_option linter.all false
set_option maxRecDepth 100000
set_option maxHeartbeats 4000000
namespace Vf
open PySem PySem.Spec PyProof.Rows L2
/-! ### a tuple once, and not at all -/
theorem tuple_mul1 (l : Addr) (items : Array Value) (n : Nat) (dd : Option Addr) (sl : Array (Option Value)) (u : Tok) (c1 : (items.isEmpty || (1 : Int) == 1) = true) :
    Meets (Builtin.«tuple.__mul__» ⟨[.ref l, .int 1 u], []⟩) (fun _ R s => s.heap.get? l = some { cls := .type "tuple", dict := dd, data := .seq items n, slots := sl } ∧ R (.ok (.ret (Value.ref l))) s) :=
  .of_wp fun prog w A R s h => by
    obtain ⟨hp, g, d, tk, os⟩ := s
    obtain ⟨hl, h⟩ := h
    have f1 := AutoSeq1.idx_int
    wp_walk using wpAny_loadPart' hl
    exact ⟨_, rfl, h⟩
theorem tuple_mul0 (l : Addr) (items : Array Value) (n : Nat) (dd : Option Addr) (sl : Array (Option Value)) (u : Tok) (c1 : (items.isEmpty || (0 : Int) == 1) = false) (c2 : (decide ((0 : Int) ≤ 0) || items.isEmpty) = true) :
    Meets (Builtin.«tuple.__mul__» ⟨[.ref l, .int 0 u], []⟩) (fun _ R s => s.heap.get? l = some { cls := .type "tuple", dict := dd, data := .seq items n, slots := sl } ∧
      R (.ok (.ret (Value.ref s.heap.objs.size))) { s with heap := s.heap.push { cls := Value.type "tuple", data := Data.seq #[] }, toks := s.toks }) :=
  .of_wp fun prog w A R s h => by
    obtain ⟨hp, g, d, tk, os⟩ := s
    obtain ⟨hl, h⟩ := h
    have f1 := AutoSeq1.idx_int
    wp_walk using wpAny_loadPart' hl
    repeat (first
      | (refine wpAny_ite_false (decide_eq_false (by rw [c1]; exact Bool.false_ne_true)) ?_; wp_walk using wpAny_loadPart' hl)
      | (refine wpAny_ite_true (decide_eq_true c2) ?_; wp_walk using wpAny_loadPart' hl))
    exact ⟨_, rfl, h⟩
def rRepA (K : PySem.W.Frag) : R2 := fun x y H Q => ∃ l k xs, x = .ref l ∧ y = .int k ∧ SqT K H l xs ∧ xs ≠ [] ∧ 0 ≤ k ∧ k ≤ 1000 ∧ xs.length ≤ 1000 ∧ (k = 1 → Q (.ref l) H) ∧ (k ≠ 1 → ∀ p, H p = none → Q (.ref p) (upd H p (.tup (List.replicate k.toNat xs).flatten)))
theorem op_repA {X : Cx} : OpR X (binaryOp .Mult) (rRepA X.K) := by
  intro pins s σ H x y v u Q I rx ry h
  obtain ⟨l, k, xs, rfl, rfl, hT, hne, h1, h2, hz, q1, q⟩ := h
  by_cases k2 : 2 ≤ k
  · exact op_repT pins s σ H _ _ v u Q I rx ry ⟨l, k, xs, rfl, rfl, hT, hne, k2, h2, hz, q (by omega)⟩
  cases rx
  obtain ⟨t, rfl⟩ := ry
  obtain ⟨its, r, ⟨⟨cls, dd, data, sl⟩, ho, hc, n, hd⟩, hs⟩ := I.tuple hT
  simp only at hc hd
  subst hc hd
  have hle : its.length = xs.length := r.length.symm
  have hn : its ≠ [] := fun e => hne (by
    rw [e] at hle
    exact List.eq_nil_of_length_eq_zero hle.symm)
  have hi : its.toArray.isEmpty = false := by
    cases its with
    | nil => exact absurd rfl hn
    | cons a b => rfl
  by_cases k1 : k = 1
  · subst k1
    refine wpAny_binaryOp_repeat_ref (T := "tuple") (U := "int") (by decide) ⟨_, ho, rfl⟩ (fun s' => typeIs_int s' 1 t) noFill_tuple_mul F.fills_int_mul F.slot_int_rmul repeat_tuple F.slot_int_index.lookup
      (call_meets F.slot_int_rmul (typeIs_int s 1 t) F.entry_int_rmul (F.args_int_rmul_2 _ _) (int_rmul_tuple 1 t l its.toArray n dd sl)
        ⟨ho, rfl, ⟨_, ho, rfl⟩, call_meets F.slot_tuple_mul ⟨_, ho, rfl⟩ F.entry_tuple_mul (F.args_tuple_mul_2 _ _) (tuple_mul1 l its.toArray n dd sl t (by rw [hi]; rfl)) ⟨ho, ?_⟩⟩)
    exact ⟨.ref l, H, I, rfl, q1 rfl⟩
  · have k0 : k = 0 := by omega
    subst k0
    refine wpAny_binaryOp_repeat_ref (T := "tuple") (U := "int") (by decide) ⟨_, ho, rfl⟩ (fun s' => typeIs_int s' 0 t) noFill_tuple_mul F.fills_int_mul F.slot_int_rmul repeat_tuple F.slot_int_index.lookup
      (call_meets F.slot_int_rmul (typeIs_int s 0 t) F.entry_int_rmul (F.args_int_rmul_2 _ _) (int_rmul_tuple 0 t l its.toArray n dd sl)
        ⟨ho, rfl, ⟨_, ho, rfl⟩, call_meets F.slot_tuple_mul ⟨_, ho, rfl⟩ F.entry_tuple_mul (F.args_tuple_mul_2 _ _) (tuple_mul0 l its.toArray n dd sl t (by rw [hi]; rfl) (by rfl)) ⟨ho, ?_⟩⟩)
    refine ⟨.ref s.heap.objs.size, _, I.laid (t' := s.toks) (o := .tup (List.replicate (0 : Int).toNat xs).flatten) (fun b ob q => Heap.get?_push_of_some _ q) (Nat.le_refl _) ?_, rfl, q (by decide) _ (I.hok.fresh (Nat.le_refl _))⟩
    exact ⟨Nat.zero_le _, _, .nil, IsTup.new _ _⟩
end Vf

set_option Elab.async false
set_option linter.all false
set_option maxRecDepth 100000
set_option maxHeartbeats 4000000
namespace Vf
open PySem PySem.Spec PyProof.Rows L2 TL
/-! ### chains: a link -/
theorem bT {p : Prop} [Decidable p] (h : p) : V.bl (decide p) = V.bl true := by rw [decide_eq_true h]
theorem bF {p : Prop} [Decidable p] (h : ¬ p) : V.bl (decide p) = V.bl false := by rw [decide_eq_false h]
section
variable {P : Program} {w : World} {K : PySem.W.Frag} {mg : Str → Option Value} {base : Heap}
def spLink : Sp := fun vs H Q _ => ∃ (d l pl : Addr) (kind : Int) (la : List Nat) (ps : List (List Nat)) (wv : V), vs = [.ref d, .int kind, sV la, .ref pl, wv] ∧ DI d l H ∧ pl ≠ d ∧ H pl = some (.lst (ps.map sV)) ∧ 1 ≤ ps.length ∧ ps.length ≤ 2 ∧ (∀ p ∈ ps, OkN p ∧ p ∉ bnN) ∧ OkN la ∧ la ∉ ps ∧ Nn ps none 0 1 H wv ∧
  ∀ H' r, Kp d H H' → DI d l H' → Tt ps (some la) 3 200 H' r → Q r H'
theorem ok_link (T : Txt K mg) : FnOk P w K mg base CX0 4 T.a_law_link T.d_law_link ["_law_d", "_law_kind", "_law_last", "_law_params", "_law_word_here"] spLink := by
  have G_law_pick : FnOk P w K mg base CX0 2 T.a_law_pick T.d_law_pick ["_law_d", "_law_row"] (spPick K) := ok_pick T
  have G_law_menu : FnOk P w K mg base CX0 1 T.a_law_menu T.d_law_menu ["_law_params", "_law_word_here"] spMenu := ok_menu T
  have G_law_wrapped : FnOk P w K mg base CX0 3 T.a_law_wrapped T.d_law_wrapped ["_law_d", "_law_tree_here"] spWrap := ok_wrap T
  refine T.D_law_link.F.ok sc_law_link (fun vs H Q E h => ?_) (fun cdv A outer s H vs Q E hr h => ?_)
  · obtain ⟨d, l, pl, kind, la, ps, wv, rfl, _⟩ := h
    rfl
  · obtain ⟨d, l, pl, kind, la, ps, wv, rfl, hD, npd, epl, p1, p2, pok, lok, lps, hw, q⟩ := h
    refine ⟨_, (pss_cons (ps_set (i := 5) sc_law_link.nd rfl (.inr rfl) (pe_call G_law_menu (hr.mono (by decide)) (by rfl) T.D_law_menu.G T.D_law_menu.F.kp T.D_law_menu.B .nil pass0 (pa_cons (pv 3) (pa_cons (pv 4) pa_nil))))
      (pss_cons (ps_set (i := 6) sc_law_link.nd rfl (.inr rfl) (pe_tup (pa_cons pe_str (pa_cons (pv 2) (pa_cons (pe_callTy call_tuple_of (by rfl) T.n_tuple (by decide +kernel) (pa_cons (pe_lc (own := [("_law_one", 8)]) (g := gName 8) (tt := tYes) rfl sc_law_link.nd (pi_list (pv 3)) (blkOk_by (own := [("_law_one", 8)]) (N := ["_law_d", "_law_kind", "_law_last", "_law_params", "_law_word_here", "_law_menu_here", "_law_call", "_law_twice", "_law_one"]) (sc := defScope s_law_link) (by decide +kernel)) (fun _ _ _ _ _ => (pg_name (i := 8) sc_law_link.nd rfl (.inl rfl))) (fun _ _ _ _ _ => pts_nil) (fun _ _ _ _ _ => (pe_call G_law_pick (hr.mono (by decide)) (by rfl) T.D_law_pick.G T.D_law_pick.F.kp T.D_law_pick.B .nil pass0 (pa_cons (pv 0) (pa_cons (pv 5) pa_nil))))) pa_nil)) pa_nil)))))
      (pss_cons (ps_if (pt_cmpR op_eq (pv 1) pe_int (nomark _)) (pss_one (ps_ret (pe_tup (pa_cons (pv 6) (pa_cons (pv 6) pa_nil))))) pss_nil)
      (pss_cons (ps_if (pt_cmpR op_eq (pv 1) pe_int (nomark _)) (pss_one (ps_ret (pe_tup (pa_cons (pv 6) (pa_cons (pe_tup (pa_cons pe_str (pa_cons (pv 2) (pa_cons (pe_callTy call_tuple_of (by rfl) T.n_tuple (by decide +kernel) (pa_cons (pe_lc (own := [("_law_one", 8)]) (g := gName 8) (tt := tYes) rfl sc_law_link.nd (pi_list (pv 3)) (blkOk_by (own := [("_law_one", 8)]) (N := ["_law_d", "_law_kind", "_law_last", "_law_params", "_law_word_here", "_law_menu_here", "_law_call", "_law_twice", "_law_one"]) (sc := defScope s_law_link) (by decide +kernel)) (fun _ _ _ _ _ => (pg_name (i := 8) sc_law_link.nd rfl (.inl rfl))) (fun _ _ _ _ _ => pts_nil) (fun _ _ _ _ _ => (pe_call G_law_pick (hr.mono (by decide)) (by rfl) T.D_law_pick.G T.D_law_pick.F.kp T.D_law_pick.B .nil pass0 (pa_cons (pv 0) (pa_cons (pv 5) pa_nil))))) pa_nil)) pa_nil)))) pa_nil))))) pss_nil)
      (pss_cons (ps_if (pt_cmpR op_eq (pv 1) pe_int (nomark _)) (pss_one (ps_ret (pe_tup (pa_cons (pe_tup (pa_cons pe_str (pa_cons (pv 2) (pa_cons (pe_callTy call_tuple_of (by rfl) T.n_tuple (by decide +kernel) (pa_cons (pe_lc (own := [("_law_one", 8)]) (g := gName 8) (tt := tYes) rfl sc_law_link.nd (pi_list (pv 3)) (blkOk_by (own := [("_law_one", 8)]) (N := ["_law_d", "_law_kind", "_law_last", "_law_params", "_law_word_here", "_law_menu_here", "_law_call", "_law_twice", "_law_one"]) (sc := defScope s_law_link) (by decide +kernel)) (fun _ _ _ _ _ => (pg_name (i := 8) sc_law_link.nd rfl (.inl rfl))) (fun _ _ _ _ _ => pts_nil) (fun _ _ _ _ _ => (pe_tup (pa_cons (pv 6) pa_nil)))) pa_nil)) pa_nil)))) pa_nil)))) pss_nil)
      (pss_cons (ps_if (pt_cmpR op_eq (pv 1) pe_int (nomark _)) (pss_one (ps_ret (pe_tup (pa_cons (pe_call G_law_wrapped (hr.mono (by decide)) (by rfl) T.D_law_wrapped.G T.D_law_wrapped.F.kp T.D_law_wrapped.B .nil pass0 (pa_cons (pv 0) (pa_cons (pe_tup (pa_cons (pv 6) pa_nil)) pa_nil))) (pa_cons (pe_tup (pa_cons pe_str (pa_cons (pe_ix ix_list (pv 3) pe_int (fun _ _ => rfl)) (pa_cons (pe_tup pa_nil) pa_nil)))) pa_nil))))) pss_nil)
      (pss_cons (ps_if (pt_cmpR op_eq (pv 1) pe_int (nomark _)) (pss_one (ps_ret (pe_tup (pa_cons (pv 4) (pa_cons (pv 6) pa_nil))))) pss_nil)
      (pss_cons (ps_set (i := 7) sc_law_link.nd rfl (.inl rfl) (pe_tup (pa_cons pe_str (pa_cons (pv 2) (pa_cons (pe_op op_catA (pe_tup (pa_cons (pe_tup (pa_cons (pe_tup (pa_cons pe_str (pa_cons (pv 2) (pa_cons (pe_op op_repA (pe_tup (pa_cons (pe_ix ix_list (pv 5) pe_int (fun _ _ => rfl)) pa_nil)) (pe_callB call_len_seq (by rfl) T.n_len PySem.boot_len (pa_cons (pv 3) pa_nil))) pa_nil)))) pa_nil)) pa_nil)) (pe_op op_repA (pe_tup (pa_cons (pe_ix ix_list (pv 5) pe_int (fun _ _ => rfl)) pa_nil)) (pe_op op_sub (pe_callB call_len_seq (by rfl) T.n_len PySem.boot_len (pa_cons (pv 3) pa_nil)) pe_int))) pa_nil)))))
      (pss_one (ps_ret (pe_tup (pa_cons (pe_tup (pa_cons pe_str (pa_cons (pv 2) (pa_cons (pe_op op_catA (pe_tup (pa_cons (pe_tup (pa_cons (pv 7) pa_nil)) pa_nil)) (pe_op op_repA (pe_tup (pa_cons (pe_ix ix_list (pv 5) pe_int (fun _ _ => rfl)) pa_nil)) (pe_op op_sub (pe_callB call_len_seq (by rfl) T.n_len PySem.boot_len (pa_cons (pv 3) pa_nil)) pe_int))) pa_nil)))) pa_nil)))))))))))), ?_⟩
    refine ⟨_, rfl, _, rfl, pl, ps, wv, rfl, epl, p1, p2, fun p hp => (pok p hp).1, hw, fun H1 mr mvs k1 nmr emr l7 hm => ?_⟩
    have D1 := hD.keep k1
    have k1h : Kp d H H1 := fun b o _ e => k1 b o e
    have nmd : mr ≠ d := (hD.nd nmr).1
    refine ⟨_, rfl, _, rfl, pl, rfl, ⟨_, SqL.of (k1h _ _ npd epl)⟩, fun F nF => ?_⟩
    refine lc_it (walk_list (K := K) (a := pl) (xs := ps.map sV)) (fun i H' => Kp d H1 H' ∧ DI d l H' ∧ ∃ vs, H' F = some (.lst vs) ∧ vs.length = i ∧ ∀ v ∈ vs, Tt ps none 0 2 H' v) ⟨(Kp.refl d _).new nF, D1.new nF, [], upd_same, rfl, fun _ h => nomatch h⟩ ?_ ?_ ?_
    · rintro i H' _ ⟨k, _⟩
      exact SqL.of (k _ _ npd (k1h _ _ npd epl))
    · rintro i x H2 H3 hi ⟨k2, D2, vs, eD, lv, hvs⟩ ⟨rfl, hx⟩
      have hi : i < ps.length := by rw [List.length_map] at hi; exact hi
      refine ⟨rfl, _, rfl, _, rfl, d, l, _, mvs, rfl, D2, .inl ⟨mr, rfl, nmd, SqL.of (k2 _ _ nmd ((Kp.refl d H1) _ _ nmd emr))⟩, by omega, by omega, fun H4 v K4 D4 hv => ?_⟩
      have nDd := (D1.nd nF)
      have eD4 := K4 _ _ nDd.1 eD
      have tm := TKeep.mut (o := .lst (vs ++ [v])) eD4
      refine ⟨vs, eD4, lt_size (by omega), (k2.trans K4).mut nF, D4.at nDd.1 nDd.2, _, upd_same, by rw [List.length_append, lv]; rfl, fun u hu => ?_⟩
      rcases List.mem_append.mp hu with h | h
      · exact ((hvs u h).keep (TKeep.kp K4 D2)).keep tm
      · rw [List.mem_singleton.mp h]
        exact ((((hm v hv).keep (TKeep.kp (Kp.refl d H1) D1)).keep (TKeep.kp (k2.trans K4) D1))).keep tm
    rintro H5 ⟨K5, D5, vsF, eF, lvF, hvsF⟩
    rw [List.length_map] at lvF
    refine ⟨F, vsF, rfl, .inl ⟨SqL.of eF, fun qF nqF => ⟨by show 3 ≤ sizeLine; decide, fun cF ncF => ?_⟩⟩⟩
    have s1F := same_upd (o := .tup vsF) (Same.refl H5) nqF
    have s2F := same_upd (o := .tup [V.str "call", sV la, V.ref qF]) (Same.refl _) ncF
    have hcF : Nn ps (some la) 1 9 (upd (upd H5 qF (.tup vsF)) cF (.tup [V.str "call", sV la, V.ref qF])) (.ref cF) :=
      nn_call (k := 0) (N := 2) upd_same (s2F _ _ upd_same) (fun u hu => ((hvsF u hu).keep (TKeep.same (s1F.trans s2F))).la) lok (.inr (.inr ⟨lps, rfl, lvF⟩)) (by rw [lvF]; omega)
    have kcF := (K5.new nqF).new (o := .tup [V.str "call", sV la, V.ref qF]) ncF
    have dcF := (D5.new nqF).new (o := .tup [V.str "call", sV la, V.ref qF]) ncF
    generalize upd (upd H5 qF (.tup vsF)) cF (.tup [V.str "call", sV la, V.ref qF]) = H6 at hcF kcF dcF ⊢
    have kH6 : Kp d H H6 := k1h.trans kcF
    have km6 : Kp d H1 H6 := kcF
    have hw6 := hw.keep (TKeep.kp kH6 hD)
    have emr6 := km6 _ _ nmd emr
    have hm6 : ∀ v ∈ mvs, Tt ps none 0 2 H6 v := fun v hv => (hm v hv).keep (TKeep.kp km6 D1)
    have two : ∀ {H9 : Hp} {r : Addr} {x y : V} {k N : Nat}, H9 r = some (.tup [x, y]) → Nn ps (some la) k N H9 x → Nn ps (some la) k N H9 y → k ≤ 3 → N ≤ 100 → Tt ps (some la) 3 200 H9 (.ref r) := fun er hx hy hk hN => (tt_of er (fun u hu => by
      rcases List.mem_cons.mp hu with z | z
      · rw [z]; exact hx
      · rw [List.mem_singleton.mp z]; exact hy) (Nat.le_refl _)).mono hk (by show 2 * _ ≤ 200; omega)
    by_cases c0 : kind = 0
    · refine ⟨_, rfl, rfl, true, bT (by rw [c0]), _, rfl, _, rfl, by show 2 ≤ sizeLine; decide, fun r nr => ?_⟩
      exact q _ _ (kH6.new nr) (dcF.new nr) (two upd_same (hcF.keep (TKeep.new nr)) (hcF.keep (TKeep.new nr)) (by decide) (by decide))
    refine ⟨_, rfl, rfl, false, bF (fun z => c0 (V.int.inj z)), ?_⟩
    by_cases c1 : kind = 1
    · refine ⟨_, rfl, rfl, true, bT (by rw [c1]), ?_⟩
      refine ⟨_, rfl, _, rfl, _, rfl, pl, rfl, ⟨_, SqL.of (kH6 _ _ npd epl)⟩, fun G nG => ?_⟩
      refine lc_it (walk_list (K := K) (a := pl) (xs := ps.map sV)) (fun i H' => Kp d H6 H' ∧ DI d l H' ∧ ∃ vs, H' G = some (.lst vs) ∧ vs.length = i ∧ ∀ v ∈ vs, Tt ps none 0 2 H' v) ⟨(Kp.refl d _).new nG, dcF.new nG, [], upd_same, rfl, fun _ h => nomatch h⟩ ?_ ?_ ?_
      · rintro i H' _ ⟨k, _⟩
        exact SqL.of (k _ _ npd (kH6 _ _ npd epl))
      · rintro i x H2 H3 hi ⟨k2, D2, vs, eD, lv, hvs⟩ ⟨rfl, hx⟩
        have hi : i < ps.length := by rw [List.length_map] at hi; exact hi
        refine ⟨rfl, _, rfl, _, rfl, d, l, _, mvs, rfl, D2, .inl ⟨mr, rfl, nmd, SqL.of (k2 _ _ nmd (kcF _ _ nmd emr))⟩, by omega, by omega, fun H4 v K4 D4 hv => ?_⟩
        have nDd := (dcF.nd nG)
        have eD4 := K4 _ _ nDd.1 eD
        have tm := TKeep.mut (o := .lst (vs ++ [v])) eD4
        refine ⟨vs, eD4, lt_size (by omega), (k2.trans K4).mut nG, D4.at nDd.1 nDd.2, _, upd_same, by rw [List.length_append, lv]; rfl, fun u hu => ?_⟩
        rcases List.mem_append.mp hu with h | h
        · exact ((hvs u h).keep (TKeep.kp K4 D2)).keep tm
        · rw [List.mem_singleton.mp h]
          exact ((((hm v hv).keep (TKeep.kp kcF D1)).keep (TKeep.kp (k2.trans K4) dcF))).keep tm
      rintro H7 ⟨K7, D7, vsG, eG, lvG, hvsG⟩
      rw [List.length_map] at lvG
      refine ⟨G, vsG, rfl, .inl ⟨SqL.of eG, fun qG nqG => ⟨by show 3 ≤ sizeLine; decide, fun cG ncG => ?_⟩⟩⟩
      have s1G := same_upd (o := .tup vsG) (Same.refl H7) nqG
      have s2G := same_upd (o := .tup [V.str "call", sV la, V.ref qG]) (Same.refl _) ncG
      have hcG : Nn ps (some la) 1 9 (upd (upd H7 qG (.tup vsG)) cG (.tup [V.str "call", sV la, V.ref qG])) (.ref cG) :=
        nn_call (k := 0) (N := 2) upd_same (s2G _ _ upd_same) (fun u hu => ((hvsG u hu).keep (TKeep.same (s1G.trans s2G))).la) lok (.inr (.inr ⟨lps, rfl, lvG⟩)) (by rw [lvG]; omega)
      have kcG := (K7.new nqG).new (o := .tup [V.str "call", sV la, V.ref qG]) ncG
      have dcG := (D7.new nqG).new (o := .tup [V.str "call", sV la, V.ref qG]) ncG
      generalize upd (upd H7 qG (.tup vsG)) cG (.tup [V.str "call", sV la, V.ref qG]) = H8 at hcG kcG dcG ⊢
      refine ⟨by show 2 ≤ sizeLine; decide, fun r nr => ?_⟩
      exact q _ _ ((kH6.trans kcG).new nr) (dcG.new nr) (two upd_same ((hcF.keep (TKeep.kp kcG dcF)).keep (TKeep.new nr)) (hcG.keep (TKeep.new nr)) (by decide) (by decide))
    refine ⟨_, rfl, rfl, false, bF (fun z => c1 (V.int.inj z)), ?_⟩
    by_cases c2 : kind = 2
    · refine ⟨_, rfl, rfl, true, bT (by rw [c2]), ?_⟩
      refine ⟨_, rfl, _, rfl, pl, rfl, ⟨_, SqL.of (kH6 _ _ npd epl)⟩, fun G nG => ?_⟩
      refine lc_it (walk_list (K := K) (a := pl) (xs := ps.map sV)) (fun i H' => Same H6 H' ∧ ∃ vs, H' G = some (.lst vs) ∧ vs.length = i ∧ ∀ v ∈ vs, Tt ps (some la) 1 9 H' v) ⟨same_upd (Same.refl H6) nG, [], upd_same, rfl, fun _ h => nomatch h⟩ ?_ ?_ ?_
      · rintro i H' _ ⟨k, _⟩
        exact SqL.of (k _ _ (kH6 _ _ npd epl))
      · rintro i x H7 H8 hi ⟨k7, vs, eG, lv, hvs⟩ ⟨rfl, hx⟩
        have hi : i < ps.length := by rw [List.length_map] at hi; exact hi
        refine ⟨rfl, _, rfl, by show 1 ≤ sizeLine; decide, fun t nt => ?_⟩
        have st := same_upd (o := .tup [V.ref cF]) (Same.refl H8) nt
        have eG8 := st _ _ eG
        have hx8 : Tt ps (some la) 1 9 (upd H8 t (.tup [V.ref cF])) (.ref t) := tt_of upd_same (fun u hu => by rw [List.mem_singleton.mp hu]; exact hcF.keep (TKeep.same (k7.trans st))) (by show 1 * 9 ≤ 9; decide)
        generalize upd H8 t (.tup [V.ref cF]) = H9 at st eG8 hx8 ⊢
        have tm := TKeep.mut (o := .lst (vs ++ [V.ref t])) eG8
        refine ⟨vs, eG8, lt_size (by omega), same_mut (k7.trans st) nG, _, upd_same, by rw [List.length_append, lv]; rfl, fun u hu => ?_⟩
        rcases List.mem_append.mp hu with h | h
        · exact ((hvs u h).keep (TKeep.same st)).keep tm
        · rw [List.mem_singleton.mp h]; exact hx8.keep tm
      rintro H7 ⟨k7, vs, eG, lv, hvs⟩
      rw [List.length_map] at lv
      refine ⟨G, vs, rfl, .inl ⟨SqL.of eG, fun q1 n1 => ⟨by show 3 ≤ sizeLine; decide, fun c nc => ⟨by show 1 ≤ sizeLine; decide, fun r nr => ?_⟩⟩⟩⟩
      have u1 := same_upd (o := .tup vs) (Same.refl H7) n1
      have u2 := same_upd (o := .tup [V.str "call", sV la, V.ref q1]) (Same.refl _) nc
      have u3 := same_upd (o := .tup [V.ref c]) (Same.refl _) nr
      have u13 := u1.trans (u2.trans u3)
      have hn : Nn ps (some la) 2 23 _ (V.ref c) := nn_call (k := 1) (N := 9) (u3 _ _ upd_same) ((u2.trans u3) _ _ upd_same) (fun u hu => (hvs u hu).keep (TKeep.same u13)) lok (.inr (.inr ⟨lps, rfl, lv⟩)) (by rw [lv]; omega)
      exact q _ _ (kH6.trans fun b o _ e => (k7.trans u13) b o e) (dcF.keep (k7.trans u13)) ((tt_of upd_same (fun u hu => by rw [List.mem_singleton.mp hu]; exact hn) (show 1 * 23 ≤ 23 by decide)).mono (by decide) (by decide))
    refine ⟨_, rfl, rfl, false, bF (fun z => c2 (V.int.inj z)), ?_⟩
    by_cases c3 : kind = 3
    · refine ⟨_, rfl, rfl, true, bT (by rw [c3]), ?_⟩
      refine ⟨_, rfl, _, rfl, by show 1 ≤ sizeLine; decide, fun t nt => ?_⟩
      have st := TKeep.new (o := .tup [V.ref cF]) nt
      have ht : Tt ps (some la) 1 9 (upd H6 t (.tup [V.ref cF])) (.ref t) := tt_of upd_same (fun u hu => by rw [List.mem_singleton.mp hu]; exact hcF.keep st) (by show 1 * 9 ≤ 9; decide)
      refine ⟨d, l, .ref t, ps, some la, 1, 9, rfl, dcF.new nt, ht, by decide, fun p hp => (pok p hp).2, fun H7 r K7 D7 hr7 => ?_⟩
      have K67 := (kH6.new nt).trans K7
      obtain ⟨p0, pr, rfl⟩ : ∃ p0 pr, ps = p0 :: pr := by
        cases ps with
        | nil => exact absurd p1 (by decide)
        | cons p0 pr => exact ⟨p0, pr, rfl⟩
      refine ⟨_, rfl, pl, _, 0, _, rfl, rfl, SqL.of (K67 _ _ npd epl), atI_nat (j := 0) rfl, by show 0 ≤ sizeLine; decide, fun e0 n0 => ⟨by show 3 ≤ sizeLine; decide, fun c nc => ⟨by show 2 ≤ sizeLine; decide, fun o no => ?_⟩⟩⟩
      have u1 := same_upd (o := .tup []) (Same.refl H7) n0
      have u2 := same_upd (o := .tup [V.str "call", sV p0, V.ref e0]) (Same.refl _) nc
      have u3 := same_upd (o := .tup [r, V.ref c]) (Same.refl _) no
      have u13 := u1.trans (u2.trans u3)
      have hc9 : Nn (p0 :: pr) (some la) 0 1 _ (V.ref c) := nn_par (u3 _ _ upd_same) ((u2.trans u3) _ _ upd_same) (pok p0 List.mem_cons_self).1 List.mem_cons_self
      exact q _ _ (K67.trans fun b o _ e => u13 b o e) (D7.keep u13) (two upd_same (hr7.keep (TKeep.same u13)) (hc9.mono (by decide) (by decide)) (by decide) (by decide))
    refine ⟨_, rfl, rfl, false, bF (fun z => c3 (V.int.inj z)), ?_⟩
    by_cases c4 : kind = 4
    · refine ⟨_, rfl, rfl, true, bT (by rw [c4]), _, rfl, _, rfl, by show 2 ≤ sizeLine; decide, fun r nr => ?_⟩
      have hw' : Nn ps (some la) 1 9 H6 wv := by
        obtain ⟨nd, a, b, c, e, f⟩ := hw6
        exact ⟨nd, a, by omega, by omega, e, f.up⟩
      exact q _ _ (kH6.new nr) (dcF.new nr) (two upd_same (hw'.keep (TKeep.new nr)) (hcF.keep (TKeep.new nr)) (by decide) (by decide))
    refine ⟨_, rfl, rfl, false, bF (fun z => c4 (V.int.inj z)), ?_⟩
    have l7a : 5 < mvs.length := by omega
    have l7b : 1 < mvs.length := by omega
    obtain ⟨m5, e5, h5⟩ : ∃ m5, mvs[5]? = some m5 ∧ Tt ps none 0 2 H6 m5 := ⟨mvs[5], List.getElem?_eq_getElem l7a, hm6 _ (List.getElem_mem _)⟩
    obtain ⟨m1, e1, h1⟩ : ∃ m1, mvs[1]? = some m1 ∧ Tt ps none 0 2 H6 m1 := ⟨mvs[1], List.getElem?_eq_getElem l7b, hm6 _ (List.getElem_mem _)⟩
    have epl6 := kH6 _ _ npd epl
    rcases ps with _ | ⟨p0, _ | ⟨p9, _ | ⟨p8, pr⟩⟩⟩
    · exact absurd p1 (by decide)
    · refine ⟨_, rfl, _, rfl, _, rfl, mr, mvs, 5, m5, rfl, rfl, SqL.of emr6, atI_nat (j := 5) e5, by show 1 ≤ sizeLine; decide, fun x1 n1 => ?_⟩
      have s1 := same_upd (o := .tup [m5]) (Same.refl H6) n1
      refine ⟨_, rfl, pl, _, rfl, .inl (SqL.of (s1 _ _ epl6)), x1, _, [m5], rfl, rfl, SqT.of upd_same, by simp, by simp, by simp, by simp, fun _ => ?_, fun hk => absurd rfl hk⟩
      have f1 := s1
      have ex := upd_same (H := H6) (a := x1) (o := .tup [m5])
      generalize upd H6 x1 (.tup [m5]) = G1 at f1 ex ⊢
      refine ⟨by show 3 ≤ sizeLine; decide, fun c1 nc1 => ⟨by show 1 ≤ sizeLine; decide, fun t1 nt1 => ⟨by show 1 ≤ sizeLine; decide, fun a1 na1 => ?_⟩⟩⟩
      have g1 := same_upd (o := .tup [V.str "call", sV la, V.ref x1]) (Same.refl G1) nc1
      have g2 := same_upd (o := .tup [V.ref c1]) (Same.refl _) nt1
      have g3 := same_upd (o := .tup [V.ref t1]) (Same.refl _) na1
      have ec1 := (g2.trans g3) _ _ (upd_same (H := G1) (a := c1) (o := .tup [V.str "call", sV la, V.ref x1]))
      have et1 := g3 _ _ (upd_same (H := upd G1 c1 (.tup [V.str "call", sV la, V.ref x1])) (a := t1) (o := .tup [V.ref c1]))
      have ea1 : upd (upd (upd G1 c1 (.tup [V.str "call", sV la, V.ref x1])) t1 (.tup [V.ref c1])) a1 (.tup [V.ref t1]) a1 = some (.tup [V.ref t1]) := upd_same
      have g13 := g1.trans (g2.trans g3)
      have f2 := f1.trans g13
      have ex2 := g13 _ _ ex
      generalize upd (upd (upd G1 c1 (.tup [V.str "call", sV la, V.ref x1])) t1 (.tup [V.ref c1])) a1 (.tup [V.ref t1]) = G2 at f2 ec1 et1 ea1 ex2 ⊢
      refine ⟨_, rfl, mr, mvs, 5, m5, rfl, rfl, SqL.of (f2 _ _ emr6), atI_nat (j := 5) e5, by show 1 ≤ sizeLine; decide, fun x2 n2 => ?_⟩
      have s2 := same_upd (o := .tup [m5]) (Same.refl G2) n2
      refine ⟨_, rfl, pl, _, rfl, .inl (SqL.of ((f2.trans s2) _ _ epl6)), _, _, rfl, rfl, x2, _, [m5], rfl, rfl, SqT.of upd_same, by simp, by simp, by simp, by simp, fun hk => absurd hk (by simp), fun _ y2 ny2 => ?_⟩
      rw [show (List.replicate ((((List.map sV [p0]).length : Nat) : Int) - 1).toNat [m5]).flatten = ([] : List V) from rfl]
      have s3 := same_upd (o := .tup []) (Same.refl (upd G2 x2 (.tup [m5]))) ny2
      have s23 := s2.trans s3
      refine ⟨a1, y2, [V.ref t1], [], rfl, rfl, SqT.of (s23 _ _ ea1), SqT.of upd_same, by show 1 ≤ sizeLine; decide, (fun h => by cases h), (fun _ _ => ?_), (fun _ h => absurd rfl h)⟩
      have f3 := f2.trans s23
      have ee := s23 _ _ ea1
      have et3 := s23 _ _ et1
      have ec3 := s23 _ _ ec1
      have ex3 := s23 _ _ ex2
      generalize upd (upd G2 x2 (.tup [m5])) y2 (.tup []) = G3 at f3 ee et3 ec3 ex3 ⊢
      refine ⟨by show 3 ≤ sizeLine; decide, fun tw ntw => ?_⟩
      have g4 := same_upd (o := .tup [V.str "call", sV la, V.ref a1]) (Same.refl G3) ntw
      have h5x : ∀ {H9 : Hp}, Same H6 H9 → Tt [p0] (some la) 0 2 H9 m5 := fun k9 => (h5.keep (TKeep.same k9)).la
      have hc1 : Nn [p0] (some la) 1 9 G3 (V.ref c1) := nn_call (k := 0) (N := 2) ec3 ex3 (fun u hu => by
        have : u = m5 := by simpa using hu
        rw [this]; exact h5x f3) lok (.inr (.inr ⟨lps, rfl, rfl⟩)) (by simp)
      have ht1 : Tt [p0] (some la) 1 9 G3 (V.ref t1) := tt_of et3 (fun u hu => by rw [List.mem_singleton.mp hu]; exact hc1) (show 1 * 9 ≤ 9 by decide)
      have htw : Nn [p0] (some la) 2 23 (upd G3 tw (.tup [V.str "call", sV la, V.ref a1])) (V.ref tw) := nn_call (k := 1) (N := 9) upd_same (g4 _ _ ee) (fun u hu => by
        rcases List.mem_cons.mp hu with z | z
        · rw [z]; exact ht1.keep (TKeep.same g4)
        · have : u = m5 := by simpa using z
          rw [this]; exact (h5x (f3.trans g4)).mono (by decide) (by decide)) lok (.inr (.inr ⟨lps, rfl, rfl⟩)) (by simp)
      have f4 := f3.trans g4
      generalize upd G3 tw (.tup [V.str "call", sV la, V.ref a1]) = G4 at f4 htw ⊢
      refine ⟨_, rfl, _, rfl, by show 1 ≤ sizeLine; decide, fun t2 nt2 => ⟨by show 1 ≤ sizeLine; decide, fun a2 na2 => ?_⟩⟩
      have g5 := same_upd (o := .tup [V.ref tw]) (Same.refl G4) nt2
      have g6 := same_upd (o := .tup [V.ref t2]) (Same.refl _) na2
      have g56 := g5.trans g6
      have ht2 : Tt [p0] (some la) 2 23 (upd (upd G4 t2 (.tup [V.ref tw])) a2 (.tup [V.ref t2])) (V.ref t2) := tt_of (g6 _ _ upd_same) (fun u hu => by rw [List.mem_singleton.mp hu]; exact htw.keep (TKeep.same g56)) (show 1 * 23 ≤ 23 by decide)
      have ea2 : upd (upd G4 t2 (.tup [V.ref tw])) a2 (.tup [V.ref t2]) a2 = some (.tup [V.ref t2]) := upd_same
      have f5 := f4.trans g56
      generalize upd (upd G4 t2 (.tup [V.ref tw])) a2 (.tup [V.ref t2]) = G5 at f5 ht2 ea2 ⊢
      refine ⟨_, rfl, mr, mvs, 1, m1, rfl, rfl, SqL.of (f5 _ _ emr6), atI_nat (j := 1) e1, by show 1 ≤ sizeLine; decide, fun x3 n3 => ?_⟩
      have s5 := same_upd (o := .tup [m1]) (Same.refl G5) n3
      refine ⟨_, rfl, pl, _, rfl, .inl (SqL.of ((f5.trans s5) _ _ epl6)), _, _, rfl, rfl, x3, _, [m1], rfl, rfl, SqT.of upd_same, by simp, by simp, by simp, by simp, fun hk => absurd hk (by simp), fun _ y3 ny3 => ?_⟩
      rw [show (List.replicate ((((List.map sV [p0]).length : Nat) : Int) - 1).toNat [m1]).flatten = ([] : List V) from rfl]
      have s6 := same_upd (o := .tup []) (Same.refl (upd G5 x3 (.tup [m1]))) ny3
      have s56 := s5.trans s6
      refine ⟨a2, y3, [V.ref t2], [], rfl, rfl, SqT.of (s56 _ _ ea2), SqT.of upd_same, by show 1 ≤ sizeLine; decide, (fun h => by cases h), (fun _ _ => ?_), (fun _ h => absurd rfl h)⟩
      have f6 := f5.trans s56
      have eo := s56 _ _ ea2
      have ht3 := ht2.keep (TKeep.same s56)
      generalize upd (upd G5 x3 (.tup [m1])) y3 (.tup []) = G6 at f6 eo ht3 ⊢
      refine ⟨by show 3 ≤ sizeLine; decide, fun c3 nc3 => ⟨by show 1 ≤ sizeLine; decide, fun r nr => ?_⟩⟩
      have g7 := same_upd (o := .tup [V.str "call", sV la, V.ref a2]) (Same.refl G6) nc3
      have g8 := same_upd (o := .tup [V.ref c3]) (Same.refl _) nr
      have g78 := g7.trans g8
      have f7 := f6.trans g78
      have ho : Nn [p0] (some la) 3 60 _ (V.ref c3) := nn_call (k := 2) (N := 23) (g8 _ _ upd_same) (g78 _ _ eo) (fun u hu => by
        rcases List.mem_cons.mp hu with z | z
        · rw [z]; exact ht3.keep (TKeep.same g78)
        · have : u = m1 := by simpa using z
          rw [this]; exact (h1.keep (TKeep.same f7)).la.mono (by decide) (by decide)) lok (.inr (.inr ⟨lps, rfl, rfl⟩)) (by simp)
      exact q _ _ (kH6.trans fun b o _ e => f7 b o e) (dcF.keep f7) ((tt_of upd_same (fun u hu => by rw [List.mem_singleton.mp hu]; exact ho) (show 1 * 60 ≤ 60 by decide)).mono (by decide) (by decide))
    · refine ⟨_, rfl, _, rfl, _, rfl, mr, mvs, 5, m5, rfl, rfl, SqL.of emr6, atI_nat (j := 5) e5, by show 1 ≤ sizeLine; decide, fun x1 n1 => ?_⟩
      have s1 := same_upd (o := .tup [m5]) (Same.refl H6) n1
      refine ⟨_, rfl, pl, _, rfl, .inl (SqL.of (s1 _ _ epl6)), x1, _, [m5], rfl, rfl, SqT.of upd_same, by simp, by simp, by simp, by simp, fun hk => absurd hk (by simp), fun _ y1 ny1 => ?_⟩
      rw [show (List.replicate ((((List.map sV [p0, p9]).length : Nat) : Int)).toNat [m5]).flatten = [m5, m5] from rfl]
      have f1 := s1.trans (same_upd (o := .tup [m5, m5]) (Same.refl _) ny1)
      have ex : upd (upd H6 x1 (.tup [m5])) y1 (.tup [m5, m5]) y1 = some (.tup [m5, m5]) := upd_same
      generalize upd (upd H6 x1 (.tup [m5])) y1 (.tup [m5, m5]) = G1 at f1 ex ⊢
      refine ⟨by show 3 ≤ sizeLine; decide, fun c1 nc1 => ⟨by show 1 ≤ sizeLine; decide, fun t1 nt1 => ⟨by show 1 ≤ sizeLine; decide, fun a1 na1 => ?_⟩⟩⟩
      have g1 := same_upd (o := .tup [V.str "call", sV la, V.ref y1]) (Same.refl G1) nc1
      have g2 := same_upd (o := .tup [V.ref c1]) (Same.refl _) nt1
      have g3 := same_upd (o := .tup [V.ref t1]) (Same.refl _) na1
      have ec1 := (g2.trans g3) _ _ (upd_same (H := G1) (a := c1) (o := .tup [V.str "call", sV la, V.ref y1]))
      have et1 := g3 _ _ (upd_same (H := upd G1 c1 (.tup [V.str "call", sV la, V.ref y1])) (a := t1) (o := .tup [V.ref c1]))
      have ea1 : upd (upd (upd G1 c1 (.tup [V.str "call", sV la, V.ref y1])) t1 (.tup [V.ref c1])) a1 (.tup [V.ref t1]) a1 = some (.tup [V.ref t1]) := upd_same
      have g13 := g1.trans (g2.trans g3)
      have f2 := f1.trans g13
      have ex2 := g13 _ _ ex
      generalize upd (upd (upd G1 c1 (.tup [V.str "call", sV la, V.ref y1])) t1 (.tup [V.ref c1])) a1 (.tup [V.ref t1]) = G2 at f2 ec1 et1 ea1 ex2 ⊢
      refine ⟨_, rfl, mr, mvs, 5, m5, rfl, rfl, SqL.of (f2 _ _ emr6), atI_nat (j := 5) e5, by show 1 ≤ sizeLine; decide, fun x2 n2 => ?_⟩
      have s2 := same_upd (o := .tup [m5]) (Same.refl G2) n2
      refine ⟨_, rfl, pl, _, rfl, .inl (SqL.of ((f2.trans s2) _ _ epl6)), _, _, rfl, rfl, x2, _, [m5], rfl, rfl, SqT.of upd_same, by simp, by simp, by simp, by simp, fun _ => ?_, fun hk => absurd rfl hk⟩
      refine ⟨a1, x2, [V.ref t1], [m5], rfl, rfl, SqT.of (s2 _ _ ea1), SqT.of upd_same, by show 2 ≤ sizeLine; decide, (fun h => by cases h), (fun _ h => by cases h), (fun _ _ y2 ny2 => ?_)⟩
      rw [show [V.ref t1] ++ [m5] = [V.ref t1, m5] from rfl]
      have s3 := same_upd (o := .tup [V.ref t1, m5]) (Same.refl (upd G2 x2 (.tup [m5]))) ny2
      have s23 := s2.trans s3
      have f3 := f2.trans s23
      have ee : upd (upd G2 x2 (.tup [m5])) y2 (.tup [V.ref t1, m5]) y2 = some (.tup [V.ref t1, m5]) := upd_same
      have et3 := s23 _ _ et1
      have ec3 := s23 _ _ ec1
      have ex3 := s23 _ _ ex2
      generalize upd (upd G2 x2 (.tup [m5])) y2 (.tup [V.ref t1, m5]) = G3 at f3 ee et3 ec3 ex3 ⊢
      refine ⟨by show 3 ≤ sizeLine; decide, fun tw ntw => ?_⟩
      have g4 := same_upd (o := .tup [V.str "call", sV la, V.ref y2]) (Same.refl G3) ntw
      have h5x : ∀ {H9 : Hp}, Same H6 H9 → Tt [p0, p9] (some la) 0 2 H9 m5 := fun k9 => (h5.keep (TKeep.same k9)).la
      have hc1 : Nn [p0, p9] (some la) 1 9 G3 (V.ref c1) := nn_call (k := 0) (N := 2) ec3 ex3 (fun u hu => by
        have : u = m5 := by simpa using hu
        rw [this]; exact h5x f3) lok (.inr (.inr ⟨lps, rfl, rfl⟩)) (by simp)
      have ht1 : Tt [p0, p9] (some la) 1 9 G3 (V.ref t1) := tt_of et3 (fun u hu => by rw [List.mem_singleton.mp hu]; exact hc1) (show 1 * 9 ≤ 9 by decide)
      have htw : Nn [p0, p9] (some la) 2 23 (upd G3 tw (.tup [V.str "call", sV la, V.ref y2])) (V.ref tw) := nn_call (k := 1) (N := 9) upd_same (g4 _ _ ee) (fun u hu => by
        rcases List.mem_cons.mp hu with z | z
        · rw [z]; exact ht1.keep (TKeep.same g4)
        · have : u = m5 := by simpa using z
          rw [this]; exact (h5x (f3.trans g4)).mono (by decide) (by decide)) lok (.inr (.inr ⟨lps, rfl, rfl⟩)) (by simp)
      have f4 := f3.trans g4
      generalize upd G3 tw (.tup [V.str "call", sV la, V.ref y2]) = G4 at f4 htw ⊢
      refine ⟨_, rfl, _, rfl, by show 1 ≤ sizeLine; decide, fun t2 nt2 => ⟨by show 1 ≤ sizeLine; decide, fun a2 na2 => ?_⟩⟩
      have g5 := same_upd (o := .tup [V.ref tw]) (Same.refl G4) nt2
      have g6 := same_upd (o := .tup [V.ref t2]) (Same.refl _) na2
      have g56 := g5.trans g6
      have ht2 : Tt [p0, p9] (some la) 2 23 (upd (upd G4 t2 (.tup [V.ref tw])) a2 (.tup [V.ref t2])) (V.ref t2) := tt_of (g6 _ _ upd_same) (fun u hu => by rw [List.mem_singleton.mp hu]; exact htw.keep (TKeep.same g56)) (show 1 * 23 ≤ 23 by decide)
      have ea2 : upd (upd G4 t2 (.tup [V.ref tw])) a2 (.tup [V.ref t2]) a2 = some (.tup [V.ref t2]) := upd_same
      have f5 := f4.trans g56
      generalize upd (upd G4 t2 (.tup [V.ref tw])) a2 (.tup [V.ref t2]) = G5 at f5 ht2 ea2 ⊢
      refine ⟨_, rfl, mr, mvs, 1, m1, rfl, rfl, SqL.of (f5 _ _ emr6), atI_nat (j := 1) e1, by show 1 ≤ sizeLine; decide, fun x3 n3 => ?_⟩
      have s5 := same_upd (o := .tup [m1]) (Same.refl G5) n3
      refine ⟨_, rfl, pl, _, rfl, .inl (SqL.of ((f5.trans s5) _ _ epl6)), _, _, rfl, rfl, x3, _, [m1], rfl, rfl, SqT.of upd_same, by simp, by simp, by simp, by simp, fun _ => ?_, fun hk => absurd rfl hk⟩
      refine ⟨a2, x3, [V.ref t2], [m1], rfl, rfl, SqT.of (s5 _ _ ea2), SqT.of upd_same, by show 2 ≤ sizeLine; decide, (fun h => by cases h), (fun _ h => by cases h), (fun _ _ y3 ny3 => ?_)⟩
      rw [show [V.ref t2] ++ [m1] = [V.ref t2, m1] from rfl]
      have s6 := same_upd (o := .tup [V.ref t2, m1]) (Same.refl (upd G5 x3 (.tup [m1]))) ny3
      have s56 := s5.trans s6
      have f6 := f5.trans s56
      have eo : upd (upd G5 x3 (.tup [m1])) y3 (.tup [V.ref t2, m1]) y3 = some (.tup [V.ref t2, m1]) := upd_same
      have ht3 := ht2.keep (TKeep.same s56)
      generalize upd (upd G5 x3 (.tup [m1])) y3 (.tup [V.ref t2, m1]) = G6 at f6 eo ht3 ⊢
      refine ⟨by show 3 ≤ sizeLine; decide, fun c3 nc3 => ⟨by show 1 ≤ sizeLine; decide, fun r nr => ?_⟩⟩
      have g7 := same_upd (o := .tup [V.str "call", sV la, V.ref y3]) (Same.refl G6) nc3
      have g8 := same_upd (o := .tup [V.ref c3]) (Same.refl _) nr
      have g78 := g7.trans g8
      have f7 := f6.trans g78
      have ho : Nn [p0, p9] (some la) 3 60 _ (V.ref c3) := nn_call (k := 2) (N := 23) (g8 _ _ upd_same) (g78 _ _ eo) (fun u hu => by
        rcases List.mem_cons.mp hu with z | z
        · rw [z]; exact ht3.keep (TKeep.same g78)
        · have : u = m1 := by simpa using z
          rw [this]; exact (h1.keep (TKeep.same f7)).la.mono (by decide) (by decide)) lok (.inr (.inr ⟨lps, rfl, rfl⟩)) (by simp)
      exact q _ _ (kH6.trans fun b o _ e => f7 b o e) (dcF.keep f7) ((tt_of upd_same (fun u hu => by rw [List.mem_singleton.mp hu]; exact ho) (show 1 * 60 ≤ 60 by decide)).mono (by decide) (by decide))
    · exact absurd p2 (by simp)
end
end Vf

set_option Elab.async false
set_option linter.all false
set_option maxRecDepth 100000
set_option maxHeartbeats 4000000
namespace Vf
open PySem PySem.Spec PyProof.Rows L2 TL
/-! ### chains: what a loop of it keeps -/
theorem kn_len {ps : List (List Nat)} : ∀ {ms : List Mc}, (∀ x ∈ ms, x.2.1 = ps) → ∀ {n : List Nat} {j : Nat}, (knM ms).lookup n = some j → j = ps.length
  | [], _, n, j, h => by cases h
  | x :: ms, hx, n, j, h => by
    have h : List.lookup n ((x.1, x.2.1.length) :: knM ms) = some j := h
    rw [List.lookup_cons] at h
    cases e : n == x.1 with
    | true =>
      rw [e] at h
      rw [← Option.some.inj h, hx x List.mem_cons_self]
    | false =>
      rw [e] at h
      exact kn_len (fun y hy => hx y (List.mem_cons_of_mem _ hy)) h
theorem ChI.all {ps : List (List Nat)} {ms : List Mc} {fm : Fm} {B : Nat} (h : ChI ps ms fm B) : ∀ x ∈ ms, x.2.1 = ps := fun x hx => by
  obtain ⟨i, hi⟩ := List.mem_iff_getElem?.mp hx
  exact (h.nm i x hi).2
theorem ChI.bn {ps : List (List Nat)} {ms : List Mc} {fm : Fm} {B : Nat} (h : ChI ps ms fm B) : ∀ n ∈ bnN, (szM ms []).lookup n = none := fun n hn => by
  have h1 := h.kf.len n
  rw [h.kf.bn n hn] at h1
  cases e : (szM ms []).lookup n with
  | none => rfl
  | some s => rw [e] at h1; cases h1
theorem ChI.wf {ps : List (List Nat)} {ms : List Mc} {fm : Fm} {B : Nat} (h : ChI ps ms fm B) {la : Option (List Nat)} {b : Tr} (hc : ChT ps la b) : WfT ps (szM ms []) b := by
  refine ch_wf h.bn (fun n _ s hs => ?_) hc
  have h1 := h.kf.len n
  rw [hs] at h1
  cases e : (knM ms).lookup n with
  | none => rw [e] at h1; cases h1
  | some j =>
    rw [e] at h1
    have := kn_len h.all e
    have h2 : s.length = j + 1 := Option.some.inj h1
    omega
theorem ChI.lw {ps : List (List Nat)} {ms : List Mc} {fm : Fm} {B : Nat} (h : ChI ps ms fm B) {la : Option (List Nat)} {b : Tr} (hc : ChT ps la b) (f : List Nat → Int) : LwT (ps.map fun q => (q, f q)) fm b :=
  lw_of h.kf.ok (fun n e hn => by rw [look_mapf, if_pos hn] at e; cases e) (h.wf hc)
theorem ChI.fbd {ps : List (List Nat)} {ms : List Mc} {fm : Fm} {B : Nat} (h : ChI ps ms fm B) : ∀ n f, fm.lookup n = some f → ∀ x ∈ f, 0 ≤ x ∧ x ≤ ((2 ^ B : Nat) : Int) := by
  intro n f e x hx
  have h1 := h.kf.ok.fst n
  rw [e] at h1
  cases es : (szM ms []).lookup n with
  | none => rw [es] at h1; cases h1
  | some s =>
    rw [es] at h1
    have h1 : fsS s = f := Option.some.inj h1
    rw [← h1] at hx
    obtain ⟨y, hy, rfl⟩ := List.mem_map.mp hx
    exact ⟨(h.kf.ok.nn n s es).1 y hy, h.mx.2 n s es y hy⟩
theorem ChI.le_form {ps : List (List Nat)} {ms : List Mc} {fm : Fm} {B : Nat} (h : ChI ps ms fm B) (hn : ps.Nodup) {la : Option (List Nat)} {b : Tr} (hc : ChT ps la b) {m : Int} (hm : ∀ y ∈ formL ps b fm, y ≤ m) (hB : m ≤ ((2 ^ B : Nat) : Int)) : LeS (pszT ps (szM ms []) ((0, 0) :: noneS ps) b) (2 ^ B) := by
  obtain ⟨f1, _, _⟩ := form_ok h.kf.ok hn (h.wf hc)
  intro x hx
  have : x.1 ∈ formL ps b fm := by rw [← f1]; exact List.mem_map.mpr ⟨x, hx, rfl⟩
  exact Int.le_trans (hm _ this) hB
theorem ChI.le_free {ps : List (List Nat)} {ms : List Mc} {fm : Fm} (h : ChI ps ms fm 2901) (hn : ps.Nodup) {b : Tr} (hc : ChT ps none b) (hw : wT b ≤ 90000) : LeS (pszT ps (szM ms []) ((0, 0) :: noneS ps) b) (2 ^ 2901) := by
  refine (free_small h.bn hn hc).mono (Nat.le_trans hw ?_)
  have : (2 : Nat) ^ 17 ≤ 2 ^ 2901 := Nat.pow_le_pow_right (by decide) (by decide)
  have e : (2 : Nat) ^ 17 = 131072 := rfl
  omega
theorem ch_start (ps : List (List Nat)) : ChI ps [] [] 2901 := ⟨fun i x h => by simp at h, ks_nil, Nat.zero_le _, ⟨Nat.one_le_two_pow, fun _ _ h => by cases h⟩⟩
/-- a definition as it stands, with its macro -/
def Lt (x : Mc) (H : Hp) (v : V) : Prop := ∃ a, NV H v (.call letN a) ∧ letOf a = some (x.1 :: x.2.1, x.2.2) ∧ depA a ≤ 4 ∧ (toksA a).length ≤ 290 ∧ BA 100 a
theorem Lt.keep {x : Mc} {H H' : Hp} {v : V} (h : Lt x H v) (t : TKeep H H') : Lt x H' v := by
  obtain ⟨a, b, c⟩ := h
  exact ⟨a, b.keep t, c⟩
theorem may_ttl (k : Nat) (hk : k < 40) : mayN (ttl k) = true := by
  have h : ∀ k < 40, mayN (ttl k) = true := by decide +kernel
  exact h k hk
def paN (n : Nat) : List (List Nat) := [[112], [113, 113]].take n
theorem may_pa : mayN [112] = true ∧ mayN [113, 113] = true := by decide +kernel
theorem letN_ok : OkN letN := ok_of (by decide +kernel)
end Vf

set_option Elab.async false
set_option linter.all false
set_option maxRecDepth 100000
set_option maxHeartbeats 4000000
namespace Vf
open PySem PySem.Spec PyProof.Rows L2 TL
/-! ### chains: the tree of all nodes -/
def Ce (H : Hp) (v : V) : Prop := ∃ nd, NV H v nd ∧ isDefN nd = false ∧ depN nd ≤ 2 ∧ (toksT (nd.tr .nil)).length ≤ 50 ∧ BN 100 nd
theorem Ce.keep {H H' : Hp} {v : V} (h : Ce H v) (t : TKeep H H') : Ce H' v := by
  obtain ⟨a, b, c⟩ := h
  exact ⟨a, b.keep t, c⟩
theorem rep_cons {H : Hp} {v : V} {nd : Nd} {r : Tr} {vs : List V} (h : NV H v nd) (hr : RepT H r vs) : RepT H (nd.tr r) (v :: vs) := by
  cases nd with
  | word z =>
    obtain ⟨p, rfl, e⟩ := h
    simp only [Nd.tr, RepT]
    exact ⟨p, vs, rfl, e, hr⟩
  | call n a =>
    obtain ⟨p, q, us, rfl, e, e2, hA⟩ := h
    simp only [Nd.tr, RepT]
    exact ⟨p, q, us, vs, rfl, e, e2, hA, hr⟩
theorem bt_cons {L : Nat} {nd : Nd} {r : Tr} (h : BN L nd) (hr : BT L r) : BT L (nd.tr r) := by
  cases nd with
  | word z => simp only [Nd.tr, BT]; exact ⟨h, hr⟩
  | call n a => simp only [Nd.tr, BT]; exact ⟨h.1, h.2, hr⟩
theorem tokT_cons (nd : Nd) (r : Tr) : (toksT (nd.tr r)).length = (toksT (nd.tr .nil)).length + (toksT r).length := by
  cases nd with
  | word z => simp only [Nd.tr, toksT, List.length_cons, List.length_nil]; omega
  | call n a => simp only [Nd.tr, toksT, List.length_cons, List.length_append, List.length_nil]; omega
theorem nd_tr {nd : Nd} {r : Tr} (h : isDefN nd = false) : ndT (nd.tr r) = nd.tr (ndT r) ∧ mcT (nd.tr r) = mcT r := by
  cases nd with
  | word z => exact ⟨rfl, rfl⟩
  | call n a =>
    have en : ¬ n = letN := of_decide_eq_false h
    simp only [Nd.tr, ndT, mcT]
    rw [if_neg en, if_neg en]
    exact ⟨rfl, rfl⟩
theorem ce_tree {H : Hp} : ∀ {ws : List V}, (∀ w ∈ ws, Ce H w) → ∃ t, RepT H t ws ∧ depT t ≤ 2 ∧ BT 100 t ∧ (toksT t).length ≤ ws.length * 50 ∧ mcT t = [] ∧ ndT t = t
  | [], _ => ⟨.nil, by simp only [RepT], Nat.zero_le _, trivial, Nat.zero_le _, rfl, rfl⟩
  | w :: ws, h => by
    obtain ⟨r, hr, d1, b1, l1, m1, n1⟩ := ce_tree (ws := ws) fun u hu => h u (List.mem_cons_of_mem _ hu)
    obtain ⟨nd, hv, hdef, d2, l2, b2⟩ := h w List.mem_cons_self
    have e := nd_tr (r := r) hdef
    refine ⟨nd.tr r, rep_cons hv hr, by rw [depT_tr]; omega, bt_cons b2 b1, ?_, by rw [e.2]; exact m1, by rw [e.1, n1]⟩
    rw [tokT_cons, List.length_cons, Nat.add_mul]; omega
theorem chain_tree {H : Hp} {ws : List V} (hw : ∀ w ∈ ws, Ce H w) : ∀ {ms : List Mc} {vs : List V}, vs.length = ms.length → (∀ (i : Nat) (x : Mc), ms[i]? = some x → ∃ v, vs[i]? = some v ∧ Lt x H v) →
    ∃ t, RepT H t (vs ++ ws) ∧ depT t ≤ 4 ∧ BT 100 t ∧ (toksT t).length ≤ ms.length * 300 + ws.length * 50 ∧ mcT t = ms ∧ wT (ndT t) ≤ ws.length * 50 ∧ depT (ndT t) ≤ 2
  | [], [], _, _ => by
    obtain ⟨t, hr, d, b, l, m, n⟩ := ce_tree hw
    refine ⟨t, hr, by omega, b, by show _ ≤ 0 * 300 + _; omega, m, by rw [n]; exact Nat.le_trans (wT_toks t) l, by rw [n]; exact d⟩
  | [], _ :: _, h, _ => by cases h
  | _ :: _, [], h, _ => by cases h
  | x :: ms, v :: vs, h, hx => by
    obtain ⟨r, hr, d1, b1, l1, m1, w1, n1⟩ := chain_tree hw (ms := ms) (vs := vs) (Nat.succ.inj h) fun i y hy => hx (i + 1) y hy
    obtain ⟨v0, e0, a, hv, el, da, la, ba⟩ := hx 0 x rfl
    have e0 : v = v0 := Option.some.inj e0
    subst e0
    have lok : BN 100 (.call letN a) := ⟨letN_ok, ba⟩
    refine ⟨Nd.tr (.call letN a) r, rep_cons hv hr, by rw [depT_tr]; simp only [depN]; omega, bt_cons lok b1, ?_, ?_, ?_, ?_⟩
    · rw [tokT_cons, List.length_cons, Nat.add_mul]
      simp only [Nd.tr, toksT, List.length_cons, List.length_append, List.length_nil]
      omega
    · simp only [Nd.tr, mcT]
      rw [if_pos trivial, m1]
      unfold mcA
      rw [el]; rfl
    · simp only [Nd.tr, ndT]
      rw [if_pos trivial]; exact w1
    · simp only [Nd.tr, ndT]
      rw [if_pos trivial]; exact n1
end Vf

set_option Elab.async false
set_option linter.all false
set_option maxRecDepth 100000
set_option maxHeartbeats 4000000
namespace Vf
open PySem PySem.Spec PyProof.Rows L2 TL
theorem DI.neI {d l a : Addr} {H : Hp} {f : List Int} (h : DI d l H) (e : H a = some (.lst (f.map V.int))) : a ≠ d := by
  obtain ⟨_, _, i, b, s, c, _, h2⟩ := h
  intro z
  rw [z, h2] at e
  have e2 := HO.lst.inj (Option.some.inj e)
  cases f with
  | nil => cases e2
  | cons x r => cases e2
theorem LKf.kp {d l : Addr} {H H' : Hp} (hD : DI d l H) (k : Kp d H H') : ∀ {a : Option V} {b : Option (List Int)}, LKf H a b → LKf H' a b
  | none, none, _ => trivial
  | some _, some _, ⟨p, e, h⟩ => ⟨p, e, k _ _ (hD.neI h) h⟩
  | none, some _, h => h
  | some _, none, h => h
theorem FmD.kp {d l F : Addr} {H H' : Hp} {fm : Fm} (h : FmD H F fm) (hD : DI d l H) (hF : F ≠ d) (k : Kp d H H') : FmD H' F fm := by
  obtain ⟨kvf, e, h⟩ := h
  exact ⟨kvf, k _ _ hF e, fun n => (h n).kp hD k⟩
theorem DI.neTT {d l a : Addr} {H : Hp} {xs : List V} (h : DI d l H) (e : H a = some (.tup xs)) : a ≠ d := by
  obtain ⟨_, _, i, b, s, c, _, h2⟩ := h
  intro z
  rw [z, h2] at e
  cases e
theorem BT_app {L : Nat} : ∀ {t u : Tr}, BT L t → BT L u → BT L (appT t u)
  | .nil, _, _, h => h
  | .word z r, u, h, k => by
    simp only [BT, appT] at h ⊢
    exact ⟨h.1, BT_app h.2 k⟩
  | .call n a r, u, h, k => by
    simp only [BT, appT] at h ⊢
    exact ⟨h.1, h.2.1, BT_app h.2.2 k⟩
theorem ChT_app {ps : List (List Nat)} {la : Option (List Nat)} : ∀ {t u : Tr}, ChT ps la t → ChT ps la u → ChT ps la (appT t u)
  | .nil, _, _, h => h
  | .word z r, u, h, k => by
    simp only [ChT, appT] at h ⊢
    exact ChT_app h k
  | .call n a r, u, h, k => by
    simp only [ChT, appT] at h ⊢
    exact ⟨h.1, h.2.1, ChT_app h.2.2 k⟩
theorem tt_app {ps : List (List Nat)} {la : Option (List Nat)} {k N k' N' m : Nat} {H : Hp} {p q r : Addr} {vs us : List V} (h : Tt ps la k N H (.ref p)) (ep : H p = some (.tup vs)) (h2 : Tt ps la k' N' H (.ref q)) (eq : H q = some (.tup us)) (er : H r = some (.tup (vs ++ us))) (hk : k ≤ m) (hk' : k' ≤ m) : Tt ps la m (N + N') H (.ref r) := by
  obtain ⟨t, ⟨p1, v1, e1, e2, r1⟩, d1, l1, b1, c1⟩ := h
  obtain ⟨u, ⟨q1, u1, f1, f2, r2⟩, d2, l2, b2, c2⟩ := h2
  have e1 := V.ref.inj e1
  have f1 := V.ref.inj f1
  subst e1 f1
  rw [ep] at e2
  rw [eq] at f2
  have e2 := HO.tup.inj (Option.some.inj e2)
  have f2 := HO.tup.inj (Option.some.inj f2)
  subst e2 f2
  refine ⟨appT t u, ⟨r, _, rfl, er, r1.app r2⟩, by rw [depT_app]; omega, ?_, BT_app b1 b2, ChT_app c1 c2⟩
  rw [toksT_app, List.length_append]; omega
theorem Tt.tup {ps : List (List Nat)} {la : Option (List Nat)} {k N : Nat} {H : Hp} {v : V} (h : Tt ps la k N H v) : ∃ p vs, v = .ref p ∧ H p = some (.tup vs) ∧ vs.length ≤ N := by
  obtain ⟨t, ⟨p, vs, e1, e2, r⟩, _, l, _⟩ := h
  exact ⟨p, vs, e1, e2, Nat.le_trans r.len l⟩
def wordsT : List (List Nat) → Tr
  | [] => .nil
  | z :: zs => .word z (wordsT zs)
theorem words_len : ∀ zs : List (List Nat), lenT (wordsT zs) = zs.length
  | [] => rfl
  | z :: zs => by
    show lenT (wordsT zs) + 1 = _
    rw [words_len zs]; rfl
theorem words_nms : ∀ {zs : List (List Nat)}, (∀ z ∈ zs, mayN z = true) → nms (wordsT zs) = zs
  | [], _ => rfl
  | z :: zs, h => by
    show (if mayN z then z :: nms (wordsT zs) else nms (wordsT zs)) = _
    rw [if_pos (h z List.mem_cons_self), words_nms fun y hy => h y (List.mem_cons_of_mem _ hy)]
theorem words_tok : ∀ zs : List (List Nat), (toksT (wordsT zs)).length = zs.length ∧ depT (wordsT zs) = 0
  | [] => ⟨rfl, rfl⟩
  | z :: zs => by
    have := words_tok zs
    simp only [wordsT, toksT, depT, List.length_cons]
    exact ⟨by omega, this.2⟩
theorem words_bt : ∀ {zs : List (List Nat)}, (∀ z ∈ zs, OkN z) → BT 100 (wordsT zs)
  | [], _ => trivial
  | z :: zs, h => by
    simp only [wordsT, BT]
    exact ⟨h z List.mem_cons_self, words_bt fun y hy => h y (List.mem_cons_of_mem _ hy)⟩
def WdV (H : Hp) (vs : List V) (zs : List (List Nat)) : Prop := vs.length = zs.length ∧ ∀ (i : Nat) (z : List Nat), zs[i]? = some z → ∃ p, vs[i]? = some (.ref p) ∧ H p = some (.tup [kWord, sV z])
theorem words_rep {H : Hp} : ∀ {zs : List (List Nat)} {vs : List V}, WdV H vs zs → RepT H (wordsT zs) vs
  | [], [], _ => by simp only [wordsT, RepT]
  | [], _ :: _, h => by have := h.1; cases this
  | _ :: _, [], h => by have := h.1; cases this
  | z :: zs, v :: vs, h => by
    obtain ⟨p, e1, e2⟩ := h.2 0 z rfl
    have e1 : v = .ref p := Option.some.inj e1
    subst e1
    simp only [wordsT, RepT]
    exact ⟨p, vs, rfl, e2, words_rep ⟨Nat.succ.inj h.1, fun i y hy => h.2 (i + 1) y hy⟩⟩
theorem let_words {zs : List (List Nat)} {m : List Nat} {b : Tr} (h : ∀ z ∈ m :: zs, mayN z = true) (hn : (m :: zs).Nodup) (hl : (m :: zs).length ≤ 4) : letOf (.cons (wordsT (m :: zs)) (.cons b .nil)) = some (m :: zs, b) := by
  have e1 := words_nms h
  have e2 := words_len (m :: zs)
  show (if (1 ≤ lenT (wordsT (m :: zs)) ∧ lenT (wordsT (m :: zs)) ≤ 4) ∧ (nms (wordsT (m :: zs))).length = lenT (wordsT (m :: zs)) ∧ (nms (wordsT (m :: zs))).Nodup then some (nms (wordsT (m :: zs)), b) else none) = _
  rw [e1, e2, if_pos ⟨⟨by rw [List.length_cons]; omega, hl⟩, rfl, hn⟩]
theorem paN_facts {n : Nat} (h : n = 1 ∨ n = 2) : (paN n).length = n ∧ (paN n).Nodup ∧ (∀ p ∈ paN n, OkN p ∧ p ∉ bnN ∧ mayN p = true) ∧ ∀ k, ttl k ∉ paN n := by
  have o1 : OkN [112] := ⟨by show 1 ≤ 100; decide, fun c hc => by rw [List.mem_singleton.mp hc]; decide⟩
  have o2 : OkN [113, 113] := ⟨by show 2 ≤ 100; decide, fun c hc => by
    simp only [List.mem_cons, List.not_mem_nil, or_false] at hc
    rcases hc with rfl | rfl <;> decide⟩
  have b1 : [112] ∉ bnN := by decide +kernel
  have b2 : [113, 113] ∉ bnN := by decide +kernel
  rcases h with rfl | rfl
  · refine ⟨rfl, by decide, fun p hp => ?_, fun k hk => ?_⟩
    · have : p = [112] := List.mem_singleton.mp hp
      rw [this]; exact ⟨o1, b1, may_pa.1⟩
    · have := congrArg List.length (List.mem_singleton.mp hk)
      cases this
  · refine ⟨rfl, by decide, fun p hp => ?_, fun k hk => ?_⟩
    · rcases List.mem_cons.mp hp with z | z
      · rw [z]; exact ⟨o1, b1, may_pa.1⟩
      · have : p = [113, 113] := List.mem_singleton.mp z
        rw [this]; exact ⟨o2, b2, may_pa.2⟩
    · rcases List.mem_cons.mp hk with z | z
      · have := congrArg List.length z
        cases this
      · have := congrArg List.length (List.mem_singleton.mp z)
        cases this
theorem pa_cut {r : Int} (h0 : 0 ≤ r) (h2 : r < 2) : ∃ n : Nat, (n = 1 ∨ n = 2) ∧ cutV [V.str "p", V.str "qq"] none (some (1 + r)) = (paN n).map sV := by
  have : r = 0 ∨ r = 1 := by omega
  rcases this with rfl | rfl
  · exact ⟨1, .inl rfl, by decide +kernel⟩
  · exact ⟨2, .inr rfl, by decide +kernel⟩
theorem Kp.freeY {d l p : Addr} {H H' : Hp} (k : Kp d H H') (D : DI d l H') (n : H' p = none) : H p = none := by
  cases e : H p with
  | none => rfl
  | some o =>
    have h := k p o (D.nd n).1 e
    rw [n] at h; cases h
section
variable {P : Program} {w : World} {K : PySem.W.Frag} {mg : Str → Option Value} {base : Heap}
def spChain : Sp := fun vs H Q _ => ∃ (d l : Addr) (m : Nat), vs = [.ref d, .int (m : Int)] ∧ DI d l H ∧ 1 ≤ m ∧ m ≤ 40 ∧
  ∀ H' p us t, Kp d H H' → DI d l H' → H' p = some (.tup us) → RepT H' t us → us.length ≤ 43 → depT t ≤ 4 → BT 100 t → (toksT t).length ≤ 43 * 300 → (chk t [] = none → GrowT t) → Q (.ref p) H'
theorem ok_chain (T : Txt K mg) : FnOk P w K mg base CX0 23 T.a_law_chain T.d_law_chain ["_law_d", "_law_many"] spChain := by
  have G_law_draw : FnOk P w K mg base CX0 1 T.a_law_draw T.d_law_draw ["_law_d", "_law_many"] spDraw := ok_draw T
  have G_law_pick : FnOk P w K mg base CX0 2 T.a_law_pick T.d_law_pick ["_law_d", "_law_row"] (spPick K) := ok_pick T
  have G_law_word : FnOk P w K mg base CX0 3 T.a_law_word T.d_law_word ["_law_d", "_law_low", "_law_high"] spWord := ok_word T
  have G_law_menu : FnOk P w K mg base CX0 1 T.a_law_menu T.d_law_menu ["_law_params", "_law_word_here"] spMenu := ok_menu T
  have G_law_wrapped : FnOk P w K mg base CX0 3 T.a_law_wrapped T.d_law_wrapped ["_law_d", "_law_tree_here"] spWrap := ok_wrap T
  have G_law_link : FnOk P w K mg base CX0 4 T.a_law_link T.d_law_link ["_law_d", "_law_kind", "_law_last", "_law_params", "_law_word_here"] spLink := ok_link T
  have G_law_title : FnOk P w K mg base CX0 1 T.a_law_title T.d_law_title ["_law_k"] spTitle := ok_title T
  have G_law_form : FnOk P w K mg base CX0 22 T.a_law_form T.d_law_form ["_law_names_here", "_law_body", "_law_forms"] spLForm := ok_law_form T
  refine T.D_law_chain.F.ok (k := 22) sc_law_chain (fun vs H Q E h => ?_) (fun cdv A outer s H vs Q E hr h => ?_)
  · obtain ⟨d, l, m, rfl, _⟩ := h
    rfl
  · obtain ⟨d, l, m, rfl, hD, hm1, hm40, q⟩ := h
    refine ⟨_, (pss_cons (ps_set (i := 2) sc_law_chain.nd rfl (.inl rfl) (pe_slice sl_list (pe_lst (pa_cons pe_str (pa_cons pe_str pa_nil))) po_none (po_some (pe_op op_add pe_int (pe_call G_law_draw (hr.mono (by decide)) (by rfl) T.D_law_draw.G T.D_law_draw.F.kp T.D_law_draw.B .nil pass0 (pa_cons (pv 0) (pa_cons pe_int pa_nil)))))))
      (pss_cons (ps_set (i := 3) sc_law_chain.nd rfl (.inr rfl) (pe_tup (pa_cons pe_str (pa_cons (pe_call G_law_word (hr.mono (by decide)) (by rfl) T.D_law_word.G T.D_law_word.F.kp T.D_law_word.B .nil pass0 (pa_cons (pv 0) (pa_cons pe_int (pa_cons pe_int pa_nil)))) pa_nil))))
      (pss_cons (ps_set (i := 4) sc_law_chain.nd rfl (.inl rfl) (pe_call G_law_menu (hr.mono (by decide)) (by rfl) T.D_law_menu.G T.D_law_menu.F.kp T.D_law_menu.B .nil pass0 (pa_cons (pv 2) (pa_cons (pv 3) pa_nil))))
      (pss_cons (ps_set (i := 5) sc_law_chain.nd rfl (.inl rfl) (pe_call G_law_draw (hr.mono (by decide)) (by rfl) T.D_law_draw.G T.D_law_draw.F.kp T.D_law_draw.B .nil pass0 (pa_cons (pv 0) (pa_cons pe_int pa_nil))))
      (pss_cons (ps_set (i := 6) sc_law_chain.nd rfl (.inl rfl) pe_dnewK)
      (pss_cons (ps_set (i := 7) sc_law_chain.nd rfl (.inl rfl) (pe_lst pa_nil))
      (pss_cons (ps_for PassesOwn.never rfl (pi_range1 (by rfl) T.n_range (pa_cons (pv 1) pa_nil)) (pg_name (i := 8) sc_law_chain.nd rfl (.inl rfl)) (Evl.pss_cut (ps_if (pt_cmpR op_eq (pv 8) pe_int (nomark _)) (pss_one (ps_set (i := 9) sc_law_chain.nd rfl (.inl rfl) (pe_op op_catA (pe_tup (pa_cons (pe_call G_law_wrapped (hr.mono (by decide)) (by rfl) T.D_law_wrapped.G T.D_law_wrapped.F.kp T.D_law_wrapped.B .nil pass0 (pa_cons (pv 0) (pa_cons (pe_call G_law_pick (hr.mono (by decide)) (by rfl) T.D_law_pick.G T.D_law_pick.F.kp T.D_law_pick.B .nil pass0 (pa_cons (pv 0) (pa_cons (pv 4) pa_nil))) pa_nil))) pa_nil)) (pe_call G_law_pick (hr.mono (by decide)) (by rfl) T.D_law_pick.G T.D_law_pick.F.kp T.D_law_pick.B .nil pass0 (pa_cons (pv 0) (pa_cons (pv 4) pa_nil)))))) (pss_cons (ps_set (i := 10) sc_law_chain.nd rfl (.inl rfl) (pe_ifExp (pt_cmpR op_lt (pv 5) pe_int (nomark _)) (pv 5) (pe_call G_law_draw (hr.mono (by decide)) (by rfl) T.D_law_draw.G T.D_law_draw.F.kp T.D_law_draw.B .nil pass0 (pa_cons (pv 0) (pa_cons pe_int pa_nil)))))
      (pss_one (ps_set (i := 9) sc_law_chain.nd rfl (.inl rfl) (pe_call G_law_link (hr.mono (by decide)) (by rfl) T.D_law_link.G T.D_law_link.F.kp T.D_law_link.B .nil pass0 (pa_cons (pv 0) (pa_cons (pv 10) (pa_cons (pe_call G_law_title (hr.mono (by decide)) (by rfl) T.D_law_title.G T.D_law_title.F.kp T.D_law_title.B .nil pass0 (pa_cons (pe_op op_sub (pv 8) pe_int) pa_nil)) (pa_cons (pv 2) (pa_cons (pv 3) pa_nil))))))))))
      (pss_cons (ps_set (i := 11) sc_law_chain.nd rfl (.inl rfl) (pe_op op_cat (pe_lst (pa_cons (pe_call G_law_title (hr.mono (by decide)) (by rfl) T.D_law_title.G T.D_law_title.F.kp T.D_law_title.B .nil pass0 (pa_cons (pv 8) pa_nil)) pa_nil)) (pv 2)))
      (Evl.pss_cut (ps_if (pt_cmpR op_gt (pe_callB (cr_max (by rfl)) (by rfl) T.n_max (by decide +kernel) (pa_cons (pe_call G_law_form (hr.mono (by decide)) (by rfl) T.D_law_form.G T.D_law_form.F.kp T.D_law_form.B .nil pass0 (pa_cons (pv 11) (pa_cons (pv 9) (pa_cons (pv 6) pa_nil)))) pa_nil)) (pe_op op_shl pe_int pe_int) (nomark _)) (pss_one (ps_set (i := 9) sc_law_chain.nd rfl (.inl rfl) (pe_op op_catA (pe_ifExp (pt_cmpR op_lt (pv 8) pe_int (nomark _)) (pe_ix ix_list (pv 4) pe_int (fun _ _ => rfl)) (pe_ix ix_list (pv 4) pe_int (fun _ _ => rfl))) (pe_tup (pa_cons (pe_call G_law_wrapped (hr.mono (by decide)) (by rfl) T.D_law_wrapped.G T.D_law_wrapped.F.kp T.D_law_wrapped.B .nil pass0 (pa_cons (pv 0) (pa_cons (pe_ix ix_list (pv 4) pe_int (fun _ _ => rfl)) pa_nil))) pa_nil))))) pss_nil)
      (pss_cons (ps_dput (hu1 hr) (pv 6) (pe_ix ix_list (pv 11) pe_int (fun _ _ => rfl)) (pe_call G_law_form (hr.mono (by decide)) (by rfl) T.D_law_form.G T.D_law_form.F.kp T.D_law_form.B .nil pass0 (pa_cons (pv 11) (pa_cons (pv 9) (pa_cons (pv 6) pa_nil)))) rfl)
      (pss_one (ps_expr (pe_bm PySem.F.plainAttrs_list PySem.F.slot_list_append PySem.F.type_list_append mt_append (pv 7) (pa_cons (pe_tup (pa_cons pe_str (pa_cons pe_str (pa_cons (pe_tup (pa_cons (pe_callTy call_tuple_of (by rfl) T.n_tuple (by decide +kernel) (pa_cons (pe_lc (own := [("_law_one", 12)]) (g := gName 12) (tt := tYes) rfl sc_law_chain.nd (pi_list (pv 11)) (blkOk_by (own := [("_law_one", 12)]) (N := ["_law_d", "_law_many", "_law_params", "_law_word_here", "_law_menu_here", "_law_fixed", "_law_forms", "_law_tree_here", "_law_k", "_law_body", "_law_kind", "_law_names_here", "_law_one", "_law_parts", "_law_name"]) (sc := defScope s_law_chain) (by decide +kernel)) (fun _ _ _ _ _ => (pg_name (i := 12) sc_law_chain.nd rfl (.inl rfl))) (fun _ _ _ _ _ => pts_nil) (fun _ _ _ _ _ => (pe_tup (pa_cons pe_str (pa_cons (pv 12) pa_nil))))) pa_nil)) (pa_cons (pv 9) pa_nil))) pa_nil)))) pa_nil)))))))))
      (pss_cons (ps_for PassesOwn.never rfl (pi_range1 (by rfl) T.n_range (pa_cons (pe_op op_add pe_int (pe_call G_law_draw (hr.mono (by decide)) (by rfl) T.D_law_draw.G T.D_law_draw.F.kp T.D_law_draw.B .nil pass0 (pa_cons (pv 0) (pa_cons pe_int pa_nil)))) pa_nil)) (pg_name (i := 8) sc_law_chain.nd rfl (.inl rfl)) (pss_cons (ps_set (i := 12) sc_law_chain.nd rfl (.inl rfl) (pe_callB (call_max2 (by rfl)) (by rfl) T.n_max (by decide +kernel) (pa_cons pe_int (pa_cons (pe_op op_sub (pe_op op_sub (pv 1) pe_int) (pe_call G_law_draw (hr.mono (by decide)) (by rfl) T.D_law_draw.G T.D_law_draw.F.kp T.D_law_draw.B .nil pass0 (pa_cons (pv 0) (pa_cons pe_int pa_nil)))) pa_nil))))
      (pss_cons (ps_setLc (i := 13) (own := [("_law_name", 14)]) (g := gName 14) (tt := tYes) rfl sc_law_chain.nd rfl rfl (sw_true rfl rfl rfl (by decide +kernel)) (pi_list (pv 2)) (blkOk_by (own := [("_law_name", 14)]) (N := ["_law_d", "_law_many", "_law_params", "_law_word_here", "_law_menu_here", "_law_fixed", "_law_forms", "_law_tree_here", "_law_k", "_law_body", "_law_kind", "_law_names_here", "_law_one", "_law_parts", "_law_name"]) (sc := defScope s_law_chain) (by decide +kernel)) (fun _ _ _ _ _ => (pg_name (i := 14) sc_law_chain.nd rfl (.inl rfl))) (fun _ _ _ _ _ => pts_nil) (fun _ _ _ _ _ => (pe_call G_law_pick (hr.mono (by decide)) (by rfl) T.D_law_pick.G T.D_law_pick.F.kp T.D_law_pick.B .nil pass0 (pa_cons (pv 0) (pa_cons (pe_lst (pa_cons (pe_tup (pa_cons (pv 3) pa_nil)) (pa_cons (pe_tup pa_nil) (pa_cons (pe_tup (pa_cons (pv 3) (pa_cons (pv 3) pa_nil))) (pa_cons (pe_tup (pa_cons (pe_tup (pa_cons pe_str (pa_cons pe_str (pa_cons (pe_tup (pa_cons (pe_tup (pa_cons (pv 3) pa_nil)) pa_nil)) pa_nil)))) pa_nil)) pa_nil))))) pa_nil)))))
      (pss_one (ps_expr (pe_bm PySem.F.plainAttrs_list PySem.F.slot_list_append PySem.F.type_list_append mt_append (pv 7) (pa_cons (pe_tup (pa_cons pe_str (pa_cons (pe_call G_law_title (hr.mono (by decide)) (by rfl) T.D_law_title.G T.D_law_title.F.kp T.D_law_title.B .nil pass0 (pa_cons (pv 12) pa_nil)) (pa_cons (pe_callTy call_tuple_of (by rfl) T.n_tuple (by decide +kernel) (pa_cons (pv 13) pa_nil)) pa_nil)))) pa_nil)))))))
      (pss_one (ps_ret (pe_callTy call_tuple_of (by rfl) T.n_tuple (by decide +kernel) (pa_cons (pv 7) pa_nil)))))))))))), ?_⟩
    refine ⟨by show 2 ≤ sizeLine; decide, fun p0 n0 => ?_⟩
    have D0 := hD.new (o := .lst [V.str "p", V.str "qq"]) n0
    have d0 := (hD.nd n0).1
    refine ⟨_, rfl, d, l, _, rfl, D0, by decide, fun H1 r K1 D1 _ r2 => ?_⟩
    have r2 := r2 (by decide)
    refine ⟨_, _, rfl, rfl, _, rfl, p0, _, rfl, SqL.of (K1 _ _ d0 upd_same), fun pl npl => ?_⟩
    obtain ⟨n, hn12, ecut⟩ := pa_cut r2.1 r2.2
    rw [ecut]
    obtain ⟨pf1, pf2, pf3, pf4⟩ := paN_facts hn12
    generalize paN n = ps at pf1 pf2 pf3 pf4 ⊢
    have K01 := ((Kp.refl d H).new n0).trans K1
    have D2 := D1.new (o := .lst (ps.map sV)) npl
    have pld := (D1.nd npl).1
    have epl : upd H1 pl (.lst (ps.map sV)) pl = some (.lst (ps.map sV)) := upd_same
    have K02 := K01.new (o := .lst (ps.map sV)) npl
    generalize upd H1 pl (.lst (ps.map sV)) = H2 at D2 epl K02 ⊢
    refine ⟨_, rfl, d, l, 1, 3, rfl, D2, by decide, by decide, by decide, fun H3 zs K3 D3 z1 z3 zc => ⟨by show 2 ≤ sizeLine; decide, fun wv nwv => ?_⟩⟩
    have zok : OkN zs := ⟨by omega, low_W zc⟩
    have ew : upd H3 wv (.tup [V.str "word", sV zs]) wv = some (.tup [V.str "word", sV zs]) := upd_same
    have D4 := D3.new (o := .tup [V.str "word", sV zs]) nwv
    have K04 := (K02.trans K3).new (o := .tup [V.str "word", sV zs]) nwv
    have epl4 : upd H3 wv (.tup [V.str "word", sV zs]) pl = some (.lst (ps.map sV)) := by
      have := K3 _ _ pld epl
      rw [upd_ne (fun z => by rw [z, nwv] at this; cases this)]; exact this
    generalize upd H3 wv (.tup [V.str "word", sV zs]) = H4 at ew D4 K04 epl4 ⊢
    have hw4 : Nn ps none 0 1 H4 (.ref wv) := nn_word ew zok
    have lp : 1 ≤ ps.length ∧ ps.length ≤ 2 := by rcases hn12 with z | z <;> omega
    refine ⟨_, rfl, _, rfl, pl, ps, .ref wv, rfl, epl4, lp.1, lp.2, fun p hp => (pf3 p hp).1, hw4, fun H5 mr mvs k5 nmr emr l7 hm => ?_⟩
    have D5 := D4.keep k5
    have mrd := (D4.nd nmr).1
    have K05 : Kp d H H5 := K04.trans fun b o _ e => k5 b o e
    refine ⟨_, rfl, d, l, _, rfl, D5, by decide, fun H6 fx K6 D6 _ f2 => ?_⟩
    have f2 := f2 (by decide)
    intro F nF
    have FD := D6.nd nF
    have D7 := D6.new (o := .dK []) nF
    refine ⟨by show 0 ≤ sizeLine; decide, fun L nL => ?_⟩
    have LD := D7.nd nL
    have D8 := D7.new (o := .lst []) nL
    have K58 := (K6.new (o := .dK []) nF).new (o := .lst []) nL
    have hLF : L ≠ F := fun z => by rw [z, upd_same] at nL; cases nL
    have eF8 : upd (upd H6 F (.dK [])) L (.lst []) F = some (.dK []) := by rw [upd_ne hLF.symm]; exact upd_same
    have eL8 : upd (upd H6 F (.dK [])) L (.lst []) L = some (.lst []) := upd_same
    have nF5 := K6.freeY D6 nF
    have nL5 := (K6.new (o := .dK []) nF).freeY D7 nL
    generalize upd (upd H6 F (.dK [])) L (.lst []) = H8 at D8 K58 eF8 eL8 ⊢
    refine ⟨_, rfl, _, rfl, by omega, by omega, ?_⟩
    have en : ((m : Int)).toNat = m := by omega
    rw [en]
    refine for_it walk_range (fun k σ' H' => ∃ (ms : List Mc) (fm : Fm) (vs : List V) (x8 x9 x10 x11 : Option V), σ' = [some (.ref d), some (.int (m : Int)), some (.ref pl), some (.ref wv), some (.ref mr), some (.int fx), some (.ref F), some (.ref L), x8, x9, x10, x11, none, none, none] ∧ Kp d H5 H' ∧ DI d l H' ∧ ChI ps ms fm 2901 ∧ FmD H' F fm ∧ H' L = some (.lst vs) ∧ ms.length = k ∧ vs.length = k ∧ (∀ kv, H' F = some (.dK kv) → kv.length ≤ k) ∧ ∀ (i : Nat) (x : Mc), ms[i]? = some x → ∃ v, vs[i]? = some v ∧ Lt x H' v)
      ⟨[], [], [], none, none, none, none, rfl, K58, D8, ch_start ps, ⟨[], eF8, fun n => trivial⟩, eL8, rfl, rfl, (fun kv e => by rw [eF8] at e; have e := HO.dK.inj (Option.some.inj e); rw [← e]; exact Nat.le_refl _), fun i x h => by simp at h⟩ (fun _ _ _ _ _ => trivial) ?_ ?_
    · rintro k x σ' H9 H10 hk ⟨ms, fm, vs, x8, x9, x10, x11, rfl, K9, D9, ci, hF, eL, lms, lvs, lkF, hvs⟩ ⟨rfl, hx⟩
      have hx : x = .int (k : Int) := by rw [hx]; show V.int (0 + (k : Int)) = _; rw [Int.zero_add]
      subst hx
      have emr10 := K9 _ _ mrd emr
      have epl10 := K9 _ _ pld (k5 _ _ epl4)
      have hm10 : ∀ v ∈ mvs, Tt ps none 0 2 H10 v := fun v hv => (hm v hv).keep (TKeep.kp K9 D5)
      have hpb : ∀ p ∈ ps, p ∉ bnN := fun p hp => (pf3 p hp).2.1
      have hw10 := (hw4.keep (TKeep.same k5)).keep (TKeep.kp K9 D5)
      refine ⟨fun σ' H' => ∃ (bv : V) (x10' : Option V) (la : Option (List Nat)), σ' = [some (.ref d), some (.int (m : Int)), some (.ref pl), some (.ref wv), some (.ref mr), some (.int fx), some (.ref F), some (.ref L), some (.int (k : Int)), some bv, x10', x11, none, none, none] ∧ Kp d H10 H' ∧ DI d l H' ∧ Tt ps la 3 200 H' bv, ?_, ?_⟩
      · by_cases c0 : k = 0
        · refine ⟨_, rfl, rfl, true, bT (by rw [c0]; rfl), ?_⟩
          refine ⟨_, rfl, _, rfl, _, rfl, d, l, .ref mr, mvs, rfl, D9, .inl ⟨mr, rfl, mrd, SqL.of emr10⟩, by omega, by omega, fun H11 v K11 D11 hv => ?_⟩
          have hv11 := (hm10 v hv).keep (TKeep.kp K11 D9)
          refine ⟨d, l, v, ps, none, 0, 2, rfl, D11, hv11, by decide, hpb, fun H12 r K12 D12 hr12 => ?_⟩
          refine ⟨by show 1 ≤ sizeLine; decide, fun t nt => ?_⟩
          have D13 := D12.new (o := .tup [r]) nt
          have td := (D12.nd nt).1
          have ht : Tt ps none 1 9 (upd H12 t (.tup [r])) (.ref t) := tt_of upd_same (fun u hu => by rw [List.mem_singleton.mp hu]; exact hr12.keep (TKeep.new nt)) (show 1 * 9 ≤ 9 by decide)
          have et : upd H12 t (.tup [r]) t = some (.tup [r]) := upd_same
          have K13 := (K11.trans K12).new (o := .tup [r]) nt
          generalize upd H12 t (.tup [r]) = H13 at D13 ht et K13 ⊢
          refine ⟨_, rfl, _, rfl, d, l, .ref mr, mvs, rfl, D13, .inl ⟨mr, rfl, mrd, SqL.of (K13 _ _ mrd emr10)⟩, by omega, by omega, fun H14 u K14 D14 hu => ?_⟩
          have hu14 := (hm10 u hu).keep (TKeep.kp (K13.trans K14) D9)
          obtain ⟨up, us, rfl, eu, lu⟩ := hu14.tup
          have et14 := K14 _ _ td et
          have ht14 := ht.keep (TKeep.kp K14 D13)
          refine ⟨t, up, [r], us, rfl, rfl, SqT.of et14, SqT.of eu, Nat.le_of_lt (lt_size (by show 1 + _ < _; omega)), (fun h => by cases h), (fun _ _ => ?_), (fun _ _ p np => ?_)⟩
          · exact ⟨.ref t, x10, none, rfl, K13.trans K14, D14, ht14.mono (by decide) (by decide)⟩
          · have sp := TKeep.new (o := .tup ([r] ++ us)) np
            exact ⟨.ref p, x10, none, rfl, (K13.trans K14).new np, D14.new np, (tt_app (m := 1) (ht14.keep sp) (sp _ _ et14) (hu14.keep sp) (sp _ _ eu) upd_same (by decide) (by decide)).mono (by decide) (by decide)⟩
        · refine ⟨_, rfl, rfl, false, bF (fun z => c0 (by have := V.int.inj z; omega)), ?_⟩
          have ek : (k : Int) - 1 = ((k - 1 : Nat) : Int) := by omega
          refine ⟨_, rfl, _, _, rfl, rfl, _, rfl, ite2 (fun _ => ?_) (fun _ => ?_)⟩
          · refine ⟨_, rfl, ?_⟩
            refine ⟨_, rfl, _, rfl, _, rfl, _, _, rfl, rfl, k - 1, by rw [← ek]; rfl, by omega, _, rfl, _, rfl, d, l, pl, fx, ttl (k - 1), ps, .ref wv, rfl, D9, pld, epl10, lp.1, lp.2, fun p hp => ⟨(pf3 p hp).1, (pf3 p hp).2.1⟩, ttl_ok _ (by omega), pf4 _, hw10, fun H12 r K12 D12 hr12 => ?_⟩
            exact ⟨r, _, some (ttl (k - 1)), rfl, K12, D12, hr12⟩
          · refine ⟨_, rfl, d, l, _, rfl, D9, by decide, fun H11 fx2 K11 D11 _ _ => ?_⟩
            refine ⟨_, rfl, _, rfl, _, rfl, _, _, rfl, rfl, k - 1, by rw [← ek]; rfl, by omega, _, rfl, _, rfl, d, l, pl, fx2, ttl (k - 1), ps, .ref wv, rfl, D11, pld, K11 _ _ pld epl10, lp.1, lp.2, fun p hp => ⟨(pf3 p hp).1, (pf3 p hp).2.1⟩, ttl_ok _ (by omega), pf4 _, hw10.keep (TKeep.kp K11 D9), fun H12 r K12 D12 hr12 => ?_⟩
            exact ⟨r, _, some (ttl (k - 1)), rfl, K11.trans K12, D12, hr12⟩
      · rintro σ' H11 ⟨bv, x10', la, rfl, K11, D11, hb11⟩
        obtain ⟨bt, ⟨bp, ws, rfl, ebp, hbT⟩, hbd, hbl, hbB, hbc⟩ := hb11
        refine ⟨_, rfl, k, rfl, by omega, by show 1 ≤ sizeLine; decide, fun p1 np1 => ?_⟩
        have s1 := same_upd (o := .lst [sV (ttl k)]) (Same.refl H11) np1
        refine ⟨_, rfl, p1, pl, _, _, rfl, rfl, upd_same, s1 _ _ (K11 _ _ pld epl10), ?_, fun Nm nNm => ?_⟩
        · rw [List.length_map]; exact Nat.le_of_lt (lt_size (by show 1 + _ < _; omega))
        have s2 := same_upd (o := .lst ([sV (ttl k)] ++ ps.map sV)) (Same.refl _) nNm
        have s12 := s1.trans s2
        have eNm : upd (upd H11 p1 (.lst [sV (ttl k)])) Nm (.lst ([sV (ttl k)] ++ ps.map sV)) Nm = some (.lst ((ttl k :: ps).map sV)) := by rw [upd_same]; rfl
        have D12 := (D11.new (o := .lst [sV (ttl k)]) np1).new (o := .lst ([sV (ttl k)] ++ ps.map sV)) nNm
        have Nmd := ((D11.new (o := .lst [sV (ttl k)]) np1).nd nNm).1
        generalize upd (upd H11 p1 (.lst [sV (ttl k)])) Nm (.lst ([sV (ttl k)] ++ ps.map sV)) = H12 at s12 eNm D12 ⊢
        have K12 : Kp d H10 H12 := K11.trans fun b o _ e => s12 b o e
        have hF12 := hF.kp D9 FD.1 K12
        have wbt : wT bt ≤ 200 := Nat.le_trans (wT_toks bt) hbl
        have hbT12 := RepT.keep (TKeep.same s12) hbT
        have emr12 := K12 _ _ mrd emr10
        refine ⟨fun σ' H' => ∃ (bp' : Addr) (ws' : List V) (t' : Tr) (la' : Option (List Nat)), σ' = [some (.ref d), some (.int (m : Int)), some (.ref pl), some (.ref wv), some (.ref mr), some (.int fx), some (.ref F), some (.ref L), some (.int (k : Int)), some (.ref bp'), x10', some (.ref Nm), none, none, none] ∧ Kp d H12 H' ∧ DI d l H' ∧ H' bp' = some (.tup ws') ∧ RepT H' t' ws' ∧ depT t' ≤ 3 ∧ (toksT t').length ≤ 200 ∧ BT 100 t' ∧ ChT ps la' t' ∧ LeS (pszT ps (szM ms []) ((0, 0) :: noneS ps) t') (2 ^ 2901), ?_, ?_⟩
        · refine ⟨_, rfl, _, rfl, _, rfl, Nm, bp, F, ttl k, ps, ws, bt, fm, 2 ^ 2901, 2901, rfl, eNm, s12 _ _ ebp, hbT12, by omega, hF12, by omega, fun f => ci.lw hbc f, Nat.one_le_two_pow, ci.fbd, Nat.le_refl _, by omega, by omega, fun H13 R k13 nR eR => ?_⟩
          have D13 := D12.keep k13
          have K13 : Kp d H12 H13 := fun b o _ e => k13 b o e
          refine ⟨R, formL ps bt fm, rfl, SqL.of eR, by rw [formL_len]; omega, fun mx hmx hle => ?_⟩
          refine ⟨_, _, rfl, rfl, ⟨by decide, by decide, by decide⟩, _, _, rfl, rfl, _, rfl, ite2 (fun _ => ?_) (fun hgt => ?_)⟩
          · have emr13 := K13 _ _ mrd emr12
            have hm13 : ∀ v ∈ mvs, Tt ps none 0 2 H13 v := fun v hv => (hm10 v hv).keep (TKeep.kp (K12.trans K13) D9)
            have g5 : mvs[5]? = some (mvs[5]'(by omega)) := List.getElem?_eq_getElem (by omega)
            have alt : ∀ (H14 : Hp) (v : V), v ∈ mvs → H14 = H13 → ∃ (mp : Addr) (us : List V), v = .ref mp ∧ H14 mp = some (.tup us) ∧ us.length ≤ 2 ∧ mp ≠ d := fun H14 v hv e => by
              subst e
              obtain ⟨mp, us, rfl, e1, e2⟩ := (hm13 v hv).tup
              exact ⟨mp, us, rfl, e1, e2, D13.neTT e1⟩
            have key : ∀ (i3 : Nat) (h3 : i3 < mvs.length), ∃ (mp : Addr) (us : List V), mvs[i3]? = some (.ref mp) ∧ H13 mp = some (.tup us) ∧ us.length ≤ 2 ∧ mp ≠ d ∧ Tt ps none 0 2 H13 (.ref mp) := fun i3 h3 => by
              obtain ⟨mp, us, e1, e2, e3, e4⟩ := alt H13 mvs[i3] (List.getElem_mem _) rfl
              exact ⟨mp, us, by rw [List.getElem?_eq_getElem h3, e1], e2, e3, e4, by rw [← e1]; exact hm13 _ (List.getElem_mem _)⟩
            obtain ⟨mp3, us3, q31, q32, q33, q34, q35⟩ := key 3 (by omega)
            obtain ⟨mp2, us2, q21, q22, q23, q24, q25⟩ := key 2 (by omega)
            refine ⟨_, rfl, _, _, rfl, rfl, _, rfl, ite2 (fun _ => ?_) (fun _ => ?_)⟩
            · refine ⟨_, rfl, mr, mvs, 3, .ref mp3, rfl, rfl, SqL.of emr13, atI_nat (j := 3) q31, ?_⟩
              refine ⟨_, rfl, _, rfl, mr, mvs, 5, _, rfl, rfl, SqL.of emr13, atI_nat (j := 5) g5, d, l, _, ps, none, 0, 2, rfl, D13, hm13 _ (List.getElem_mem _), by decide, hpb, fun H14 r K14 D14 hr14 => ?_⟩
              refine ⟨by show 1 ≤ sizeLine; decide, fun t nt => ?_⟩
              have D15 := D14.new (o := .tup [r]) nt
              have K15 := K14.new (o := .tup [r]) nt
              have ht : Tt ps none 1 9 (upd H14 t (.tup [r])) (.ref t) := tt_of upd_same (fun u hu => by rw [List.mem_singleton.mp hu]; exact hr14.keep (TKeep.new nt)) (show 1 * 9 ≤ 9 by decide)
              have et : upd H14 t (.tup [r]) t = some (.tup [r]) := upd_same
              generalize upd H14 t (.tup [r]) = H15 at D15 K15 ht et ⊢
              have em15 := K15 _ _ q34 q32
              have hm15 := q35.keep (TKeep.kp K15 D13)
              refine ⟨mp3, t, us3, [r], rfl, rfl, SqT.of em15, SqT.of et, Nat.le_of_lt (lt_size (by show _ + 1 < _; omega)), (fun _ => ?_), (fun _ h => by cases h), (fun _ _ p np => ?_)⟩
              · obtain ⟨bt9, ⟨bp9, ws9, e9, eb9, hb9⟩, hd9, hl9, hB9, hc9⟩ := ht
                have e9 := V.ref.inj e9
                subst e9
                have wl9 := wT_toks bt9
                exact ⟨t, ws9, bt9, none, rfl, K13.trans K15, D15, eb9, hb9, by omega, by omega, hB9, hc9, ci.le_free pf2 hc9 (by omega)⟩
              · have sp := TKeep.new (o := .tup (us3 ++ [r])) np
                obtain ⟨bt9, ⟨bp9, ws9, e9, eb9, hb9⟩, hd9, hl9, hB9, hc9⟩ := tt_app (m := 1) (hm15.keep sp) (sp _ _ em15) (ht.keep sp) (sp _ _ et) (upd_same (H := H15) (a := p) (o := .tup (us3 ++ [r]))) (by decide) (by decide)
                have e9 := V.ref.inj e9
                subst e9
                have wl9 := wT_toks bt9
                exact ⟨p, ws9, bt9, none, rfl, (K13.trans K15).new np, D15.new np, eb9, hb9, by omega, by omega, hB9, hc9, ci.le_free pf2 hc9 (by omega)⟩
            · refine ⟨_, rfl, mr, mvs, 2, .ref mp2, rfl, rfl, SqL.of emr13, atI_nat (j := 2) q21, ?_⟩
              refine ⟨_, rfl, _, rfl, mr, mvs, 5, _, rfl, rfl, SqL.of emr13, atI_nat (j := 5) g5, d, l, _, ps, none, 0, 2, rfl, D13, hm13 _ (List.getElem_mem _), by decide, hpb, fun H14 r K14 D14 hr14 => ?_⟩
              refine ⟨by show 1 ≤ sizeLine; decide, fun t nt => ?_⟩
              have D15 := D14.new (o := .tup [r]) nt
              have K15 := K14.new (o := .tup [r]) nt
              have ht : Tt ps none 1 9 (upd H14 t (.tup [r])) (.ref t) := tt_of upd_same (fun u hu => by rw [List.mem_singleton.mp hu]; exact hr14.keep (TKeep.new nt)) (show 1 * 9 ≤ 9 by decide)
              have et : upd H14 t (.tup [r]) t = some (.tup [r]) := upd_same
              generalize upd H14 t (.tup [r]) = H15 at D15 K15 ht et ⊢
              have em15 := K15 _ _ q24 q22
              have hm15 := q25.keep (TKeep.kp K15 D13)
              refine ⟨mp2, t, us2, [r], rfl, rfl, SqT.of em15, SqT.of et, Nat.le_of_lt (lt_size (by show _ + 1 < _; omega)), (fun _ => ?_), (fun _ h => by cases h), (fun _ _ p np => ?_)⟩
              · obtain ⟨bt9, ⟨bp9, ws9, e9, eb9, hb9⟩, hd9, hl9, hB9, hc9⟩ := ht
                have e9 := V.ref.inj e9
                subst e9
                have wl9 := wT_toks bt9
                exact ⟨t, ws9, bt9, none, rfl, K13.trans K15, D15, eb9, hb9, by omega, by omega, hB9, hc9, ci.le_free pf2 hc9 (by omega)⟩
              · have sp := TKeep.new (o := .tup (us2 ++ [r])) np
                obtain ⟨bt9, ⟨bp9, ws9, e9, eb9, hb9⟩, hd9, hl9, hB9, hc9⟩ := tt_app (m := 1) (hm15.keep sp) (sp _ _ em15) (ht.keep sp) (sp _ _ et) (upd_same (H := H15) (a := p) (o := .tup (us2 ++ [r]))) (by decide) (by decide)
                have e9 := V.ref.inj e9
                subst e9
                have wl9 := wT_toks bt9
                exact ⟨p, ws9, bt9, none, rfl, (K13.trans K15).new np, D15.new np, eb9, hb9, by omega, by omega, hB9, hc9, ci.le_free pf2 hc9 (by omega)⟩
          · refine ⟨bp, ws, bt, la, rfl, K13, D13, k13 _ _ (s12 _ _ ebp), RepT.keep (TKeep.same k13) hbT12, hbd, hbl, hbB, hbc, ci.le_form pf2 hbc hle ?_⟩
            have hgt : ¬ ((1 : Int) * 2 ^ (2900 : Int).toNat < mx) := fun z => hgt (decide_eq_true z)
            have e2900 : ((1 : Int) * 2 ^ (2900 : Int).toNat) = ((2 ^ 2900 : Nat) : Int) := by
              rw [Int.one_mul]
              show (2 : Int) ^ 2900 = _
              rw [Int.natCast_pow]; rfl
            rw [e2900] at hgt
            have hle2 : (2 : Nat) ^ 2900 ≤ 2 ^ 2901 := Nat.pow_le_pow_right (by decide) (by decide)
            omega
        · rintro σ' H13 ⟨bp', ws', t', la', rfl, K13, D13, ebp', hbT', hd', hl', hB', hc', hle'⟩
          have eNm13 := K13 _ _ Nmd eNm
          have hF13 := hF12.kp D12 FD.1 K13
          have hp13 : Kp d H10 H13 := K12.trans K13
          have wbt' : wT t' ≤ 200 := Nat.le_trans (wT_toks t') hl'
          refine ⟨_, rfl, _, rfl, _, rfl, Nm, bp', F, ttl k, ps, ws', t', fm, 2 ^ 2901, 2901, rfl, eNm13, ebp', hbT', by omega, hF13, by omega, fun f => ci.lw hc' f, Nat.one_le_two_pow, ci.fbd, Nat.le_refl _, by omega, by omega, fun H14 R k14 nR eR => ?_⟩
          have D14 := D13.keep k14
          have K14 : Kp d H10 H14 := hp13.trans fun b o _ e => k14 b o e
          obtain ⟨kvf, eF14, hL14⟩ := hF13.same k14
          have eNm14 := k14 _ _ eNm13
          have lkv : kvf.length ≤ k := by
            obtain ⟨kv0, e0, _⟩ := hF
            have e9 := K14 _ _ FD.1 e0
            rw [eF14] at e9
            have e9 := HO.dK.inj (Option.some.inj e9)
            rw [e9]; exact lkF _ e0
          refine ⟨_, rfl, _, rfl, Nm, _, 0, _, rfl, rfl, SqL.of eNm14, atI_nat (j := 0) rfl, F, _, rfl, DPut.k (k := Sum.inr (mkS (ttl k))) eF14 (lt_size (by omega)), ?_⟩
          have eL14 := K14 _ _ LD.1 eL
          have hRF : R ≠ F := fun z => by rw [z, eF14] at eR; cases eR
          have NmF : Nm ≠ F := fun z => by rw [z, eF14] at eNm14; cases eNm14
          have D15 := D14.at (o := .dK (putK kvf (Sum.inr (mkS (ttl k))) (V.ref R))) FD.1 FD.2
          have K15 := (K9.trans K14).mut (o := .dK (putK kvf (Sum.inr (mkS (ttl k))) (V.ref R))) nF5
          have tk15 : TKeep H14 (upd H14 F (.dK (putK kvf (Sum.inr (mkS (ttl k))) (V.ref R)))) := fun b xs hb => by rw [upd_ne (fun z => by rw [z, eF14] at hb; cases hb)]; exact hb
          have eL15 : upd H14 F (.dK (putK kvf (Sum.inr (mkS (ttl k))) (V.ref R))) L = some (.lst vs) := by rw [upd_ne hLF]; exact eL14
          have eNm15 : upd H14 F (.dK (putK kvf (Sum.inr (mkS (ttl k))) (V.ref R))) Nm = some (.lst ((ttl k :: ps).map sV)) := by rw [upd_ne NmF]; exact eNm14
          have hF15 : FmD (upd H14 F (.dK (putK kvf (Sum.inr (mkS (ttl k))) (V.ref R)))) F (fm ++ [(ttl k, formL ps t' fm)]) := by
            have hm9 : (knM ms).lookup (ttl k) = none := by rw [← lms]; exact ch_none ci.nm
            have hfr : fm.lookup (ttl k) = none := by
              have h := ci.kf.fm (ttl k)
              rw [hm9] at h
              cases e : fm.lookup (ttl k) with
              | none => rfl
              | some y => rw [e] at h; cases h
            have n1 : ∀ xs, H14 F ≠ some (.lst xs) := fun xs z => by rw [eF14] at z; cases z
            refine ⟨_, upd_same, fun n9 => ?_⟩
            rw [valV_put, look_app]
            have h9 := hL14 n9
            cases e1 : fm.lookup n9 with
            | some f9 =>
              have hne : n9 ≠ ttl k := fun z => by rw [z, hfr] at e1; cases e1
              rw [if_neg (fun z => hne (mkS_inj (Sum.inr.inj z)))]
              rw [e1] at h9
              exact LKf.upd n1 h9
            | none =>
              rw [e1] at h9
              show LKf _ _ (if n9 = ttl k then some (formL ps t' fm) else none)
              by_cases hne : n9 = ttl k
              · rw [if_pos hne, if_pos (by rw [hne])]
                exact ⟨R, rfl, by rw [upd_ne hRF]; exact eR⟩
              · rw [if_neg hne, if_neg (fun z => hne (mkS_inj (Sum.inr.inj z)))]
                exact LKf.upd n1 h9
          have eF15 : upd H14 F (.dK (putK kvf (Sum.inr (mkS (ttl k))) (V.ref R))) F = some (.dK (putK kvf (Sum.inr (mkS (ttl k))) (V.ref R))) := upd_same
          have tk1015 : TKeep H10 (upd H14 F (.dK (putK kvf (Sum.inr (mkS (ttl k))) (V.ref R)))) := (TKeep.kp K14 D9).trans tk15
          have eb15 := tk15 _ _ (k14 _ _ ebp')
          have hb15 := (RepT.keep (TKeep.same k14) hbT').keep tk15
          generalize upd H14 F (.dK (putK kvf (Sum.inr (mkS (ttl k))) (V.ref R))) = H15 at D15 K15 eL15 eNm15 hF15 eF15 tk1015 eb15 hb15 ⊢
          refine ⟨.ref L, rfl, .inl ⟨rfl, _, .inl (.inl eL15)⟩, _, rfl, Nm, rfl, ⟨_, SqL.of eNm15⟩, fun W nW => ?_⟩
          refine lc_it (walk_list (K := K) (a := Nm) (xs := (ttl k :: ps).map sV)) (fun i H' => Same H15 H' ∧ ∃ wsv, H' W = some (.lst wsv) ∧ WdV H' wsv ((ttl k :: ps).take i)) ⟨same_upd (Same.refl H15) nW, [], upd_same, rfl, fun i z h => by simp at h⟩ ?_ ?_ ?_
          · rintro i H' _ ⟨k9, _⟩
            exact SqL.of (k9 _ _ eNm15)
          · rintro i x H16 H17 hi ⟨k16, wsv, eW, hwv⟩ ⟨rfl, hx⟩
            rw [List.getElem?_map] at hx
            obtain ⟨pm, hpm, rfl⟩ : ∃ pm, (ttl k :: ps)[i]? = some pm ∧ sV pm = x := by
              cases h : (ttl k :: ps)[i]? with
              | none => rw [h] at hx; cases hx
              | some z => rw [h] at hx; exact ⟨z, rfl, Option.some.inj hx⟩
            refine ⟨rfl, _, rfl, by show 2 ≤ sizeLine; decide, fun c nc => ?_⟩
            have sc := same_upd (o := .tup [V.str "word", sV pm]) (Same.refl H17) nc
            have ec : upd H17 c (.tup [V.str "word", sV pm]) c = some (.tup [V.str "word", sV pm]) := upd_same
            generalize upd H17 c (.tup [V.str "word", sV pm]) = H18 at sc ec ⊢
            have eW18 := sc _ _ eW
            have tm := TKeep.mut (o := .lst (wsv ++ [V.ref c])) eW18
            have lw : wsv.length = i := by
              rw [hwv.1, List.length_take]
              have := (List.getElem?_eq_some_iff.mp hpm).1
              omega
            have li : i < 10 := by
              have := (List.getElem?_eq_some_iff.mp hpm).1
              rw [List.length_cons] at this
              omega
            refine ⟨wsv, eW18, lt_size (by omega), same_mut (k16.trans sc) nW, _, upd_same, ?_, fun j z hz => ?_⟩
            · rw [take_succ' hpm, List.length_append, List.length_append, hwv.1]; rfl
            · rw [take_succ' hpm] at hz
              by_cases hj : j < ((ttl k :: ps).take i).length
              · rw [List.getElem?_append_left hj] at hz
                obtain ⟨p9, g1, g2⟩ := hwv.2 j z hz
                exact ⟨p9, by rw [List.getElem?_append_left (by rw [hwv.1]; exact hj)]; exact g1, tm _ _ (sc _ _ g2)⟩
              · rw [List.getElem?_append_right (by omega)] at hz
                have e0 : j - ((ttl k :: ps).take i).length = 0 := by
                  have := (List.getElem?_eq_some_iff.mp hz).1
                  simp only [List.length_singleton] at this
                  omega
                rw [e0] at hz
                have hz := Option.some.inj hz
                subst hz
                exact ⟨c, by rw [List.getElem?_append_right (by rw [hwv.1]; omega), hwv.1, e0]; rfl, tm _ _ ec⟩
          rintro H16 ⟨k16, wsv, eW, hwv⟩
          rw [List.length_map, List.take_length] at hwv
          refine ⟨W, wsv, rfl, .inl ⟨SqL.of eW, fun q1 n1 => ?_⟩⟩
          refine ⟨_, rfl, by show 2 ≤ sizeLine; decide, fun a1 na1 => ⟨by show 3 ≤ sizeLine; decide, fun c1 nc1 => ?_⟩⟩
          have u1 := same_upd (o := .tup wsv) (Same.refl H16) n1
          have u2 := same_upd (o := .tup [V.ref q1, V.ref bp']) (Same.refl _) na1
          have u3 := same_upd (o := .tup [V.str "call", V.str "let", V.ref a1]) (Same.refl _) nc1
          have u13 := u1.trans (u2.trans u3)
          have eq1 := (u2.trans u3) _ _ (upd_same (H := H16) (a := q1) (o := .tup wsv))
          have ea1 := u3 _ _ (upd_same (H := upd H16 q1 (.tup wsv)) (a := a1) (o := .tup [V.ref q1, V.ref bp']))
          have ec1 : upd (upd (upd H16 q1 (.tup wsv)) a1 (.tup [V.ref q1, V.ref bp'])) c1 (.tup [V.str "call", V.str "let", V.ref a1]) c1 = some (.tup [V.str "call", V.str "let", V.ref a1]) := upd_same
          have D17 : DI d l (upd (upd (upd H16 q1 (.tup wsv)) a1 (.tup [V.ref q1, V.ref bp'])) c1 (.tup [V.str "call", V.str "let", V.ref a1])) := D15.keep (k16.trans u13)
          generalize upd (upd (upd H16 q1 (.tup wsv)) a1 (.tup [V.ref q1, V.ref bp'])) c1 (.tup [V.str "call", V.str "let", V.ref a1]) = H17 at u13 eq1 ea1 ec1 D17 ⊢
          have k17 := k16.trans u13
          have eL17 := k17 _ _ eL15
          refine ⟨L, vs, .ref c1, rfl, rfl, eL17, lt_size (by omega), ?_⟩
          have tm := TKeep.mut (o := .lst (vs ++ [V.ref c1])) eL17
          have tkx : TKeep H10 (upd H17 L (.lst (vs ++ [V.ref c1]))) := (tk1015.trans (TKeep.same k17)).trans tm
          have hnd : (ttl k :: ps).Nodup := List.nodup_cons.mpr ⟨pf4 k, pf2⟩
          have hmay : ∀ z ∈ ttl k :: ps, mayN z = true := fun z hz => by
            rcases List.mem_cons.mp hz with y | y
            · rw [y]; exact may_ttl k (by omega)
            · exact (pf3 z y).2.2
          have hokz : ∀ z ∈ ttl k :: ps, OkN z := fun z hz => by
            rcases List.mem_cons.mp hz with y | y
            · rw [y]; exact ttl_ok k (by omega)
            · exact (pf3 z y).1
          have l4 : (ttl k :: ps).length ≤ 4 := by rw [List.length_cons]; omega
          have hlet := let_words (b := t') hmay hnd l4
          have wtk := words_tok (ttl k :: ps)
          have hLt : Lt (ttl k, ps, t') H17 (.ref c1) := ⟨.cons (wordsT (ttl k :: ps)) (.cons t' .nil), by
            refine ⟨c1, a1, [V.ref q1, V.ref bp'], rfl, by rw [ec1, let_sV]; rfl, ea1, ?_⟩
            simp only [RepA]
            exact ⟨q1, wsv, [V.ref bp'], rfl, eq1, RepT.keep (TKeep.same u13) (words_rep hwv), bp', ws', [], rfl, k17 _ _ eb15, RepT.keep (TKeep.same k17) hb15, rfl⟩, hlet, by
            simp only [depA]; omega, by
            simp only [toksA, List.length_cons, List.length_append, List.length_nil]
            rw [wtk.1]; omega, by
            simp only [BA]; exact ⟨words_bt hokz, hB', trivial⟩⟩
          have cis := ci.step pf2 (by omega) (ci.wf hc') (by omega) (by omega) (by omega) hle'
          rw [lms] at cis
          have nL9 : H5 L = none := nL5
          refine ⟨ms ++ [(ttl k, ps, t')], fm ++ [(ttl k, formL ps t' fm)], vs ++ [.ref c1], _, _, _, _, rfl, (K15.trans fun b o _ e => k17 b o e).mut nL9, D17.at LD.1 LD.2, cis, ?_, upd_same, by rw [List.length_append, lms]; rfl, by rw [List.length_append, lvs]; rfl, ?_, fun i x hx => ?_⟩
          · obtain ⟨kv9, e9, h9⟩ := hF15.same k17
            refine ⟨kv9, by rw [upd_ne hLF.symm]; exact e9, fun n9 => ?_⟩
            have h9 := h9 n9
            have hne : ∀ f, (fm ++ [(ttl k, formL ps t' fm)]).lookup n9 = some f → f ≠ [] := fun f ef => by
              have h1 := cis.kf.ok.fst n9
              rw [ef] at h1
              cases es : (szM (ms ++ [(ttl k, ps, t')]) []).lookup n9 with
              | none => rw [es] at h1; cases h1
              | some s9 =>
                rw [es] at h1
                have h1 : fsS s9 = f := Option.some.inj h1
                have h2 := (cis.kf.ok.nn n9 s9 es).2
                rw [← h1]
                intro z
                have z := congrArg List.length z
                unfold fsS at z
                rw [List.length_map] at z
                have : ([] : List Int).length = 0 := rfl
                omega
            cases ef : (fm ++ [(ttl k, formL ps t' fm)]).lookup n9 with
            | none =>
              rw [ef] at h9
              cases ev : valV kv9 (Sum.inr (mkS n9)) with
              | none => trivial
              | some v9 => rw [ev] at h9; exact h9.elim
            | some f =>
              rw [ef] at h9
              cases ev : valV kv9 (Sum.inr (mkS n9)) with
              | none => rw [ev] at h9; exact h9.elim
              | some v9 =>
                rw [ev] at h9
                obtain ⟨p9, rfl, ep9⟩ := h9
                refine ⟨p9, rfl, ?_⟩
                have hpL : p9 ≠ L := fun z => by
                  rw [z, eL17] at ep9
                  have ep9 := HO.lst.inj (Option.some.inj ep9)
                  cases f with
                  | nil => exact hne [] ef rfl
                  | cons x f =>
                    have lv : 0 < ms.length := by
                      rw [lms, ← lvs, ep9]; simp
                    obtain ⟨v0, g1, ⟨a0, ⟨pp, qq, uu, e0, _⟩, _⟩⟩ := hvs 0 ms[0] (List.getElem?_eq_getElem lv)
                    rw [ep9] at g1
                    have g1 : V.int x = v0 := Option.some.inj g1
                    rw [e0] at g1
                    cases g1
                rw [upd_ne hpL]; exact ep9
          · intro kv e
            rw [upd_ne hLF.symm] at e
            rw [k17 _ _ eF15] at e
            have e := HO.dK.inj (Option.some.inj e)
            rw [← e]
            have := length_putK kvf (Sum.inr (mkS (ttl k))) (V.ref R)
            omega
          · by_cases hi : i < ms.length
            · rw [List.getElem?_append_left hi] at hx
              obtain ⟨v9, g1, g2⟩ := hvs i x hx
              exact ⟨v9, by rw [List.getElem?_append_left (by omega)]; exact g1, g2.keep tkx⟩
            · rw [List.getElem?_append_right (by omega)] at hx
              have e0 : i - ms.length = 0 := by
                have := (List.getElem?_eq_some_iff.mp hx).1
                simp only [List.length_singleton] at this
                omega
              rw [e0] at hx
              have hx := Option.some.inj hx
              subst hx
              exact ⟨.ref c1, by rw [List.getElem?_append_right (by omega), show i - vs.length = 0 by omega]; rfl, hLt.keep tm⟩
    · rintro σ' H9 ⟨ms, fm, vs, x8, x9, x10, x11, rfl, K9, D9, ci, hF, eL, lms, lvs, lkF, hvs⟩
      refine ⟨_, rfl, d, l, 3, rfl, D9, by decide, fun H10 r K10 D10 _ r2 => ?_⟩
      have r2 := r2 (by decide)
      refine ⟨_, _, rfl, rfl, 1 + r, rfl, by omega, by omega, ?_⟩
      have hpb : ∀ p ∈ ps, p ∉ bnN := fun p hp => (pf3 p hp).2.1
      refine for_it walk_range (fun i σ' H' => ∃ (ws : List V) (x8 x12 x13 : Option V), σ' = [some (.ref d), some (.int (m : Int)), some (.ref pl), some (.ref wv), some (.ref mr), some (.int fx), some (.ref F), some (.ref L), x8, x9, x10, x11, x12, x13, none] ∧ Kp d H5 H' ∧ DI d l H' ∧ H' L = some (.lst (vs ++ ws)) ∧ ws.length = i ∧ (∀ w ∈ ws, Ce H' w) ∧ ∀ (i : Nat) (x : Mc), ms[i]? = some x → ∃ v, vs[i]? = some v ∧ Lt x H' v)
        ⟨[], x8, none, none, rfl, K9.trans K10, D10, by rw [List.append_nil]; exact K10 _ _ LD.1 eL, rfl, (fun _ h => nomatch h), fun i x hx => by
          obtain ⟨v, g1, g2⟩ := hvs i x hx
          exact ⟨v, g1, g2.keep (TKeep.kp K10 D9)⟩⟩ (fun _ _ _ _ _ => trivial) ?_ ?_
      · rintro i x σ' H11 H12 hi ⟨ws, x8, x12, x13, rfl, K11, D11, eL11, lws, hce, hlt⟩ ⟨rfl, hx⟩
        refine ⟨_, rfl, _, _, rfl, rfl, _, rfl, d, l, 3, rfl, D11, by decide, fun H13 q K13 D13 _ q2 => ?_⟩
        have q2 := q2 (by decide)
        obtain ⟨o, ho, o40⟩ : ∃ o : Nat, (if (m : Int) - 1 - q > 0 then (m : Int) - 1 - q else 0) = (o : Int) ∧ o < 40 := by
          by_cases c : (m : Int) - 1 - q > 0
          · exact ⟨((m : Int) - 1 - q).toNat, by rw [if_pos c]; omega, by omega⟩
          · exact ⟨0, by rw [if_neg c]; rfl, by omega⟩
        refine ⟨_, _, rfl, rfl, _, _, rfl, ?_⟩
        have K513 := K11.trans K13
        have epl13 := K513 _ _ pld (k5 _ _ epl4)
        have hw13 : Nn ps (some (ttl o)) 1 4 H13 (.ref wv) := by
          obtain ⟨nd, a1, a2, a3, a4, a5⟩ := (hw4.keep (TKeep.same k5)).keep (TKeep.kp K513 D5)
          exact ⟨nd, a1, by omega, by omega, a4, a5.up⟩
        refine ⟨_, rfl, pl, rfl, ⟨_, SqL.of epl13⟩, fun B nB => ?_⟩
        refine lc_it (walk_list (K := K) (a := pl) (xs := ps.map sV)) (fun j H' => Kp d H13 H' ∧ DI d l H' ∧ ∃ zs : List V, zs.length = j ∧ H' B = some (.lst zs) ∧ ∀ z ∈ zs, Tt ps (some (ttl o)) 1 8 H' z) ⟨(Kp.refl d H13).new nB, D13.new nB, [], rfl, upd_same, fun _ h => nomatch h⟩ ?_ ?_ ?_
        · rintro j H' _ ⟨k, _⟩
          exact SqL.of (k _ _ pld epl13)
        · rintro j y H14 H15 hj ⟨K14, D14, zs, lzs, eB, hzs⟩ ⟨rfl, hy⟩
          have hw15 := hw13.keep (TKeep.kp K14 D13)
          have nBd := (D13.nd nB).1
          refine ⟨rfl, _, rfl, _, rfl, by show 1 ≤ sizeLine; decide, fun t1 n1 => ⟨by show 0 ≤ sizeLine; decide, fun t2 n2 => ⟨_, rfl, _, rfl, by show 2 ≤ sizeLine; decide, fun t3 n3 => ?_⟩⟩⟩
          refine ⟨_, rfl, by show 1 ≤ sizeLine; decide, fun a1 m1 => ⟨by show 1 ≤ sizeLine; decide, fun a2 m2 => ⟨by show 3 ≤ sizeLine; decide, fun a3 m3 => ⟨by show 1 ≤ sizeLine; decide, fun t4 n4 => ⟨by show 4 ≤ sizeLine; decide, fun M nM => ?_⟩⟩⟩⟩⟩
          have T1 := TKeep.new (o := .tup [V.ref wv]) n1
          have T2 := TKeep.new (o := .tup []) n2
          have T3 := TKeep.new (o := .tup [V.ref wv, V.ref wv]) n3
          have A1 := TKeep.new (o := .tup [V.ref wv]) m1
          have A2 := TKeep.new (o := .tup [V.ref a1]) m2
          have A3 := TKeep.new (o := .tup [V.str "call", V.str "par", V.ref a2]) m3
          have T4 := TKeep.new (o := .tup [V.ref a3]) n4
          have TM := TKeep.new (o := .lst [V.ref t1, V.ref t2, V.ref t3, V.ref t4]) nM
          have f1 := TM _ _ (T4 _ _ (A3 _ _ (A2 _ _ (A1 _ _ (T3 _ _ (T2 _ _ (show upd H15 t1 (.tup [V.ref wv]) t1 = some (.tup [V.ref wv]) from upd_same)))))))
          have f2 := TM _ _ (T4 _ _ (A3 _ _ (A2 _ _ (A1 _ _ (T3 _ _ (upd_same (H := upd H15 t1 (.tup [V.ref wv])) (a := t2) (o := .tup [])))))))
          have f3 := TM _ _ (T4 _ _ (A3 _ _ (A2 _ _ (A1 _ _ (upd_same (H := upd (upd H15 t1 (.tup [V.ref wv])) t2 (.tup [])) (a := t3) (o := .tup [V.ref wv, V.ref wv]))))))
          have g1 := TM _ _ (T4 _ _ (A3 _ _ (A2 _ _ (upd_same (H := upd (upd (upd H15 t1 (.tup [V.ref wv])) t2 (.tup [])) t3 (.tup [V.ref wv, V.ref wv])) (a := a1) (o := .tup [V.ref wv])))))
          have g2 := TM _ _ (T4 _ _ (A3 _ _ (upd_same (H := upd (upd (upd (upd H15 t1 (.tup [V.ref wv])) t2 (.tup [])) t3 (.tup [V.ref wv, V.ref wv])) a1 (.tup [V.ref wv])) (a := a2) (o := .tup [V.ref a1]))))
          have g3 := TM _ _ (T4 _ _ (upd_same (H := upd (upd (upd (upd (upd H15 t1 (.tup [V.ref wv])) t2 (.tup [])) t3 (.tup [V.ref wv, V.ref wv])) a1 (.tup [V.ref wv])) a2 (.tup [V.ref a1])) (a := a3) (o := .tup [V.str "call", V.str "par", V.ref a2])))
          have f4 := TM _ _ (upd_same (H := upd (upd (upd (upd (upd (upd H15 t1 (.tup [V.ref wv])) t2 (.tup [])) t3 (.tup [V.ref wv, V.ref wv])) a1 (.tup [V.ref wv])) a2 (.tup [V.ref a1])) a3 (.tup [V.str "call", V.str "par", V.ref a2])) (a := t4) (o := .tup [V.ref a3]))
          have KM := ((((((((Kp.refl d H15).new n1 (o := .tup [V.ref wv])).new n2 (o := .tup [])).new n3 (o := .tup [V.ref wv, V.ref wv])).new m1 (o := .tup [V.ref wv])).new m2 (o := .tup [V.ref a1])).new m3 (o := .tup [V.str "call", V.str "par", V.ref a2])).new n4 (o := .tup [V.ref a3])).new nM (o := .lst [V.ref t1, V.ref t2, V.ref t3, V.ref t4])
          have D7 := (((((((D14.new n1 (o := .tup [V.ref wv])).new n2 (o := .tup [])).new n3 (o := .tup [V.ref wv, V.ref wv])).new m1 (o := .tup [V.ref wv])).new m2 (o := .tup [V.ref a1])).new m3 (o := .tup [V.str "call", V.str "par", V.ref a2])).new n4 (o := .tup [V.ref a3]))
          have DM := D7.new nM (o := .lst [V.ref t1, V.ref t2, V.ref t3, V.ref t4])
          have Md := (D7.nd nM).1
          have eM := upd_same (H := upd (upd (upd (upd (upd (upd (upd H15 t1 (.tup [V.ref wv])) t2 (.tup [])) t3 (.tup [V.ref wv, V.ref wv])) a1 (.tup [V.ref wv])) a2 (.tup [V.ref a1])) a3 (.tup [V.str "call", V.str "par", V.ref a2])) t4 (.tup [V.ref a3])) (a := M) (o := .lst [V.ref t1, V.ref t2, V.ref t3, V.ref t4])
          generalize upd (upd (upd (upd (upd (upd (upd (upd H15 t1 (.tup [V.ref wv])) t2 (.tup [])) t3 (.tup [V.ref wv, V.ref wv])) a1 (.tup [V.ref wv])) a2 (.tup [V.ref a1])) a3 (.tup [V.str "call", V.str "par", V.ref a2])) t4 (.tup [V.ref a3])) M (.lst [V.ref t1, V.ref t2, V.ref t3, V.ref t4]) = HM at f1 f2 f3 g1 g2 g3 f4 KM DM eM ⊢
          have hwM := hw15.keep (TKeep.kp KM D14)
          have hw0 : Nn ps (some (ttl o)) 0 1 HM (.ref wv) := by
            obtain ⟨nd, b1, b2, b3, b4, b5⟩ := (hw4.keep (TKeep.same k5)).keep (TKeep.kp (K513.trans (K14.trans KM)) D5)
            exact ⟨nd, b1, b2, b3, b4, b5.up⟩
          have c1 : Tt ps (some (ttl o)) 1 8 HM (.ref t1) := tt_of f1 (fun v hv => by rw [List.mem_singleton.mp hv]; exact hwM) (show 1 * 4 ≤ 8 by decide)
          have c2 : Tt ps (some (ttl o)) 1 8 HM (.ref t2) := tt_of (N := 4) f2 (fun v hv => by cases hv) (by decide)
          have c3 : Tt ps (some (ttl o)) 1 8 HM (.ref t3) := tt_of f3 (fun v hv => by
            have : v = .ref wv := by simpa using hv
            rw [this]; exact hwM) (show 2 * 4 ≤ 8 by decide)
          have cA : Tt ps (some (ttl o)) 0 1 HM (.ref a1) := tt_of g1 (fun v hv => by rw [List.mem_singleton.mp hv]; exact hw0) (show 1 * 1 ≤ 1 by decide)
          have parB : ([112, 97, 114] : List Nat) ∈ bnN ∧ ([112, 97, 114] : List Nat) ≠ letN := by decide +kernel
          have cN : Nn ps (some (ttl o)) 1 4 HM (.ref a3) := nn_call (n := [112, 97, 114]) g3 g2 (fun v hv => by rw [List.mem_singleton.mp hv]; exact cA) (ok_of (by decide +kernel)) (.inr (.inl ⟨fun h => hpb _ h parB.1, parB.1, parB.2⟩)) (show 1 + 1 * (1 + 2) ≤ 4 by decide)
          have c4 : Tt ps (some (ttl o)) 1 8 HM (.ref t4) := tt_of f4 (fun v hv => by rw [List.mem_singleton.mp hv]; exact cN) (show 1 * 4 ≤ 8 by decide)
          refine ⟨d, l, .ref M, _, rfl, DM, .inl ⟨M, rfl, Md, SqL.of eM⟩, by show 0 < 4; decide, by show 4 ≤ 1000; decide, fun H16 v K16 D16 hv => ?_⟩
          have hvT : Tt ps (some (ttl o)) 1 8 H16 v := by
            have : Tt ps (some (ttl o)) 1 8 HM v := by
              simp only [List.mem_cons, List.not_mem_nil, or_false] at hv
              rcases hv with h | h | h | h <;> rw [h] <;> assumption
            exact this.keep (TKeep.kp K16 DM)
          have K1516 := KM.trans K16
          have eB16 := K1516 _ _ nBd eB
          have nB13 : H13 B = none := nB
          have lps : j < ps.length := by rw [List.length_map] at hj; exact hj
          refine ⟨zs, eB16, lt_size (by rw [lzs]; omega), (K14.trans K1516).mut nB13, D16.at nBd (D13.nd nB).2, zs ++ [v], by rw [List.length_append, lzs]; rfl, upd_same, fun z hz => ?_⟩
          have tb : TKeep H16 (upd H16 B (.lst (zs ++ [v]))) := fun b xs hb => by rw [upd_ne (fun z => by rw [z, eB16] at hb; cases hb)]; exact hb
          rcases List.mem_append.mp hz with h | h
          · exact ((hzs z h).keep (TKeep.kp K1516 D14)).keep tb
          · rw [List.mem_singleton.mp h]; exact hvT.keep tb
        · rintro H14 ⟨K14, D14, zs, lzs, eB, hzs⟩
          rw [List.length_map] at lzs
          have K514 := K513.trans K14
          have eL14 := (K13.trans K14) _ _ LD.1 eL11
          refine ⟨.ref L, rfl, .inl ⟨rfl, _, .inl (.inl eL14)⟩, _, rfl, o, by rw [← ho]; rfl, by omega, _, rfl, B, zs, rfl, .inl ⟨SqL.of eB, fun aq naq => ?_⟩⟩
          have Q1 := TKeep.new (o := .tup zs) naq
          refine ⟨by show 3 ≤ sizeLine; decide, fun p np => ?_⟩
          have Q2 := TKeep.new (o := .tup [V.str "call", sV (ttl o), V.ref aq]) np
          have e1 := Q2 _ _ (upd_same (H := H14) (a := aq) (o := .tup zs))
          have e2 := upd_same (H := upd H14 aq (.tup zs)) (a := p) (o := .tup [V.str "call", sV (ttl o), V.ref aq])
          have DQ := (D14.new naq (o := .tup zs)).new np (o := .tup [V.str "call", sV (ttl o), V.ref aq])
          have KQ := ((Kp.refl d H14).new naq (o := .tup zs)).new np (o := .tup [V.str "call", sV (ttl o), V.ref aq])
          have eLQ := KQ _ _ LD.1 eL14
          have tkQ := TKeep.kp KQ D14
          generalize upd (upd H14 aq (.tup zs)) p (.tup [V.str "call", sV (ttl o), V.ref aq]) = HQ at e1 e2 DQ KQ eLQ tkQ ⊢
          have lvw : (vs ++ ws).length < 100000 := by rw [List.length_append, lvs, lws]; omega
          refine ⟨L, _, _, rfl, rfl, eLQ, lt_size lvw, ?_⟩
          have tL : TKeep HQ (upd HQ L (.lst (vs ++ ws ++ [V.ref p]))) := fun b xs hb => by rw [upd_ne (fun z => by rw [z, eLQ] at hb; cases hb)]; exact hb
          have tall : TKeep H12 (upd HQ L (.lst (vs ++ ws ++ [V.ref p]))) := ((TKeep.kp (K13.trans K14) D11).trans tkQ).trans tL
          have nL9 : H5 L = none := nL5
          refine ⟨ws ++ [.ref p], _, _, _, rfl, ((K514.trans KQ)).mut nL9, DQ.at LD.1 LD.2, by rw [upd_same, List.append_assoc], by rw [List.length_append, lws]; rfl, fun w hw => ?_, fun i x hx => ?_⟩
          · rcases List.mem_append.mp hw with h | h
            · exact (hce w h).keep tall
            · rw [List.mem_singleton.mp h]
              obtain ⟨nd, hv, dn, ln, bn, _⟩ := nn_call (ps := ps) (la := some (ttl o)) (k := 1) (N := 8) (m := 21) (H := HQ) (n := ttl o) e2 e1 (fun v hv => (hzs v hv).keep tkQ) (ttl_ok _ (by omega)) (.inr (.inr ⟨pf4 o, rfl, lzs⟩)) (by rw [lzs]; omega)
              refine Ce.keep ⟨nd, hv, ?_, dn, by omega, bn⟩ tL
              cases nd with
              | word z => rfl
              | call n a =>
                obtain ⟨p9, q9, u9, e9, e10, _, _⟩ := hv
                have e9 := V.ref.inj e9
                subst e9
                rw [e2] at e10
                have e11 := (List.cons.inj (List.cons.inj (HO.tup.inj (Option.some.inj e10))).2).1
                have en : ttl o = n := mkS_inj (V.str.inj e11)
                subst en
                exact decide_eq_false fun z => ttl_bn o (by rw [show ttl o = letN from z]; decide +kernel)
          · obtain ⟨v, g1, g2⟩ := hlt i x hx
            exact ⟨v, g1, g2.keep tall⟩
      · rintro σ' H11 ⟨ws, x8, x12, x13, rfl, K11, D11, eL11, lws, hce, hlt⟩
        have lw3 : ws.length ≤ 3 := by rw [lws]; omega
        refine ⟨_, rfl, L, _, rfl, .inl ⟨SqL.of eL11, fun p np => ?_⟩⟩
        have tp := TKeep.new (o := .tup (vs ++ ws)) np
        have lvm : vs.length = ms.length := by rw [lvs, lms]
        obtain ⟨t, hr, dt, bt, lt, mt, wt, nt⟩ := chain_tree (H := upd H11 p (.tup (vs ++ ws))) (fun w hw => (hce w hw).keep tp) lvm (fun i x hx => by
          obtain ⟨v, g1, g2⟩ := hlt i x hx
          exact ⟨v, g1, g2.keep tp⟩)
        have K0p : Kp d H (upd H11 p (.tup (vs ++ ws))) := (K05.trans K11).new np
        refine q _ p (vs ++ ws) t K0p (D11.new np) upd_same hr (by rw [List.length_append]; omega) dt bt (by omega) fun _ => ?_
        refine ⟨2901, by rw [mt]; exact ci.gr, by omega, by omega, ?_⟩
        have : 2901 * (depT (ndT t) + 2) ≤ 2901 * 4 := Nat.mul_le_mul_left _ (by omega)
        omega
end
end Vf

set_option Elab.async false
set_option linter.all false
set_option maxRecDepth 100000
set_option maxHeartbeats 4000000
namespace Vf
open PySem PySem.Spec PyProof.Rows L2 TL
/-! ### what a fault names is text that can be laid -/
def FLow : F10 → Prop
  | .bad n => Low n
  | .unk n => Low n
  | .twice n => Low n
  | .large => True
theorem let_low : Low letN := (ok_of (z := letN) (by decide +kernel)).2
theorem own_low {ps : List (List Nat)} {kn : Kn} {n : List Nat} {k : Nat} (h : Low n) : ∀ f ∈ ownF ps kn n k, FLow f := fun f hf => by
  unfold ownF at hf
  split at hf
  · rw [List.mem_singleton.mp hf]; exact let_low
  · split at hf
    · split at hf
      · rw [List.mem_singleton.mp hf]; exact h
      · cases hf
    · split at hf
      · split at hf
        · cases hf
        · rw [List.mem_singleton.mp hf]; exact h
      · split at hf
        · cases hf
        · rw [List.mem_singleton.mp hf]; exact h
mutual
theorem fauT_low {L : Nat} {ps : List (List Nat)} {kn : Kn} : ∀ {t : Tr}, BT L t → ∀ f ∈ fauT ps kn t, FLow f
  | .nil, _, f, h => by
    simp only [fauT, List.not_mem_nil] at h
  | .word _ r, b, f, h => by
    simp only [fauT] at h
    simp only [BT] at b
    exact fauT_low b.2 f h
  | .call n a r, b, f, h => by
    simp only [fauT, List.mem_append] at h
    simp only [BT] at b
    rcases h with h | h | h
    · exact own_low b.1.2 f h
    · exact fauA_low b.2.1 f h
    · exact fauT_low b.2.2 f h
theorem fauA_low {L : Nat} {ps : List (List Nat)} {kn : Kn} : ∀ {a : Ar}, BA L a → ∀ f ∈ fauA ps kn a, FLow f
  | .nil, _, f, h => by
    simp only [fauA, List.not_mem_nil] at h
  | .cons t r, b, f, h => by
    simp only [fauA, List.mem_append] at h
    simp only [BA] at b
    rcases h with h | h
    · exact fauT_low b.1 f h
    · exact fauA_low b.2 f h
end
theorem nms_low {L : Nat} : ∀ {t : Tr}, BT L t → ∀ z ∈ nms t, Low z
  | .nil, _, f, h => by
    simp only [nms, List.not_mem_nil] at h
  | .word z r, b, f, h => by
    simp only [BT] at b
    simp only [nms] at h
    split at h
    · rcases List.mem_cons.mp h with e | e
      · rw [e]; exact b.1.2
      · exact nms_low b.2 f e
    · exact nms_low b.2 f h
  | .call n a r, b, f, h => by
    simp only [BT] at b
    simp only [nms] at h
    exact nms_low b.2.2 f h
theorem ltF_low {L : Nat} {kn : Kn} {a : Ar} {f : F10} (b : BA L a) (h : ltF kn a = some f) : FLow f := by
  unfold ltF at h
  split at h
  · rw [← Option.some.inj h]; exact trivial
  · split at h
    · rw [← Option.some.inj h]; exact let_low
    · cases h
    · rename_i m ps t e
      obtain ⟨t2, rfl, e2, _⟩ := letOf_ok e
      simp only [BA] at b
      split at h
      · rw [← Option.some.inj h]
        exact nms_low b.1 m (by rw [← e2]; exact List.mem_cons_self)
      · exact fauT_low b.2.1 f (List.mem_of_mem_head? h)
theorem chk_low {L : Nat} : ∀ {t : Tr} {kn : Kn} {f : F10}, BT L t → chk t kn = some f → FLow f
  | .nil, kn, f, _, h => by
    simp only [chk] at h; cases h
  | .word _ r, kn, f, b, h => by
    simp only [chk] at h
    simp only [BT] at b
    exact chk_low b.2 h
  | .call n a r, kn, f, b, h => by
    simp only [chk] at h
    simp only [BT] at b
    split at h
    · split at h
      · rename_i g e
        rw [← Option.some.inj h]
        exact ltF_low b.2.1 e
      · exact chk_low b.2.2 h
    · split at h
      · rename_i g gs e
        rw [← Option.some.inj h]
        have hm : g ∈ fauN [] kn (.call n a) := by rw [e]; exact List.mem_cons_self
        simp only [fauN, List.mem_append] at hm
        rcases hm with h1 | h1
        · exact own_low b.1.2 g h1
        · exact fauA_low b.2.1 g h1
      · exact chk_low b.2.2 h
mutual
theorem BT.mono {L M : Nat} (h : L ≤ M) : ∀ {t : Tr}, BT L t → BT M t
  | .nil, _ => by simp only [BT]
  | .word z r, b => by
    simp only [BT] at b ⊢
    exact ⟨⟨Nat.le_trans b.1.1 h, b.1.2⟩, BT.mono h b.2⟩
  | .call n a r, b => by
    simp only [BT] at b ⊢
    exact ⟨⟨Nat.le_trans b.1.1 h, b.1.2⟩, BA.mono h b.2.1, BT.mono h b.2.2⟩
theorem BA.mono {L M : Nat} (h : L ≤ M) : ∀ {a : Ar}, BA L a → BA M a
  | .nil, _ => by simp only [BA]
  | .cons t r, b => by
    simp only [BA] at b ⊢
    exact ⟨BT.mono h b.1, BA.mono h b.2⟩
end
theorem low_ok {z : List Nat} (h : Low z) : PyData.strOk (mkS z) = true := by
  unfold PyData.strOk
  have e : (mkS z).cps = z.toArray := rfl
  rw [e, List.all_toArray]
  exact List.all_eq_true.mpr fun c hc => decide_eq_true (h c hc)
theorem pair_shaped {a b : Str} (ha : PyData.strOk a = true) (hb : PyData.strOk b = true) : PySem.SeqAt.shaped (.tuple [.str a, .str b]) = true := by
  unfold PySem.SeqAt.shaped
  simp only [PyData.canLay0, PyData.canLayAll0, ha, hb, Bool.and_true, Bool.true_and]
  exact decide_eq_true (by simp only [PyData.depth, PyData.depthAll]; decide)
theorem pair_eqv {a b : Str} : PyData.eqv (.tuple [.str a, .str b]) (.tuple [.str a, .str b]) = true := by
  simp only [PyData.eqv, PyData.eqvAll, beq_self_eq_true, Bool.and_true]
theorem fk_pair {f : F10} (h : FLow f) : ∃ a b : Str, V.str (fKind f).1 = .str a ∧ (fKind f).2 = .str b ∧ PyData.strOk a = true ∧ PyData.strOk b = true := by
  cases f with
  | bad n => exact ⟨_, _, rfl, rfl, by show PyData.strOk ("BadCall" : Str) = true; decide +kernel, low_ok h⟩
  | unk n => exact ⟨_, _, rfl, rfl, by show PyData.strOk ("Unknown" : Str) = true; decide +kernel, low_ok h⟩
  | twice n => exact ⟨_, _, rfl, rfl, by show PyData.strOk ("Twice" : Str) = true; decide +kernel, low_ok h⟩
  | large => exact ⟨_, _, rfl, rfl, by decide +kernel, by decide +kernel⟩
theorem OFV.keep {H H' : Hp} {v : V} {o : Option F10} (h : OFV H v o) (k : TKeep H H') : OFV H' v o := by
  cases o with
  | none => exact h
  | some f => exact FV.keep h k
theorem ne_of {K : PySem.W.Frag} {H : Hp} {x y : V} {o : Option F10} {Q : VK} (hx : OFV H x o) (hy : OFV H y o) (hl : ∀ f, o = some f → FLow f) (q : Q (.bl false) H) : rNeD K x y H Q := by
  cases o with
  | none =>
    have ex : x = .non := hx
    have ey : y = .non := hy
    subst ex ey
    exact ⟨.none, .none, .non, .non, rfl, rfl, q⟩
  | some f =>
    obtain ⟨p, rfl, ep⟩ := hx
    obtain ⟨r, rfl, er⟩ := hy
    obtain ⟨a, b, e1, e2, k1, k2⟩ := fk_pair (hl f rfl)
    rw [e1, e2] at ep er
    refine ⟨.tuple [.str a, .str b], .tuple [.str a, .str b], .tup (SqT.of ep) (.cons (.str _) (.cons (.str _) .nil)), .tup (SqT.of er) (.cons (.str _) (.cons (.str _) .nil)), pair_shaped k1 k2, pair_shaped k1 k2, ?_⟩
    rw [pair_eqv]; exact q
theorem cut_sub {xs : List V} {lo hi : Option Int} : ∀ v ∈ cutV xs lo hi, v ∈ xs := fun v h => by
  unfold cutV at h
  exact List.mem_of_mem_drop (List.mem_of_mem_take h)
theorem lenp_shaped {a : Str} {n : Int} (ha : PyData.strOk a = true) : PySem.SeqAt.shaped (.tuple [.str a, .int n]) = true := by
  unfold PySem.SeqAt.shaped
  simp only [PyData.canLay0, PyData.canLayAll0, ha, Bool.and_true, Bool.true_and]
  exact decide_eq_true (by simp only [PyData.depth, PyData.depthAll]; decide)
theorem lenp_eqv {a : Str} {n : Int} : PyData.eqv (.tuple [.str a, .int n]) (.tuple [.str a, .int n]) = true := by
  simp [PyData.eqv, PyData.eqvAll]
theorem ne_len {K : PySem.W.Frag} {H : Hp} {x y : V} {t : Tr} {Q : VK} (hc : chk t [] = none) (hx : OLV H x t) (hy : ∃ c, y = .ref c ∧ H c = some (.tup [.str "nesting", .int (ndL t [])])) (q : Q (.bl false) H) : rNeD K x y H Q := by
  unfold OLV at hx
  rw [hc] at hx
  obtain ⟨p, rfl, ep⟩ := hx
  obtain ⟨r, rfl, er⟩ := hy
  have k1 : PyData.strOk ("nesting" : Str) = true := by decide +kernel
  refine ⟨.tuple [.str "nesting", .int (ndL t [])], .tuple [.str "nesting", .int (ndL t [])], .tup (SqT.of ep) (.cons (.str _) (.cons (.int _) .nil)), .tup (SqT.of er) (.cons (.str _) (.cons (.int _) .nil)), lenp_shaped k1, lenp_shaped k1, ?_⟩
  rw [lenp_eqv]; exact q
theorem ne_fau {K : PySem.W.Frag} {H : Hp} {x y : V} {t : Tr} {f : F10} {Q : VK} (hc : chk t [] = some f) (hx : OLV H x t) (hy : FV H y f) (hl : FLow f) (q : Q (.bl false) H) : rNeD K x y H Q := by
  unfold OLV at hx
  rw [hc] at hx
  exact ne_of (o := some f) hx hy (fun g e => by rw [← Option.some.inj e]; exact hl) q
end Vf

set_option Elab.async false
set_option linter.all false
set_option maxRecDepth 100000
set_option maxHeartbeats 4000000
namespace Vf
open PySem PySem.Spec PyProof.Rows L2 TL
theorem PE.to {X : Cx} {e : Expr} {t t' : TE} (h : PE X e t) (i : ∀ σ H Q, t' σ H Q → t σ H Q) : PE X e t' := ⟨fun pins s σ H Q I hq => h.run pins s σ H Q I (i σ H Q hq)⟩
def tM40 : TE := fun σ H Q => ∃ d l : Addr, σ[1]? = some (some (.ref d)) ∧ DI d l H ∧ ∀ H' (m : Int), Kp d H H' → DI d l H' → 1 ≤ m → m ≤ 40 → Q (.int m) H'
def WL (H : Hp) (v : V) : Prop := ∃ p us, v = .ref p ∧ H p = some (.tup us) ∧ ∃ t, RepT H t us ∧ us.length ≤ 100000 ∧ depT t ≤ 4 ∧ BT 100 t ∧ (toksT t).length ≤ 98700 ∧ (chk t [] = none → GrowT t)
theorem WL.keep {H H' : Hp} {v : V} (h : WL H v) (k : TKeep H H') : WL H' v := by
  obtain ⟨p, us, e, a, t, b, c⟩ := h
  exact ⟨p, us, e, k _ _ a, t, b.keep k, c⟩
section
variable {P : Program} {w : World} {K : PySem.W.Frag} {mg : Str → Option Value} {base : Heap}
def spLaw (K : PySem.W.Frag) : Sp := fun vs H Q _ => ∃ (a : Addr) (ns : List Int), vs = [.ref a] ∧ SqL K H a (ns.map V.int) ∧ ns.length ≤ 63 ∧ ∀ H', Q (.bl true) H'
theorem ok_law (T : Txt K mg) : FnOk P w K mg base CX0 50 T.a_law T.d_law ["_law_script"] (spLaw K) := by
  have G_law_begin : FnOk P w K mg base CX0 1 T.a_law_begin T.d_law_begin ["_law_script"] (spBegin K) := ok_begin T
  have G_law_draw : FnOk P w K mg base CX0 1 T.a_law_draw T.d_law_draw ["_law_d", "_law_many"] spDraw := ok_draw T
  have G_law_rare : FnOk P w K mg base CX0 2 T.a_law_rare T.d_law_rare ["_law_d", "_law_many"] spRare := ok_rare T
  have G_law_pick : FnOk P w K mg base CX0 2 T.a_law_pick T.d_law_pick ["_law_d", "_law_row"] (spPick K) := ok_pick T
  have G_law_names : FnOk P w K mg base CX0 3 T.a_law_names T.d_law_names ["_law_d", "_law_many"] spNames := ok_names T
  have G_law_world : FnOk P w K mg base CX0 14 T.a_law_world T.d_law_world ["_law_d", "_law_many", "_law_pool", "_law_deep_here", "_law_odd"] spWorld := ok_world T
  have G_law_chain : FnOk P w K mg base CX0 23 T.a_law_chain T.d_law_chain ["_law_d", "_law_many"] spChain := ok_chain T
  have G_law_nesting : FnOk P w K mg base CX0 23 T.a_law_nesting T.d_law_nesting ["_law_tree_here"] spNest := ok_law_nesting T
  have G_law_told : FnOk P w K mg base CX0 49 T.a_law_told T.d_law_told ["_law_tree_here"] spTold := ok_told T
  have G_law_fault : FnOk P w K mg base CX0 42 T.a_law_fault T.d_law_fault ["_law_tree_here"] spFault := ok_fault T
  refine T.D_law.F.ok sc_law (fun vs H Q E h => ?_) (fun cdv A outer s H vs Q E hr h => ?_)
  · obtain ⟨a, ns, rfl, _⟩ := h
    rfl
  · obtain ⟨a, ns, rfl, hS, hl, q⟩ := h
    have hu := Room.units hr
    refine ⟨_, (pss_cons (ps_set (i := 1) sc_law.nd rfl (.inl rfl) (pe_call G_law_begin (hr.mono (by decide)) (by rfl) T.D_law_begin.G T.D_law_begin.F.kp T.D_law_begin.B .nil pass0 (pa_cons (pv 0) pa_nil)))
      (pss_cons (ps_set (i := 2) sc_law.nd rfl (.inl rfl) (pe_call G_law_names (hr.mono (by decide)) (by rfl) T.D_law_names.G T.D_law_names.F.kp T.D_law_names.B .nil pass0 (pa_cons (pv 1) (pa_cons pe_int pa_nil))))
      (pss_cons (ps_set (i := 3) sc_law.nd rfl (.inl rfl) (pe_lst pa_nil))
      (pss_cons (ps_for PassesOwn.never rfl (pi_range1 (by rfl) T.n_range (pa_cons pe_int pa_nil)) (pg_name (i := 4) sc_law.nd rfl (.inl rfl)) (pss_one (ps_if (pt_cmpR op_eq (pe_call G_law_draw (hr.mono (by decide)) (by rfl) T.D_law_draw.G T.D_law_draw.F.kp T.D_law_draw.B .nil pass0 (pa_cons (pv 1) (pa_cons pe_int pa_nil))) pe_int (nomark _)) (pss_one (ps_expr (pe_bm PySem.F.plainAttrs_list PySem.F.slot_list_append PySem.F.type_list_append mt_append (pv 3) (pa_cons (pe_call G_law_chain (hr.mono (by decide)) (by rfl) T.D_law_chain.G T.D_law_chain.F.kp T.D_law_chain.B .nil pass0 (pa_cons (pv 1) (pa_cons (PE.to (t' := tM40) (pe_ifExp (pt_val (pe_call G_law_rare (hr.mono (by decide)) (by rfl) T.D_law_rare.G T.D_law_rare.F.kp T.D_law_rare.B .nil pass0 (pa_cons (pv 1) (pa_cons pe_int pa_nil)))) pe_int (pe_op op_add pe_int (pe_call G_law_draw (hr.mono (by decide)) (by rfl) T.D_law_draw.G T.D_law_draw.F.kp T.D_law_draw.B .nil pass0 (pa_cons (pv 1) (pa_cons pe_int pa_nil))))) (fun σ H Q h => by obtain ⟨d, l, hs, hD, q⟩ := h; refine ⟨_, hs, d, l, 8, rfl, hD, by decide, fun H2 b K2 D2 => ⟨b, rfl, ?_⟩⟩; cases b; exact ⟨_, hs, d, l, 12, rfl, D2, by decide, fun H3 r K3 D3 _ r2 => ⟨_, _, rfl, rfl, q H3 (1 + r) (K2.trans K3) D3 (by have := (r2 (by decide)).1; omega) (by have := (r2 (by decide)).2; omega)⟩⟩; exact q H2 40 K2 D2 (by decide) (by decide))) pa_nil))) pa_nil)))) (pss_cons (ps_set (i := 5) sc_law.nd rfl (.inl rfl) (pe_call G_law_pick (hr.mono (by decide)) (by rfl) T.D_law_pick.G T.D_law_pick.F.kp T.D_law_pick.B .nil pass0 (pa_cons (pv 1) (pa_cons (pe_lst (pa_cons pe_int (pa_cons pe_int (pa_cons pe_int (pa_cons pe_int pa_nil))))) pa_nil))))
      (pss_one (ps_expr (pe_bm PySem.F.plainAttrs_list PySem.F.slot_list_append PySem.F.type_list_append mt_append (pv 3) (pa_cons (pe_callTy call_tuple_of (by rfl) T.n_tuple (by decide +kernel) (pa_cons (pe_call G_law_world (hr.mono (by decide)) (by rfl) T.D_law_world.G T.D_law_world.F.kp T.D_law_world.B .nil pass0 (pa_cons (pv 1) (pa_cons (pe_call G_law_draw (hr.mono (by decide)) (by rfl) T.D_law_draw.G T.D_law_draw.F.kp T.D_law_draw.B .nil pass0 (pa_cons (pv 1) (pa_cons pe_int pa_nil))) (pa_cons (pv 2) (pa_cons pe_int (pa_cons (pv 5) pa_nil)))))) pa_nil)) pa_nil))))))))
      (pss_cons (ps_for PassesOwn.never rfl (pi_list (pe_op op_cat (pv 3) (pe_slice sl_list (pv 3) po_none (po_some pe_int)))) (pg_name (i := 6) sc_law.nd rfl (.inl rfl)) (pss_cons (ps_set (i := 7) sc_law.nd rfl (.inl rfl) (pe_call G_law_fault (hr.mono (by decide)) (by rfl) T.D_law_fault.G T.D_law_fault.F.kp T.D_law_fault.B .nil pass0 (pa_cons (pv 6) pa_nil)))
      (pss_cons (ps_if (pt_cmpR op_isN (pv 7) pe_non (nomark _)) (pss_one (ps_set (i := 7) sc_law.nd rfl (.inl rfl) (pe_tup (pa_cons pe_str (pa_cons (pe_call G_law_nesting (hr.mono (by decide)) (by rfl) T.D_law_nesting.G T.D_law_nesting.F.kp T.D_law_nesting.B .nil pass0 (pa_cons (pv 6) pa_nil)) pa_nil))))) pss_nil)
      (pss_one (ps_if (pt_cmpR (op_neD hu) (pe_call G_law_told (hr.mono (by decide)) (by rfl) T.D_law_told.G T.D_law_told.F.kp T.D_law_told.B .nil pass0 (pa_cons (pv 6) pa_nil)) (pv 7) (nomark _)) (pss_one (ps_ret pe_bl)) pss_nil)))))
      (pss_one (ps_ret pe_bl))))))), ?_⟩
    refine ⟨_, rfl, a, ns, rfl, hS, hl, fun H1 d l s1 D1 => ?_⟩
    refine ⟨_, rfl, d, l, rfl, D1, fun H2 po zs K2 D2 npo epo zl zn zo => ?_⟩
    have pod := (D1.nd npo).1
    refine ⟨by show 0 ≤ sizeLine; decide, fun L nL => ?_⟩
    have ndL := D2.nd nL
    have nPL : po ≠ L := fun z => by rw [z, nL] at epo; cases epo
    have epoL : upd H2 L (.lst []) po = some (.lst (zs.map sV)) := by rw [upd_ne nPL]; exact epo
    refine ⟨_, rfl, by decide, by decide, ?_⟩
    refine for_range (lo := 0) (n := ((2 : Int)).toNat) (fun i σ' H' => ∃ (vs : List V) (x4 x5 x6 x7 : Option V), σ' = [some (.ref a), some (.ref d), some (.ref po), some (.ref L), x4, x5, x6, x7] ∧ DI d l H' ∧ H' po = some (.lst (zs.map sV)) ∧ H' L = some (.lst vs) ∧ (∀ v ∈ vs, WL H' v) ∧ vs.length = i)
      ⟨[], none, none, none, none, rfl, D2.new nL, epoL, upd_same, (fun _ h => nomatch h), rfl⟩ ?_ ?_
    · rintro i σ' H3 hi ⟨vs, x4, x5, x6, x7, rfl, D3, epo3, eL3, hvs, vl⟩
      refine ⟨_, rfl, d, l, _, rfl, D3, by decide, fun H4 r K4 D4 _ r2 => ⟨rfl, decide (r = 1), ?_, ?_⟩⟩
      · exact congrArg V.bl (decide_eq_decide.mpr ⟨fun e => V.int.inj e, fun e => by rw [e]⟩)
      refine ite2 (fun _ => ?_) (fun _ => ?_)
      · refine ⟨_, rfl, .inl ⟨rfl, _, SqL.of (K4 _ _ ndL.1 eL3)⟩, _, rfl, d, l, rfl, D4, fun H5 m K5 D5 m1 m40 => ?_⟩
        obtain ⟨m, rfl⟩ := Int.eq_ofNat_of_zero_le (show 0 ≤ m by omega)
        refine ⟨d, l, m, rfl, D5, by omega, by omega, fun H6 p us t K6 D6 ep hR ul dt bt lt hg => ?_⟩
        have K36 := (K4.trans K5).trans K6
        have eL6 := K36 _ _ ndL.1 eL3
        have tm := TKeep.mut (o := .lst (vs ++ [.ref p])) eL6
        refine ⟨L, vs, .ref p, rfl, rfl, eL6, lt_size (by omega), ?_⟩
        refine ⟨vs ++ [.ref p], _, _, _, _, rfl, D6.at ndL.1 ndL.2, by rw [upd_ne nPL]; exact K36 _ _ pod epo3, upd_same, fun v hv => ?_, by rw [List.length_append, vl]; rfl⟩
        rcases List.mem_append.mp hv with h | h
        · exact (hvs v h).keep ((TKeep.kp K36 D3).trans tm)
        · rw [List.mem_singleton.mp h]
          exact ⟨p, us, rfl, tm _ _ ep, t, hR.keep tm, by omega, dt, bt, by omega, hg⟩
      · refine ⟨_, rfl, by show 4 ≤ sizeLine; decide, fun p0 n0 => ?_⟩
        refine ⟨d, l, _, _, rfl, D4.new n0, .inl ⟨p0, rfl, (D4.nd n0).1, SqL.of upd_same⟩, by show 0 < 4; decide, by show 4 ≤ 1000; decide, fun H5 v K5 D5 hv => ?_⟩
        have K35 := (K4.new n0).trans K5
        obtain ⟨odd, rfl, o0, o1⟩ : ∃ odd : Int, v = .int odd ∧ 0 ≤ odd ∧ odd ≤ 1000 := by
          simp only [List.mem_cons, List.not_mem_nil, or_false] at hv
          rcases hv with rfl | rfl | rfl | rfl <;> exact ⟨_, rfl, by decide, by decide⟩
        have eL5 := K35 _ _ ndL.1 eL3
        refine ⟨_, rfl, .inl ⟨rfl, _, SqL.of eL5⟩, _, rfl, _, rfl, d, l, _, rfl, D5, by decide, fun H6 r K6 D6 _ r2 => ?_⟩
        obtain ⟨r0, r7⟩ := r2 (by decide)
        obtain ⟨m, rfl⟩ := Int.eq_ofNat_of_zero_le r0
        have K36 := K35.trans K6
        have epo6 := K36 _ _ pod epo3
        refine ⟨_, rfl, _, rfl, d, l, po, zs, m, odd, rfl, D6, by omega, ⟨pod, epo6, by omega, zo⟩, zl, zn, o0, o1, fun H7 N us K7 D7 nN eN hus ul => ?_⟩
        have K37 := K36.trans K7
        obtain ⟨t, hR, hd, hB, hl, hm, hn, hw, he⟩ := ln_tr2 hus
        refine ⟨N, us, rfl, .inl ⟨SqL.of eN, fun p np => ?_⟩⟩
        have tp := TKeep.new (o := .tup us) np
        have sp := same_upd (o := .tup us) (Same.refl H7) np
        have ep : upd H7 p (.tup us) p = some (.tup us) := upd_same
        have eLp := sp _ _ (K37 _ _ ndL.1 eL3)
        have epop := sp _ _ (K37 _ _ pod epo3)
        have Dp := D7.new (o := .tup us) np
        generalize upd H7 p (.tup us) = H8 at tp sp ep eLp epop Dp ⊢
        have tm := TKeep.mut (o := .lst (vs ++ [.ref p])) eLp
        refine ⟨L, vs, .ref p, rfl, rfl, eLp, lt_size (by omega), ?_⟩
        refine ⟨vs ++ [.ref p], _, _, _, _, rfl, Dp.at ndL.1 ndL.2, by rw [upd_ne nPL]; exact epop, upd_same, fun v hv => ?_, by rw [List.length_append, vl]; rfl⟩
        rcases List.mem_append.mp hv with h | h
        · exact (hvs v h).keep (((TKeep.kp K37 D3).trans tp).trans tm)
        · rw [List.mem_singleton.mp h]
          have l7 : us.length * 2100 ≤ 7 * 2100 := Nat.mul_le_mul_right _ (by omega)
          exact ⟨p, us, rfl, tm _ _ ep, t, hR.keep (tp.trans tm), by omega, hd, hB, by omega, fun hc => grow_world hc hm (by omega) (by omega) he⟩
    · rintro σ' H3 ⟨vs, x4, x5, x6, x7, rfl, D3, epo3, eL3, hvs, vl⟩
      refine ⟨_, rfl, _, rfl, _, rfl, ⟨L, vs, rfl, SqL.of eL3, fun B nB => ?_⟩⟩
      have sB := same_upd (o := .lst (cutV vs none (some 1))) (Same.refl H3) nB
      have cl := cutV_length vs none (some 1)
      have eL4 := sB _ _ eL3
      refine ⟨L, B, vs, cutV vs none (some 1), rfl, rfl, eL4, upd_same, Nat.le_of_lt (lt_size (by omega)), fun C nC => ?_⟩
      have sC := sB.trans (same_upd (o := .lst (vs ++ cutV vs none (some 1))) (Same.refl _) nC)
      have eC : (upd (upd H3 B (.lst (cutV vs none (some 1)))) C (.lst (vs ++ cutV vs none (some 1)))) C = some (.lst (vs ++ cutV vs none (some 1))) := upd_same
      have hall : ∀ v ∈ vs ++ cutV vs none (some 1), WL H3 v := fun v hv => by
        rcases List.mem_append.mp hv with h | h
        · exact hvs v h
        · exact hvs v (cut_sub v h)
      generalize upd (upd H3 B (.lst (cutV vs none (some 1)))) C (.lst (vs ++ cutV vs none (some 1))) = H4 at sC eC ⊢
      refine ⟨C, rfl, ⟨_, SqL.of eC⟩, ?_⟩
      refine for_list (K := K) (a := C) (xs := vs ++ cutV vs none (some 1)) (fun i σ' H' => ∃ x6 x7 : Option V, σ' = [some (.ref a), some (.ref d), some (.ref po), some (.ref L), x4, x5, x6, x7] ∧ Same H4 H') ⟨_, _, rfl, Same.refl _⟩
        (fun i σ' H' _ h => by
          obtain ⟨_, _, _, s5⟩ := h
          exact SqL.of (s5 _ _ eC)) ?_ ?_
      · rintro i x σ' H5 hx ⟨x6, x7, rfl, s5⟩
        obtain ⟨p, us, rfl, ep, t, hR, ul, hd, hB, hl, hg⟩ := (hall _ (List.mem_of_getElem? hx)).keep (TKeep.same (sC.trans s5))
        have hB2 := BT.mono (show 100 ≤ 1000 by decide) hB
        refine ⟨_, rfl, p, us, t, rfl, ep, hR, by omega, hB2, by omega, fun H6 x1 s6 f1 => ?_⟩
        refine ⟨_, rfl, ?_⟩
        cases hc : chk t [] with
        | none =>
          rw [hc] at f1
          have f1 : x1 = .non := f1
          subst f1
          refine ⟨rfl, true, congrArg V.bl (decide_eq_true rfl), ?_⟩
          obtain ⟨B0, g1, g2, g3, g4⟩ := hg hc
          refine ⟨_, rfl, p, us, t, B0, rfl, s6 _ _ ep, hR.keep (TKeep.same s6), hc, g1, g2, g3, g4, fun H7 s7 => ⟨by show 2 ≤ sizeLine; decide, fun c nc => ?_⟩⟩
          have sc := same_upd (o := .tup [V.str "nesting", V.int (Vf.ndL t [])]) (Same.refl H7) nc
          have ec : upd H7 c (.tup [V.str "nesting", V.int (Vf.ndL t [])]) c = some (.tup [V.str "nesting", V.int (Vf.ndL t [])]) := upd_same
          have s57 := (s6.trans s7).trans sc
          generalize upd H7 c (.tup [V.str "nesting", V.int (Vf.ndL t [])]) = H8 at sc ec s57 ⊢
          refine ⟨_, rfl, p, us, t, rfl, s57 _ _ ep, hR.keep (TKeep.same s57), ul, by omega, hB2, by omega, hg, fun H9 x2 s9 f2 => ?_⟩
          refine ⟨_, rfl, ne_len hc f2 ⟨c, rfl, s9 _ _ ec⟩ ⟨false, rfl, ?_⟩⟩
          exact ⟨_, _, rfl, (s5.trans s57).trans s9⟩
        | some f =>
          rw [hc] at f1
          have f1 : FV H6 x1 f := f1
          obtain ⟨pf, rfl, epf⟩ := f1
          refine ⟨rfl, false, congrArg V.bl (decide_eq_false (fun z => by cases z)), ?_⟩
          refine ⟨_, rfl, p, us, t, rfl, s6 _ _ ep, hR.keep (TKeep.same s6), ul, by omega, hB2, by omega, hg, fun H7 x2 s7 f2 => ?_⟩
          refine ⟨_, rfl, ne_fau hc f2 ⟨pf, rfl, s7 _ _ epf⟩ (chk_low hB hc) ⟨false, rfl, ?_⟩⟩
          exact ⟨_, _, rfl, (s5.trans s6).trans s7⟩
      · rintro σ' H5 ⟨x6, x7, rfl, s5⟩
        exact q _
end
theorem all_mk {l : PySem.W.OpenLaw} {w : World} {K : PySem.W.Frag} {h : Heap} {mg : Str → Option Value} {fa : Addr} (X : K.In h) (G : h.Ns mainGlobals mg) (hfa : mg "law" = some (.ref fa))
    {f_is_name : Addr} {od_is_name an_is_name : Option Addr} {sl_is_name : Array (Option Value)} {oc_is_name kV_is_name dc_is_name pm_is_name cd_is_name ct_is_name : Value}
    (a_is_name : PySem.W.nsIn K mainGlobals "is_name" = some (some (.ref f_is_name))) (l_is_name : K.lookup f_is_name = some ⟨oc_is_name, od_is_name, .func (PySem.W.fnOf "is_name" "is_name" (defArgs s_is_name) (defBody s_is_name) (defScope s_is_name) .none kV_is_name dc_is_name pm_is_name an_is_name cd_is_name ct_is_name), sl_is_name⟩) (c_is_name : PySem.W.codeIn K cd_is_name "is_name" = true) (k_is_name : PySem.W.keepIn K (.ref f_is_name) = true)
    {f_consists_of : Addr} {od_consists_of an_consists_of : Option Addr} {sl_consists_of : Array (Option Value)} {oc_consists_of kV_consists_of dc_consists_of pm_consists_of cd_consists_of ct_consists_of : Value}
    (a_consists_of : PySem.W.nsIn K mainGlobals "consists_of" = some (some (.ref f_consists_of))) (l_consists_of : K.lookup f_consists_of = some ⟨oc_consists_of, od_consists_of, .func (PySem.W.fnOf "consists_of" "consists_of" (defArgs s_consists_of) (defBody s_consists_of) (defScope s_consists_of) .none kV_consists_of dc_consists_of pm_consists_of an_consists_of cd_consists_of ct_consists_of), sl_consists_of⟩) (c_consists_of : PySem.W.codeIn K cd_consists_of "consists_of" = true) (k_consists_of : PySem.W.keepIn K (.ref f_consists_of) = true)
    {f_run_end : Addr} {od_run_end an_run_end : Option Addr} {sl_run_end : Array (Option Value)} {oc_run_end kV_run_end dc_run_end pm_run_end cd_run_end ct_run_end : Value}
    (a_run_end : PySem.W.nsIn K mainGlobals "_run_end" = some (some (.ref f_run_end))) (l_run_end : K.lookup f_run_end = some ⟨oc_run_end, od_run_end, .func (PySem.W.fnOf "_run_end" "_run_end" (defArgs s_run_end) (defBody s_run_end) (defScope s_run_end) .none kV_run_end dc_run_end pm_run_end an_run_end cd_run_end ct_run_end), sl_run_end⟩) (c_run_end : PySem.W.codeIn K cd_run_end "_run_end" = true) (k_run_end : PySem.W.keepIn K (.ref f_run_end) = true)
    {f_check_macros : Addr} {od_check_macros an_check_macros : Option Addr} {sl_check_macros : Array (Option Value)} {oc_check_macros kV_check_macros dc_check_macros pm_check_macros cd_check_macros ct_check_macros : Value}
    (a_check_macros : PySem.W.nsIn K mainGlobals "check_macros" = some (some (.ref f_check_macros))) (l_check_macros : K.lookup f_check_macros = some ⟨oc_check_macros, od_check_macros, .func (PySem.W.fnOf "check_macros" "check_macros" (defArgs s_check_macros) (defBody s_check_macros) (defScope s_check_macros) .none kV_check_macros dc_check_macros pm_check_macros an_check_macros cd_check_macros ct_check_macros), sl_check_macros⟩) (c_check_macros : PySem.W.codeIn K cd_check_macros "check_macros" = true) (k_check_macros : PySem.W.keepIn K (.ref f_check_macros) = true)
    {f_nesting_of : Addr} {od_nesting_of an_nesting_of : Option Addr} {sl_nesting_of : Array (Option Value)} {oc_nesting_of kV_nesting_of dc_nesting_of pm_nesting_of cd_nesting_of ct_nesting_of : Value}
    (a_nesting_of : PySem.W.nsIn K mainGlobals "nesting_of" = some (some (.ref f_nesting_of))) (l_nesting_of : K.lookup f_nesting_of = some ⟨oc_nesting_of, od_nesting_of, .func (PySem.W.fnOf "nesting_of" "nesting_of" (defArgs s_nesting_of) (defBody s_nesting_of) (defScope s_nesting_of) .none kV_nesting_of dc_nesting_of pm_nesting_of an_nesting_of cd_nesting_of ct_nesting_of), sl_nesting_of⟩) (c_nesting_of : PySem.W.codeIn K cd_nesting_of "nesting_of" = true) (k_nesting_of : PySem.W.keepIn K (.ref f_nesting_of) = true)
    {f_is_definition : Addr} {od_is_definition an_is_definition : Option Addr} {sl_is_definition : Array (Option Value)} {oc_is_definition kV_is_definition dc_is_definition pm_is_definition cd_is_definition ct_is_definition : Value}
    (a_is_definition : PySem.W.nsIn K mainGlobals "_is_definition" = some (some (.ref f_is_definition))) (l_is_definition : K.lookup f_is_definition = some ⟨oc_is_definition, od_is_definition, .func (PySem.W.fnOf "_is_definition" "_is_definition" (defArgs s_is_definition) (defBody s_is_definition) (defScope s_is_definition) .none kV_is_definition dc_is_definition pm_is_definition an_is_definition cd_is_definition ct_is_definition), sl_is_definition⟩) (c_is_definition : PySem.W.codeIn K cd_is_definition "_is_definition" = true) (k_is_definition : PySem.W.keepIn K (.ref f_is_definition) = true)
    {f_without_definitions : Addr} {od_without_definitions an_without_definitions : Option Addr} {sl_without_definitions : Array (Option Value)} {oc_without_definitions kV_without_definitions dc_without_definitions pm_without_definitions cd_without_definitions ct_without_definitions : Value}
    (a_without_definitions : PySem.W.nsIn K mainGlobals "_without_definitions" = some (some (.ref f_without_definitions))) (l_without_definitions : K.lookup f_without_definitions = some ⟨oc_without_definitions, od_without_definitions, .func (PySem.W.fnOf "_without_definitions" "_without_definitions" (defArgs s_without_definitions) (defBody s_without_definitions) (defScope s_without_definitions) .none kV_without_definitions dc_without_definitions pm_without_definitions an_without_definitions cd_without_definitions ct_without_definitions), sl_without_definitions⟩) (c_without_definitions : PySem.W.codeIn K cd_without_definitions "_without_definitions" = true) (k_without_definitions : PySem.W.keepIn K (.ref f_without_definitions) = true)
    {f_check_definition : Addr} {od_check_definition an_check_definition : Option Addr} {sl_check_definition : Array (Option Value)} {oc_check_definition kV_check_definition dc_check_definition pm_check_definition cd_check_definition ct_check_definition : Value}
    (a_check_definition : PySem.W.nsIn K mainGlobals "_check_definition" = some (some (.ref f_check_definition))) (l_check_definition : K.lookup f_check_definition = some ⟨oc_check_definition, od_check_definition, .func (PySem.W.fnOf "_check_definition" "_check_definition" (defArgs s_check_definition) (defBody s_check_definition) (defScope s_check_definition) .none kV_check_definition dc_check_definition pm_check_definition an_check_definition cd_check_definition ct_check_definition), sl_check_definition⟩) (c_check_definition : PySem.W.codeIn K cd_check_definition "_check_definition" = true) (k_check_definition : PySem.W.keepIn K (.ref f_check_definition) = true)
    {f_names_of : Addr} {od_names_of an_names_of : Option Addr} {sl_names_of : Array (Option Value)} {oc_names_of kV_names_of dc_names_of pm_names_of cd_names_of ct_names_of : Value}
    (a_names_of : PySem.W.nsIn K mainGlobals "_names_of" = some (some (.ref f_names_of))) (l_names_of : K.lookup f_names_of = some ⟨oc_names_of, od_names_of, .func (PySem.W.fnOf "_names_of" "_names_of" (defArgs s_names_of) (defBody s_names_of) (defScope s_names_of) .none kV_names_of dc_names_of pm_names_of an_names_of cd_names_of ct_names_of), sl_names_of⟩) (c_names_of : PySem.W.codeIn K cd_names_of "_names_of" = true) (k_names_of : PySem.W.keepIn K (.ref f_names_of) = true)
    {f_may_name : Addr} {od_may_name an_may_name : Option Addr} {sl_may_name : Array (Option Value)} {oc_may_name kV_may_name dc_may_name pm_may_name cd_may_name ct_may_name : Value}
    (a_may_name : PySem.W.nsIn K mainGlobals "_may_name" = some (some (.ref f_may_name))) (l_may_name : K.lookup f_may_name = some ⟨oc_may_name, od_may_name, .func (PySem.W.fnOf "_may_name" "_may_name" (defArgs s_may_name) (defBody s_may_name) (defScope s_may_name) .none kV_may_name dc_may_name pm_may_name an_may_name cd_may_name ct_may_name), sl_may_name⟩) (c_may_name : PySem.W.codeIn K cd_may_name "_may_name" = true) (k_may_name : PySem.W.keepIn K (.ref f_may_name) = true)
    {f_check_node : Addr} {od_check_node an_check_node : Option Addr} {sl_check_node : Array (Option Value)} {oc_check_node kV_check_node dc_check_node pm_check_node cd_check_node ct_check_node : Value}
    (a_check_node : PySem.W.nsIn K mainGlobals "_check_node" = some (some (.ref f_check_node))) (l_check_node : K.lookup f_check_node = some ⟨oc_check_node, od_check_node, .func (PySem.W.fnOf "_check_node" "_check_node" (defArgs s_check_node) (defBody s_check_node) (defScope s_check_node) .none kV_check_node dc_check_node pm_check_node an_check_node cd_check_node ct_check_node), sl_check_node⟩) (c_check_node : PySem.W.codeIn K cd_check_node "_check_node" = true) (k_check_node : PySem.W.keepIn K (.ref f_check_node) = true)
    {f_macros_of : Addr} {od_macros_of an_macros_of : Option Addr} {sl_macros_of : Array (Option Value)} {oc_macros_of kV_macros_of dc_macros_of pm_macros_of cd_macros_of ct_macros_of : Value}
    (a_macros_of : PySem.W.nsIn K mainGlobals "_macros_of" = some (some (.ref f_macros_of))) (l_macros_of : K.lookup f_macros_of = some ⟨oc_macros_of, od_macros_of, .func (PySem.W.fnOf "_macros_of" "_macros_of" (defArgs s_macros_of) (defBody s_macros_of) (defScope s_macros_of) .none kV_macros_of dc_macros_of pm_macros_of an_macros_of cd_macros_of ct_macros_of), sl_macros_of⟩) (c_macros_of : PySem.W.codeIn K cd_macros_of "_macros_of" = true) (k_macros_of : PySem.W.keepIn K (.ref f_macros_of) = true)
    {f_expansion_size : Addr} {od_expansion_size an_expansion_size : Option Addr} {sl_expansion_size : Array (Option Value)} {oc_expansion_size kV_expansion_size dc_expansion_size pm_expansion_size cd_expansion_size ct_expansion_size : Value}
    (a_expansion_size : PySem.W.nsIn K mainGlobals "_expansion_size" = some (some (.ref f_expansion_size))) (l_expansion_size : K.lookup f_expansion_size = some ⟨oc_expansion_size, od_expansion_size, .func (PySem.W.fnOf "_expansion_size" "_expansion_size" (defArgs s_expansion_size) (defBody s_expansion_size) (defScope s_expansion_size) .none kV_expansion_size dc_expansion_size pm_expansion_size an_expansion_size cd_expansion_size ct_expansion_size), sl_expansion_size⟩) (c_expansion_size : PySem.W.codeIn K cd_expansion_size "_expansion_size" = true) (k_expansion_size : PySem.W.keepIn K (.ref f_expansion_size) = true)
    {f_sizes_of : Addr} {od_sizes_of an_sizes_of : Option Addr} {sl_sizes_of : Array (Option Value)} {oc_sizes_of kV_sizes_of dc_sizes_of pm_sizes_of cd_sizes_of ct_sizes_of : Value}
    (a_sizes_of : PySem.W.nsIn K mainGlobals "_sizes_of" = some (some (.ref f_sizes_of))) (l_sizes_of : K.lookup f_sizes_of = some ⟨oc_sizes_of, od_sizes_of, .func (PySem.W.fnOf "_sizes_of" "_sizes_of" (defArgs s_sizes_of) (defBody s_sizes_of) (defScope s_sizes_of) .none kV_sizes_of dc_sizes_of pm_sizes_of an_sizes_of cd_sizes_of ct_sizes_of), sl_sizes_of⟩) (c_sizes_of : PySem.W.codeIn K cd_sizes_of "_sizes_of" = true) (k_sizes_of : PySem.W.keepIn K (.ref f_sizes_of) = true)
    {f_size : Addr} {od_size an_size : Option Addr} {sl_size : Array (Option Value)} {oc_size kV_size dc_size pm_size cd_size ct_size : Value}
    (a_size : PySem.W.nsIn K mainGlobals "_size" = some (some (.ref f_size))) (l_size : K.lookup f_size = some ⟨oc_size, od_size, .func (PySem.W.fnOf "_size" "_size" (defArgs s_size) (defBody s_size) (defScope s_size) .none kV_size dc_size pm_size an_size cd_size ct_size), sl_size⟩) (c_size : PySem.W.codeIn K cd_size "_size" = true) (k_size : PySem.W.keepIn K (.ref f_size) = true)
    {f_node_size : Addr} {od_node_size an_node_size : Option Addr} {sl_node_size : Array (Option Value)} {oc_node_size kV_node_size dc_node_size pm_node_size cd_node_size ct_node_size : Value}
    (a_node_size : PySem.W.nsIn K mainGlobals "_node_size" = some (some (.ref f_node_size))) (l_node_size : K.lookup f_node_size = some ⟨oc_node_size, od_node_size, .func (PySem.W.fnOf "_node_size" "_node_size" (defArgs s_node_size) (defBody s_node_size) (defScope s_node_size) .none kV_node_size dc_node_size pm_node_size an_node_size cd_node_size ct_node_size), sl_node_size⟩) (c_node_size : PySem.W.codeIn K cd_node_size "_node_size" = true) (k_node_size : PySem.W.keepIn K (.ref f_node_size) = true)
    {f_built_in_size : Addr} {od_built_in_size an_built_in_size : Option Addr} {sl_built_in_size : Array (Option Value)} {oc_built_in_size kV_built_in_size dc_built_in_size pm_built_in_size cd_built_in_size ct_built_in_size : Value}
    (a_built_in_size : PySem.W.nsIn K mainGlobals "_built_in_size" = some (some (.ref f_built_in_size))) (l_built_in_size : K.lookup f_built_in_size = some ⟨oc_built_in_size, od_built_in_size, .func (PySem.W.fnOf "_built_in_size" "_built_in_size" (defArgs s_built_in_size) (defBody s_built_in_size) (defScope s_built_in_size) .none kV_built_in_size dc_built_in_size pm_built_in_size an_built_in_size cd_built_in_size ct_built_in_size), sl_built_in_size⟩) (c_built_in_size : PySem.W.codeIn K cd_built_in_size "_built_in_size" = true) (k_built_in_size : PySem.W.keepIn K (.ref f_built_in_size) = true)
    {f_put_at : Addr} {od_put_at an_put_at : Option Addr} {sl_put_at : Array (Option Value)} {oc_put_at kV_put_at dc_put_at pm_put_at cd_put_at ct_put_at : Value}
    (a_put_at : PySem.W.nsIn K mainGlobals "_put_at" = some (some (.ref f_put_at))) (l_put_at : K.lookup f_put_at = some ⟨oc_put_at, od_put_at, .func (PySem.W.fnOf "_put_at" "_put_at" (defArgs s_put_at) (defBody s_put_at) (defScope s_put_at) .none kV_put_at dc_put_at pm_put_at an_put_at cd_put_at ct_put_at), sl_put_at⟩) (c_put_at : PySem.W.codeIn K cd_put_at "_put_at" = true) (k_put_at : PySem.W.keepIn K (.ref f_put_at) = true)
    {f_beside : Addr} {od_beside an_beside : Option Addr} {sl_beside : Array (Option Value)} {oc_beside kV_beside dc_beside pm_beside cd_beside ct_beside : Value}
    (a_beside : PySem.W.nsIn K mainGlobals "_beside" = some (some (.ref f_beside))) (l_beside : K.lookup f_beside = some ⟨oc_beside, od_beside, .func (PySem.W.fnOf "_beside" "_beside" (defArgs s_beside) (defBody s_beside) (defScope s_beside) .none kV_beside dc_beside pm_beside an_beside cd_beside ct_beside), sl_beside⟩) (c_beside : PySem.W.codeIn K cd_beside "_beside" = true) (k_beside : PySem.W.keepIn K (.ref f_beside) = true)
    {f_law_begin : Addr} {od_law_begin an_law_begin : Option Addr} {sl_law_begin : Array (Option Value)} {oc_law_begin kV_law_begin dc_law_begin pm_law_begin cd_law_begin ct_law_begin : Value}
    (a_law_begin : PySem.W.nsIn K mainGlobals "_law_begin" = some (some (.ref f_law_begin))) (l_law_begin : K.lookup f_law_begin = some ⟨oc_law_begin, od_law_begin, .func (PySem.W.fnOf "_law_begin" "_law_begin" (defArgs s_law_begin) (defBody s_law_begin) (defScope s_law_begin) .none kV_law_begin dc_law_begin pm_law_begin an_law_begin cd_law_begin ct_law_begin), sl_law_begin⟩) (c_law_begin : PySem.W.codeIn K cd_law_begin "_law_begin" = true) (k_law_begin : PySem.W.keepIn K (.ref f_law_begin) = true)
    {f_law_draw : Addr} {od_law_draw an_law_draw : Option Addr} {sl_law_draw : Array (Option Value)} {oc_law_draw kV_law_draw dc_law_draw pm_law_draw cd_law_draw ct_law_draw : Value}
    (a_law_draw : PySem.W.nsIn K mainGlobals "_law_draw" = some (some (.ref f_law_draw))) (l_law_draw : K.lookup f_law_draw = some ⟨oc_law_draw, od_law_draw, .func (PySem.W.fnOf "_law_draw" "_law_draw" (defArgs s_law_draw) (defBody s_law_draw) (defScope s_law_draw) .none kV_law_draw dc_law_draw pm_law_draw an_law_draw cd_law_draw ct_law_draw), sl_law_draw⟩) (c_law_draw : PySem.W.codeIn K cd_law_draw "_law_draw" = true) (k_law_draw : PySem.W.keepIn K (.ref f_law_draw) = true)
    {f_law_pick : Addr} {od_law_pick an_law_pick : Option Addr} {sl_law_pick : Array (Option Value)} {oc_law_pick kV_law_pick dc_law_pick pm_law_pick cd_law_pick ct_law_pick : Value}
    (a_law_pick : PySem.W.nsIn K mainGlobals "_law_pick" = some (some (.ref f_law_pick))) (l_law_pick : K.lookup f_law_pick = some ⟨oc_law_pick, od_law_pick, .func (PySem.W.fnOf "_law_pick" "_law_pick" (defArgs s_law_pick) (defBody s_law_pick) (defScope s_law_pick) .none kV_law_pick dc_law_pick pm_law_pick an_law_pick cd_law_pick ct_law_pick), sl_law_pick⟩) (c_law_pick : PySem.W.codeIn K cd_law_pick "_law_pick" = true) (k_law_pick : PySem.W.keepIn K (.ref f_law_pick) = true)
    {f_law_rare : Addr} {od_law_rare an_law_rare : Option Addr} {sl_law_rare : Array (Option Value)} {oc_law_rare kV_law_rare dc_law_rare pm_law_rare cd_law_rare ct_law_rare : Value}
    (a_law_rare : PySem.W.nsIn K mainGlobals "_law_rare" = some (some (.ref f_law_rare))) (l_law_rare : K.lookup f_law_rare = some ⟨oc_law_rare, od_law_rare, .func (PySem.W.fnOf "_law_rare" "_law_rare" (defArgs s_law_rare) (defBody s_law_rare) (defScope s_law_rare) .none kV_law_rare dc_law_rare pm_law_rare an_law_rare cd_law_rare ct_law_rare), sl_law_rare⟩) (c_law_rare : PySem.W.codeIn K cd_law_rare "_law_rare" = true) (k_law_rare : PySem.W.keepIn K (.ref f_law_rare) = true)
    {f_law_shuffled : Addr} {od_law_shuffled an_law_shuffled : Option Addr} {sl_law_shuffled : Array (Option Value)} {oc_law_shuffled kV_law_shuffled dc_law_shuffled pm_law_shuffled cd_law_shuffled ct_law_shuffled : Value}
    (a_law_shuffled : PySem.W.nsIn K mainGlobals "_law_shuffled" = some (some (.ref f_law_shuffled))) (l_law_shuffled : K.lookup f_law_shuffled = some ⟨oc_law_shuffled, od_law_shuffled, .func (PySem.W.fnOf "_law_shuffled" "_law_shuffled" (defArgs s_law_shuffled) (defBody s_law_shuffled) (defScope s_law_shuffled) .none kV_law_shuffled dc_law_shuffled pm_law_shuffled an_law_shuffled cd_law_shuffled ct_law_shuffled), sl_law_shuffled⟩) (c_law_shuffled : PySem.W.codeIn K cd_law_shuffled "_law_shuffled" = true) (k_law_shuffled : PySem.W.keepIn K (.ref f_law_shuffled) = true)
    {f_law_names : Addr} {od_law_names an_law_names : Option Addr} {sl_law_names : Array (Option Value)} {oc_law_names kV_law_names dc_law_names pm_law_names cd_law_names ct_law_names : Value}
    (a_law_names : PySem.W.nsIn K mainGlobals "_law_names" = some (some (.ref f_law_names))) (l_law_names : K.lookup f_law_names = some ⟨oc_law_names, od_law_names, .func (PySem.W.fnOf "_law_names" "_law_names" (defArgs s_law_names) (defBody s_law_names) (defScope s_law_names) .none kV_law_names dc_law_names pm_law_names an_law_names cd_law_names ct_law_names), sl_law_names⟩) (c_law_names : PySem.W.codeIn K cd_law_names "_law_names" = true) (k_law_names : PySem.W.keepIn K (.ref f_law_names) = true)
    {f_law_word : Addr} {od_law_word an_law_word : Option Addr} {sl_law_word : Array (Option Value)} {oc_law_word kV_law_word dc_law_word pm_law_word cd_law_word ct_law_word : Value}
    (a_law_word : PySem.W.nsIn K mainGlobals "_law_word" = some (some (.ref f_law_word))) (l_law_word : K.lookup f_law_word = some ⟨oc_law_word, od_law_word, .func (PySem.W.fnOf "_law_word" "_law_word" (defArgs s_law_word) (defBody s_law_word) (defScope s_law_word) .none kV_law_word dc_law_word pm_law_word an_law_word cd_law_word ct_law_word), sl_law_word⟩) (c_law_word : PySem.W.codeIn K cd_law_word "_law_word" = true) (k_law_word : PySem.W.keepIn K (.ref f_law_word) = true)
    {f_law_built : Addr} {od_law_built an_law_built : Option Addr} {sl_law_built : Array (Option Value)} {oc_law_built kV_law_built dc_law_built pm_law_built cd_law_built ct_law_built : Value}
    (a_law_built : PySem.W.nsIn K mainGlobals "_law_built" = some (some (.ref f_law_built))) (l_law_built : K.lookup f_law_built = some ⟨oc_law_built, od_law_built, .func (PySem.W.fnOf "_law_built" "_law_built" (defArgs s_law_built) (defBody s_law_built) (defScope s_law_built) .none kV_law_built dc_law_built pm_law_built an_law_built cd_law_built ct_law_built), sl_law_built⟩) (c_law_built : PySem.W.codeIn K cd_law_built "_law_built" = true) (k_law_built : PySem.W.keepIn K (.ref f_law_built) = true)
    {f_law_is_name : Addr} {od_law_is_name an_law_is_name : Option Addr} {sl_law_is_name : Array (Option Value)} {oc_law_is_name kV_law_is_name dc_law_is_name pm_law_is_name cd_law_is_name ct_law_is_name : Value}
    (a_law_is_name : PySem.W.nsIn K mainGlobals "_law_is_name" = some (some (.ref f_law_is_name))) (l_law_is_name : K.lookup f_law_is_name = some ⟨oc_law_is_name, od_law_is_name, .func (PySem.W.fnOf "_law_is_name" "_law_is_name" (defArgs s_law_is_name) (defBody s_law_is_name) (defScope s_law_is_name) .none kV_law_is_name dc_law_is_name pm_law_is_name an_law_is_name cd_law_is_name ct_law_is_name), sl_law_is_name⟩) (c_law_is_name : PySem.W.codeIn K cd_law_is_name "_law_is_name" = true) (k_law_is_name : PySem.W.keepIn K (.ref f_law_is_name) = true)
    {f_law_call_faults : Addr} {od_law_call_faults an_law_call_faults : Option Addr} {sl_law_call_faults : Array (Option Value)} {oc_law_call_faults kV_law_call_faults dc_law_call_faults pm_law_call_faults cd_law_call_faults ct_law_call_faults : Value}
    (a_law_call_faults : PySem.W.nsIn K mainGlobals "_law_call_faults" = some (some (.ref f_law_call_faults))) (l_law_call_faults : K.lookup f_law_call_faults = some ⟨oc_law_call_faults, od_law_call_faults, .func (PySem.W.fnOf "_law_call_faults" "_law_call_faults" (defArgs s_law_call_faults) (defBody s_law_call_faults) (defScope s_law_call_faults) .none kV_law_call_faults dc_law_call_faults pm_law_call_faults an_law_call_faults cd_law_call_faults ct_law_call_faults), sl_law_call_faults⟩) (c_law_call_faults : PySem.W.codeIn K cd_law_call_faults "_law_call_faults" = true) (k_law_call_faults : PySem.W.keepIn K (.ref f_law_call_faults) = true)
    {f_law_bad_let : Addr} {od_law_bad_let an_law_bad_let : Option Addr} {sl_law_bad_let : Array (Option Value)} {oc_law_bad_let kV_law_bad_let dc_law_bad_let pm_law_bad_let cd_law_bad_let ct_law_bad_let : Value}
    (a_law_bad_let : PySem.W.nsIn K mainGlobals "_law_bad_let" = some (some (.ref f_law_bad_let))) (l_law_bad_let : K.lookup f_law_bad_let = some ⟨oc_law_bad_let, od_law_bad_let, .func (PySem.W.fnOf "_law_bad_let" "_law_bad_let" (defArgs s_law_bad_let) (defBody s_law_bad_let) (defScope s_law_bad_let) .none kV_law_bad_let dc_law_bad_let pm_law_bad_let an_law_bad_let cd_law_bad_let ct_law_bad_let), sl_law_bad_let⟩) (c_law_bad_let : PySem.W.codeIn K cd_law_bad_let "_law_bad_let" = true) (k_law_bad_let : PySem.W.keepIn K (.ref f_law_bad_let) = true)
    {f_law_fault : Addr} {od_law_fault an_law_fault : Option Addr} {sl_law_fault : Array (Option Value)} {oc_law_fault kV_law_fault dc_law_fault pm_law_fault cd_law_fault ct_law_fault : Value}
    (a_law_fault : PySem.W.nsIn K mainGlobals "_law_fault" = some (some (.ref f_law_fault))) (l_law_fault : K.lookup f_law_fault = some ⟨oc_law_fault, od_law_fault, .func (PySem.W.fnOf "_law_fault" "_law_fault" (defArgs s_law_fault) (defBody s_law_fault) (defScope s_law_fault) .none kV_law_fault dc_law_fault pm_law_fault an_law_fault cd_law_fault ct_law_fault), sl_law_fault⟩) (c_law_fault : PySem.W.codeIn K cd_law_fault "_law_fault" = true) (k_law_fault : PySem.W.keepIn K (.ref f_law_fault) = true)
    {f_law_tree : Addr} {od_law_tree an_law_tree : Option Addr} {sl_law_tree : Array (Option Value)} {oc_law_tree kV_law_tree dc_law_tree pm_law_tree cd_law_tree ct_law_tree : Value}
    (a_law_tree : PySem.W.nsIn K mainGlobals "_law_tree" = some (some (.ref f_law_tree))) (l_law_tree : K.lookup f_law_tree = some ⟨oc_law_tree, od_law_tree, .func (PySem.W.fnOf "_law_tree" "_law_tree" (defArgs s_law_tree) (defBody s_law_tree) (defScope s_law_tree) .none kV_law_tree dc_law_tree pm_law_tree an_law_tree cd_law_tree ct_law_tree), sl_law_tree⟩) (c_law_tree : PySem.W.codeIn K cd_law_tree "_law_tree" = true) (k_law_tree : PySem.W.keepIn K (.ref f_law_tree) = true)
    {f_law_node : Addr} {od_law_node an_law_node : Option Addr} {sl_law_node : Array (Option Value)} {oc_law_node kV_law_node dc_law_node pm_law_node cd_law_node ct_law_node : Value}
    (a_law_node : PySem.W.nsIn K mainGlobals "_law_node" = some (some (.ref f_law_node))) (l_law_node : K.lookup f_law_node = some ⟨oc_law_node, od_law_node, .func (PySem.W.fnOf "_law_node" "_law_node" (defArgs s_law_node) (defBody s_law_node) (defScope s_law_node) .none kV_law_node dc_law_node pm_law_node an_law_node cd_law_node ct_law_node), sl_law_node⟩) (c_law_node : PySem.W.codeIn K cd_law_node "_law_node" = true) (k_law_node : PySem.W.keepIn K (.ref f_law_node) = true)
    {f_law_bent : Addr} {od_law_bent an_law_bent : Option Addr} {sl_law_bent : Array (Option Value)} {oc_law_bent kV_law_bent dc_law_bent pm_law_bent cd_law_bent ct_law_bent : Value}
    (a_law_bent : PySem.W.nsIn K mainGlobals "_law_bent" = some (some (.ref f_law_bent))) (l_law_bent : K.lookup f_law_bent = some ⟨oc_law_bent, od_law_bent, .func (PySem.W.fnOf "_law_bent" "_law_bent" (defArgs s_law_bent) (defBody s_law_bent) (defScope s_law_bent) .none kV_law_bent dc_law_bent pm_law_bent an_law_bent cd_law_bent ct_law_bent), sl_law_bent⟩) (c_law_bent : PySem.W.codeIn K cd_law_bent "_law_bent" = true) (k_law_bent : PySem.W.keepIn K (.ref f_law_bent) = true)
    {f_law_let : Addr} {od_law_let an_law_let : Option Addr} {sl_law_let : Array (Option Value)} {oc_law_let kV_law_let dc_law_let pm_law_let cd_law_let ct_law_let : Value}
    (a_law_let : PySem.W.nsIn K mainGlobals "_law_let" = some (some (.ref f_law_let))) (l_law_let : K.lookup f_law_let = some ⟨oc_law_let, od_law_let, .func (PySem.W.fnOf "_law_let" "_law_let" (defArgs s_law_let) (defBody s_law_let) (defScope s_law_let) .none kV_law_let dc_law_let pm_law_let an_law_let cd_law_let ct_law_let), sl_law_let⟩) (c_law_let : PySem.W.codeIn K cd_law_let "_law_let" = true) (k_law_let : PySem.W.keepIn K (.ref f_law_let) = true)
    {f_law_world : Addr} {od_law_world an_law_world : Option Addr} {sl_law_world : Array (Option Value)} {oc_law_world kV_law_world dc_law_world pm_law_world cd_law_world ct_law_world : Value}
    (a_law_world : PySem.W.nsIn K mainGlobals "_law_world" = some (some (.ref f_law_world))) (l_law_world : K.lookup f_law_world = some ⟨oc_law_world, od_law_world, .func (PySem.W.fnOf "_law_world" "_law_world" (defArgs s_law_world) (defBody s_law_world) (defScope s_law_world) .none kV_law_world dc_law_world pm_law_world an_law_world cd_law_world ct_law_world), sl_law_world⟩) (c_law_world : PySem.W.codeIn K cd_law_world "_law_world" = true) (k_law_world : PySem.W.keepIn K (.ref f_law_world) = true)
    {f_law_title : Addr} {od_law_title an_law_title : Option Addr} {sl_law_title : Array (Option Value)} {oc_law_title kV_law_title dc_law_title pm_law_title cd_law_title ct_law_title : Value}
    (a_law_title : PySem.W.nsIn K mainGlobals "_law_title" = some (some (.ref f_law_title))) (l_law_title : K.lookup f_law_title = some ⟨oc_law_title, od_law_title, .func (PySem.W.fnOf "_law_title" "_law_title" (defArgs s_law_title) (defBody s_law_title) (defScope s_law_title) .none kV_law_title dc_law_title pm_law_title an_law_title cd_law_title ct_law_title), sl_law_title⟩) (c_law_title : PySem.W.codeIn K cd_law_title "_law_title" = true) (k_law_title : PySem.W.keepIn K (.ref f_law_title) = true)
    {f_law_form : Addr} {od_law_form an_law_form : Option Addr} {sl_law_form : Array (Option Value)} {oc_law_form kV_law_form dc_law_form pm_law_form cd_law_form ct_law_form : Value}
    (a_law_form : PySem.W.nsIn K mainGlobals "_law_form" = some (some (.ref f_law_form))) (l_law_form : K.lookup f_law_form = some ⟨oc_law_form, od_law_form, .func (PySem.W.fnOf "_law_form" "_law_form" (defArgs s_law_form) (defBody s_law_form) (defScope s_law_form) .none kV_law_form dc_law_form pm_law_form an_law_form cd_law_form ct_law_form), sl_law_form⟩) (c_law_form : PySem.W.codeIn K cd_law_form "_law_form" = true) (k_law_form : PySem.W.keepIn K (.ref f_law_form) = true)
    {f_law_size : Addr} {od_law_size an_law_size : Option Addr} {sl_law_size : Array (Option Value)} {oc_law_size kV_law_size dc_law_size pm_law_size cd_law_size ct_law_size : Value}
    (a_law_size : PySem.W.nsIn K mainGlobals "_law_size" = some (some (.ref f_law_size))) (l_law_size : K.lookup f_law_size = some ⟨oc_law_size, od_law_size, .func (PySem.W.fnOf "_law_size" "_law_size" (defArgs s_law_size) (defBody s_law_size) (defScope s_law_size) .none kV_law_size dc_law_size pm_law_size an_law_size cd_law_size ct_law_size), sl_law_size⟩) (c_law_size : PySem.W.codeIn K cd_law_size "_law_size" = true) (k_law_size : PySem.W.keepIn K (.ref f_law_size) = true)
    {f_law_menu : Addr} {od_law_menu an_law_menu : Option Addr} {sl_law_menu : Array (Option Value)} {oc_law_menu kV_law_menu dc_law_menu pm_law_menu cd_law_menu ct_law_menu : Value}
    (a_law_menu : PySem.W.nsIn K mainGlobals "_law_menu" = some (some (.ref f_law_menu))) (l_law_menu : K.lookup f_law_menu = some ⟨oc_law_menu, od_law_menu, .func (PySem.W.fnOf "_law_menu" "_law_menu" (defArgs s_law_menu) (defBody s_law_menu) (defScope s_law_menu) .none kV_law_menu dc_law_menu pm_law_menu an_law_menu cd_law_menu ct_law_menu), sl_law_menu⟩) (c_law_menu : PySem.W.codeIn K cd_law_menu "_law_menu" = true) (k_law_menu : PySem.W.keepIn K (.ref f_law_menu) = true)
    {f_law_wrapped : Addr} {od_law_wrapped an_law_wrapped : Option Addr} {sl_law_wrapped : Array (Option Value)} {oc_law_wrapped kV_law_wrapped dc_law_wrapped pm_law_wrapped cd_law_wrapped ct_law_wrapped : Value}
    (a_law_wrapped : PySem.W.nsIn K mainGlobals "_law_wrapped" = some (some (.ref f_law_wrapped))) (l_law_wrapped : K.lookup f_law_wrapped = some ⟨oc_law_wrapped, od_law_wrapped, .func (PySem.W.fnOf "_law_wrapped" "_law_wrapped" (defArgs s_law_wrapped) (defBody s_law_wrapped) (defScope s_law_wrapped) .none kV_law_wrapped dc_law_wrapped pm_law_wrapped an_law_wrapped cd_law_wrapped ct_law_wrapped), sl_law_wrapped⟩) (c_law_wrapped : PySem.W.codeIn K cd_law_wrapped "_law_wrapped" = true) (k_law_wrapped : PySem.W.keepIn K (.ref f_law_wrapped) = true)
    {f_law_link : Addr} {od_law_link an_law_link : Option Addr} {sl_law_link : Array (Option Value)} {oc_law_link kV_law_link dc_law_link pm_law_link cd_law_link ct_law_link : Value}
    (a_law_link : PySem.W.nsIn K mainGlobals "_law_link" = some (some (.ref f_law_link))) (l_law_link : K.lookup f_law_link = some ⟨oc_law_link, od_law_link, .func (PySem.W.fnOf "_law_link" "_law_link" (defArgs s_law_link) (defBody s_law_link) (defScope s_law_link) .none kV_law_link dc_law_link pm_law_link an_law_link cd_law_link ct_law_link), sl_law_link⟩) (c_law_link : PySem.W.codeIn K cd_law_link "_law_link" = true) (k_law_link : PySem.W.keepIn K (.ref f_law_link) = true)
    {f_law_chain : Addr} {od_law_chain an_law_chain : Option Addr} {sl_law_chain : Array (Option Value)} {oc_law_chain kV_law_chain dc_law_chain pm_law_chain cd_law_chain ct_law_chain : Value}
    (a_law_chain : PySem.W.nsIn K mainGlobals "_law_chain" = some (some (.ref f_law_chain))) (l_law_chain : K.lookup f_law_chain = some ⟨oc_law_chain, od_law_chain, .func (PySem.W.fnOf "_law_chain" "_law_chain" (defArgs s_law_chain) (defBody s_law_chain) (defScope s_law_chain) .none kV_law_chain dc_law_chain pm_law_chain an_law_chain cd_law_chain ct_law_chain), sl_law_chain⟩) (c_law_chain : PySem.W.codeIn K cd_law_chain "_law_chain" = true) (k_law_chain : PySem.W.keepIn K (.ref f_law_chain) = true)
    {f_law_deep : Addr} {od_law_deep an_law_deep : Option Addr} {sl_law_deep : Array (Option Value)} {oc_law_deep kV_law_deep dc_law_deep pm_law_deep cd_law_deep ct_law_deep : Value}
    (a_law_deep : PySem.W.nsIn K mainGlobals "_law_deep" = some (some (.ref f_law_deep))) (l_law_deep : K.lookup f_law_deep = some ⟨oc_law_deep, od_law_deep, .func (PySem.W.fnOf "_law_deep" "_law_deep" (defArgs s_law_deep) (defBody s_law_deep) (defScope s_law_deep) .none kV_law_deep dc_law_deep pm_law_deep an_law_deep cd_law_deep ct_law_deep), sl_law_deep⟩) (c_law_deep : PySem.W.codeIn K cd_law_deep "_law_deep" = true) (k_law_deep : PySem.W.keepIn K (.ref f_law_deep) = true)
    {f_law_reach : Addr} {od_law_reach an_law_reach : Option Addr} {sl_law_reach : Array (Option Value)} {oc_law_reach kV_law_reach dc_law_reach pm_law_reach cd_law_reach ct_law_reach : Value}
    (a_law_reach : PySem.W.nsIn K mainGlobals "_law_reach" = some (some (.ref f_law_reach))) (l_law_reach : K.lookup f_law_reach = some ⟨oc_law_reach, od_law_reach, .func (PySem.W.fnOf "_law_reach" "_law_reach" (defArgs s_law_reach) (defBody s_law_reach) (defScope s_law_reach) .none kV_law_reach dc_law_reach pm_law_reach an_law_reach cd_law_reach ct_law_reach), sl_law_reach⟩) (c_law_reach : PySem.W.codeIn K cd_law_reach "_law_reach" = true) (k_law_reach : PySem.W.keepIn K (.ref f_law_reach) = true)
    {f_law_nesting : Addr} {od_law_nesting an_law_nesting : Option Addr} {sl_law_nesting : Array (Option Value)} {oc_law_nesting kV_law_nesting dc_law_nesting pm_law_nesting cd_law_nesting ct_law_nesting : Value}
    (a_law_nesting : PySem.W.nsIn K mainGlobals "_law_nesting" = some (some (.ref f_law_nesting))) (l_law_nesting : K.lookup f_law_nesting = some ⟨oc_law_nesting, od_law_nesting, .func (PySem.W.fnOf "_law_nesting" "_law_nesting" (defArgs s_law_nesting) (defBody s_law_nesting) (defScope s_law_nesting) .none kV_law_nesting dc_law_nesting pm_law_nesting an_law_nesting cd_law_nesting ct_law_nesting), sl_law_nesting⟩) (c_law_nesting : PySem.W.codeIn K cd_law_nesting "_law_nesting" = true) (k_law_nesting : PySem.W.keepIn K (.ref f_law_nesting) = true)
    {f_law_told : Addr} {od_law_told an_law_told : Option Addr} {sl_law_told : Array (Option Value)} {oc_law_told kV_law_told dc_law_told pm_law_told cd_law_told ct_law_told : Value}
    (a_law_told : PySem.W.nsIn K mainGlobals "_law_told" = some (some (.ref f_law_told))) (l_law_told : K.lookup f_law_told = some ⟨oc_law_told, od_law_told, .func (PySem.W.fnOf "_law_told" "_law_told" (defArgs s_law_told) (defBody s_law_told) (defScope s_law_told) .none kV_law_told dc_law_told pm_law_told an_law_told cd_law_told ct_law_told), sl_law_told⟩) (c_law_told : PySem.W.codeIn K cd_law_told "_law_told" = true) (k_law_told : PySem.W.keepIn K (.ref f_law_told) = true)
    {f_law : Addr} {od_law an_law : Option Addr} {sl_law : Array (Option Value)} {oc_law kV_law dc_law pm_law cd_law ct_law : Value}
    (a_law : PySem.W.nsIn K mainGlobals "law" = some (some (.ref f_law))) (l_law : K.lookup f_law = some ⟨oc_law, od_law, .func (PySem.W.fnOf "law" "law" (defArgs s_law) (defBody s_law) (defScope s_law) .none kV_law dc_law pm_law an_law cd_law ct_law), sl_law⟩) (c_law : PySem.W.codeIn K cd_law "law" = true) (k_law : PySem.W.keepIn K (.ref f_law) = true)
    {t_LETTERS : Tok} (m_LETTERS : PySem.W.nsIn K mainGlobals "LETTERS" = some (some (.str "abcdefghijklmnopqrstuvwxyz" t_LETTERS)))
    {t_LONGEST_NAME : Tok} (m_LONGEST_NAME : PySem.W.nsIn K mainGlobals "LONGEST_NAME" = some (some (.int 8 t_LONGEST_NAME)))
    {t_BUILT_IN : Addr} (m_BUILT_IN : PySem.W.nsIn K mainGlobals "BUILT_IN" = some (some (.ref t_BUILT_IN))) {td_BUILT_IN : Option Addr} {ti_BUILT_IN : Array Value} {tn_BUILT_IN : Nat} {ts_BUILT_IN : Array (Option Value)} (tl_BUILT_IN : K.lookup t_BUILT_IN = some ⟨.type "tuple", td_BUILT_IN, .seq ti_BUILT_IN tn_BUILT_IN, ts_BUILT_IN⟩) (tv_BUILT_IN : Vals [V.str "let", V.str "hole", V.str "page", V.str "note", V.str "key", V.str "head", V.str "par", V.str "list", V.str "item", V.str "table", V.str "row", V.str "cell", V.str "show", V.str "over", V.str "up", V.str "low", V.str "fence", V.str "grid", V.str "line", V.str "figure", V.str "label", V.str "contents", V.str "index"] ti_BUILT_IN.toList)
    {t_MOST_MACROS : Tok} (m_MOST_MACROS : PySem.W.nsIn K mainGlobals "MOST_MACROS" = some (some (.int 40 t_MOST_MACROS)))
    {t_MOST_NAMES : Tok} (m_MOST_NAMES : PySem.W.nsIn K mainGlobals "MOST_NAMES" = some (some (.int 4 t_MOST_NAMES)))
    (n_ValueError : PySem.W.nsIn K mainGlobals "ValueError" = some none)
    (n_bool : PySem.W.nsIn K mainGlobals "bool" = some none)
    (n_int : PySem.W.nsIn K mainGlobals "int" = some none)
    (n_isinstance : PySem.W.nsIn K mainGlobals "isinstance" = some none)
    (n_len : PySem.W.nsIn K mainGlobals "len" = some none)
    (n_list : PySem.W.nsIn K mainGlobals "list" = some none)
    (n_max : PySem.W.nsIn K mainGlobals "max" = some none)
    (n_min : PySem.W.nsIn K mainGlobals "min" = some none)
    (n_range : PySem.W.nsIn K mainGlobals "range" = some none)
    (n_set : PySem.W.nsIn K mainGlobals "set" = some none)
    (n_tuple : PySem.W.nsIn K mainGlobals "tuple" = some none)
    (n_zip : PySem.W.nsIn K mainGlobals "zip" = some none)
    {cc_PagesError : Addr} (g_PagesError : PySem.W.nsIn K mainGlobals "PagesError" = some (some (.ref cc_PagesError))) (ic_PagesError : PySem.W.isClsIn K cc_PagesError = true) (ty_PagesError : PySem.W.typeIn K (.ref cc_PagesError) = some (.type "type"))
    {cc_RecordError : Addr} (g_RecordError : PySem.W.nsIn K mainGlobals "RecordError" = some (some (.ref cc_RecordError))) (ic_RecordError : PySem.W.isClsIn K cc_RecordError = true) (ty_RecordError : PySem.W.typeIn K (.ref cc_RecordError) = some (.type "type"))
    {cc_LimitError : Addr} (g_LimitError : PySem.W.nsIn K mainGlobals "LimitError" = some (some (.ref cc_LimitError))) (ic_LimitError : PySem.W.isClsIn K cc_LimitError = true) (ty_LimitError : PySem.W.typeIn K (.ref cc_LimitError) = some (.type "type"))
    {cc_GivenError : Addr} (g_GivenError : PySem.W.nsIn K mainGlobals "GivenError" = some (some (.ref cc_GivenError))) (ic_GivenError : PySem.W.isClsIn K cc_GivenError = true) (ty_GivenError : PySem.W.typeIn K (.ref cc_GivenError) = some (.type "type"))
    {cc_BadText : Addr} (g_BadText : PySem.W.nsIn K mainGlobals "BadText" = some (some (.ref cc_BadText))) (ic_BadText : PySem.W.isClsIn K cc_BadText = true) (ty_BadText : PySem.W.typeIn K (.ref cc_BadText) = some (.type "type"))
    {cc_BadCall : Addr} (g_BadCall : PySem.W.nsIn K mainGlobals "BadCall" = some (some (.ref cc_BadCall))) (ic_BadCall : PySem.W.isClsIn K cc_BadCall = true) (ty_BadCall : PySem.W.typeIn K (.ref cc_BadCall) = some (.type "type"))
    {cc_Misplaced : Addr} (g_Misplaced : PySem.W.nsIn K mainGlobals "Misplaced" = some (some (.ref cc_Misplaced))) (ic_Misplaced : PySem.W.isClsIn K cc_Misplaced = true) (ty_Misplaced : PySem.W.typeIn K (.ref cc_Misplaced) = some (.type "type"))
    {cc_Unknown : Addr} (g_Unknown : PySem.W.nsIn K mainGlobals "Unknown" = some (some (.ref cc_Unknown))) (ic_Unknown : PySem.W.isClsIn K cc_Unknown = true) (ty_Unknown : PySem.W.typeIn K (.ref cc_Unknown) = some (.type "type"))
    {cc_Twice : Addr} (g_Twice : PySem.W.nsIn K mainGlobals "Twice" = some (some (.ref cc_Twice))) (ic_Twice : PySem.W.isClsIn K cc_Twice = true) (ty_Twice : PySem.W.typeIn K (.ref cc_Twice) = some (.type "type"))
    {cc_TooLong : Addr} (g_TooLong : PySem.W.nsIn K mainGlobals "TooLong" = some (some (.ref cc_TooLong))) (ic_TooLong : PySem.W.isClsIn K cc_TooLong = true) (ty_TooLong : PySem.W.typeIn K (.ref cc_TooLong) = some (.type "type"))
    {cc_TooLarge : Addr} (g_TooLarge : PySem.W.nsIn K mainGlobals "TooLarge" = some (some (.ref cc_TooLarge))) (ic_TooLarge : PySem.W.isClsIn K cc_TooLarge = true) (ty_TooLarge : PySem.W.typeIn K (.ref cc_TooLarge) = some (.type "type"))
    {cc_TooMany : Addr} (g_TooMany : PySem.W.nsIn K mainGlobals "TooMany" = some (some (.ref cc_TooMany))) (ic_TooMany : PySem.W.isClsIn K cc_TooMany = true) (ty_TooMany : PySem.W.typeIn K (.ref cc_TooMany) = some (.type "type"))
    {cc_TooWide : Addr} (g_TooWide : PySem.W.nsIn K mainGlobals "TooWide" = some (some (.ref cc_TooWide))) (ic_TooWide : PySem.W.isClsIn K cc_TooWide = true) (ty_TooWide : PySem.W.typeIn K (.ref cc_TooWide) = some (.type "type"))
    {cc_TooTall : Addr} (g_TooTall : PySem.W.nsIn K mainGlobals "TooTall" = some (some (.ref cc_TooTall))) (ic_TooTall : PySem.W.isClsIn K cc_TooTall = true) (ty_TooTall : PySem.W.typeIn K (.ref cc_TooTall) = some (.type "type"))
    (bx_PagesError : PySem.W.subIn K (.ref cc_PagesError) (.type "BaseException") = some true)
    (o_hn : PySem.W.specialIn K (.builtin "object.__class__") "__get__" = some (some (.builtin "getset_descriptor.__get__"))) (o_ht : PySem.W.takesIn K (.builtin "object.__class__") = some true)
    {nm_BadCall q_BadCall : Str} {N_BadCall : Addr} {bs_BadCall bm_BadCall : List Value} {sn_BadCall : List Str} {sub_BadCall : List Value} {ab_BadCall : Bool} {col_BadCall : Option Bool} {dd_BadCall : Option Addr} {k0_BadCall k1_BadCall k2_BadCall k3_BadCall k5_BadCall : Option Value}
    (xL_BadCall : K.lookup cc_BadCall = some (excClassObj nm_BadCall q_BadCall cc_BadCall N_BadCall bs_BadCall bm_BadCall true sn_BadCall sub_BadCall ab_BadCall col_BadCall dd_BadCall k0_BadCall k1_BadCall k2_BadCall k3_BadCall k5_BadCall "ValueError.__new__"))
    (rv_BadCall : PySem.HandSPX.refsVE bm_BadCall = true)
    (sa_BadCall : PySem.W.findIn K (.ref cc_BadCall) "__setattr__" = some (some (.builtin "object.__setattr__")))
    (ga_BadCall : PySem.W.findIn K (.ref cc_BadCall) "__getattribute__" = some (some (.builtin "BaseException.__getattribute__")))
    (gg_BadCall : PySem.W.findIn K (.ref cc_BadCall) "__getattr__" = some none)
    (ex_BadCall : PySem.W.subIn K (.ref cc_BadCall) (.type "BaseException") = some true)
    (kp_BadCall : PySem.W.keepIn K (.ref cc_BadCall) = true)
    (hd_BadCall : PySem.W.hasDictIn K cc_BadCall = true)
    (ha_BadCall : PySem.W.findIn K (.ref cc_BadCall) "__class__" = some (some (.builtin "object.__class__")))
    (hm_BadCall : PySem.W.mroIn K cc_BadCall (.type "object") = some true)
    (vs_BadCall : PySem.W.subIn K (.ref cc_BadCall) (.type "ValueError") = some true)
    (no_BadCall_name : PySem.W.findIn K (.ref cc_BadCall) "name" = some none)
    (sb_BadCall_PagesError : PySem.W.subIn K (.ref cc_BadCall) (.ref cc_PagesError) = some true)
    (sb_BadCall_RecordError : PySem.W.subIn K (.ref cc_BadCall) (.ref cc_RecordError) = some true)
    (sb_BadCall_LimitError : PySem.W.subIn K (.ref cc_BadCall) (.ref cc_LimitError) = some false)
    (sb_BadCall_GivenError : PySem.W.subIn K (.ref cc_BadCall) (.ref cc_GivenError) = some false)
    (sb_BadCall_BadText : PySem.W.subIn K (.ref cc_BadCall) (.ref cc_BadText) = some false)
    (sb_BadCall_BadCall : PySem.W.subIn K (.ref cc_BadCall) (.ref cc_BadCall) = some true)
    (sb_BadCall_Misplaced : PySem.W.subIn K (.ref cc_BadCall) (.ref cc_Misplaced) = some false)
    (sb_BadCall_Unknown : PySem.W.subIn K (.ref cc_BadCall) (.ref cc_Unknown) = some false)
    (sb_BadCall_Twice : PySem.W.subIn K (.ref cc_BadCall) (.ref cc_Twice) = some false)
    (sb_BadCall_TooLong : PySem.W.subIn K (.ref cc_BadCall) (.ref cc_TooLong) = some false)
    (sb_BadCall_TooLarge : PySem.W.subIn K (.ref cc_BadCall) (.ref cc_TooLarge) = some false)
    (sb_BadCall_TooMany : PySem.W.subIn K (.ref cc_BadCall) (.ref cc_TooMany) = some false)
    (sb_BadCall_TooWide : PySem.W.subIn K (.ref cc_BadCall) (.ref cc_TooWide) = some false)
    (sb_BadCall_TooTall : PySem.W.subIn K (.ref cc_BadCall) (.ref cc_TooTall) = some false)
    {fi_BadCall : Addr} {odi_BadCall ani_BadCall : Option Addr} {sli_BadCall : Array (Option Value)} {oci_BadCall kVi_BadCall dci_BadCall pmi_BadCall cdi_BadCall cti_BadCall : Value}
    (ii_BadCall : PySem.W.findIn K (.ref cc_BadCall) "__init__" = some (some (.ref fi_BadCall))) (ti_BadCall : PySem.W.typeIn K (.ref fi_BadCall) = some (.type "function")) (li_BadCall : K.lookup fi_BadCall = some ⟨oci_BadCall, odi_BadCall, .func (PySem.W.fnOf "__init__" "BadCall.__init__" (defArgs s_BadCall_init) (defBody s_BadCall_init) (defScope s_BadCall_init) .none kVi_BadCall dci_BadCall pmi_BadCall ani_BadCall cdi_BadCall cti_BadCall), sli_BadCall⟩) (ci_BadCall : PySem.W.codeIn K cdi_BadCall "BadCall.__init__" = true) (ki_BadCall : PySem.W.keepIn K (.ref fi_BadCall) = true)
    {nm_Unknown q_Unknown : Str} {N_Unknown : Addr} {bs_Unknown bm_Unknown : List Value} {sn_Unknown : List Str} {sub_Unknown : List Value} {ab_Unknown : Bool} {col_Unknown : Option Bool} {dd_Unknown : Option Addr} {k0_Unknown k1_Unknown k2_Unknown k3_Unknown k5_Unknown : Option Value}
    (xL_Unknown : K.lookup cc_Unknown = some (excClassObj nm_Unknown q_Unknown cc_Unknown N_Unknown bs_Unknown bm_Unknown true sn_Unknown sub_Unknown ab_Unknown col_Unknown dd_Unknown k0_Unknown k1_Unknown k2_Unknown k3_Unknown k5_Unknown "ValueError.__new__"))
    (rv_Unknown : PySem.HandSPX.refsVE bm_Unknown = true)
    (sa_Unknown : PySem.W.findIn K (.ref cc_Unknown) "__setattr__" = some (some (.builtin "object.__setattr__")))
    (ga_Unknown : PySem.W.findIn K (.ref cc_Unknown) "__getattribute__" = some (some (.builtin "BaseException.__getattribute__")))
    (gg_Unknown : PySem.W.findIn K (.ref cc_Unknown) "__getattr__" = some none)
    (ex_Unknown : PySem.W.subIn K (.ref cc_Unknown) (.type "BaseException") = some true)
    (kp_Unknown : PySem.W.keepIn K (.ref cc_Unknown) = true)
    (hd_Unknown : PySem.W.hasDictIn K cc_Unknown = true)
    (ha_Unknown : PySem.W.findIn K (.ref cc_Unknown) "__class__" = some (some (.builtin "object.__class__")))
    (hm_Unknown : PySem.W.mroIn K cc_Unknown (.type "object") = some true)
    (vs_Unknown : PySem.W.subIn K (.ref cc_Unknown) (.type "ValueError") = some true)
    (no_Unknown_name : PySem.W.findIn K (.ref cc_Unknown) "name" = some none)
    (sb_Unknown_PagesError : PySem.W.subIn K (.ref cc_Unknown) (.ref cc_PagesError) = some true)
    (sb_Unknown_RecordError : PySem.W.subIn K (.ref cc_Unknown) (.ref cc_RecordError) = some true)
    (sb_Unknown_LimitError : PySem.W.subIn K (.ref cc_Unknown) (.ref cc_LimitError) = some false)
    (sb_Unknown_GivenError : PySem.W.subIn K (.ref cc_Unknown) (.ref cc_GivenError) = some false)
    (sb_Unknown_BadText : PySem.W.subIn K (.ref cc_Unknown) (.ref cc_BadText) = some false)
    (sb_Unknown_BadCall : PySem.W.subIn K (.ref cc_Unknown) (.ref cc_BadCall) = some false)
    (sb_Unknown_Misplaced : PySem.W.subIn K (.ref cc_Unknown) (.ref cc_Misplaced) = some false)
    (sb_Unknown_Unknown : PySem.W.subIn K (.ref cc_Unknown) (.ref cc_Unknown) = some true)
    (sb_Unknown_Twice : PySem.W.subIn K (.ref cc_Unknown) (.ref cc_Twice) = some false)
    (sb_Unknown_TooLong : PySem.W.subIn K (.ref cc_Unknown) (.ref cc_TooLong) = some false)
    (sb_Unknown_TooLarge : PySem.W.subIn K (.ref cc_Unknown) (.ref cc_TooLarge) = some false)
    (sb_Unknown_TooMany : PySem.W.subIn K (.ref cc_Unknown) (.ref cc_TooMany) = some false)
    (sb_Unknown_TooWide : PySem.W.subIn K (.ref cc_Unknown) (.ref cc_TooWide) = some false)
    (sb_Unknown_TooTall : PySem.W.subIn K (.ref cc_Unknown) (.ref cc_TooTall) = some false)
    {fi_Unknown : Addr} {odi_Unknown ani_Unknown : Option Addr} {sli_Unknown : Array (Option Value)} {oci_Unknown kVi_Unknown dci_Unknown pmi_Unknown cdi_Unknown cti_Unknown : Value}
    (ii_Unknown : PySem.W.findIn K (.ref cc_Unknown) "__init__" = some (some (.ref fi_Unknown))) (ti_Unknown : PySem.W.typeIn K (.ref fi_Unknown) = some (.type "function")) (li_Unknown : K.lookup fi_Unknown = some ⟨oci_Unknown, odi_Unknown, .func (PySem.W.fnOf "__init__" "Unknown.__init__" (defArgs s_Unknown_init) (defBody s_Unknown_init) (defScope s_Unknown_init) .none kVi_Unknown dci_Unknown pmi_Unknown ani_Unknown cdi_Unknown cti_Unknown), sli_Unknown⟩) (ci_Unknown : PySem.W.codeIn K cdi_Unknown "Unknown.__init__" = true) (ki_Unknown : PySem.W.keepIn K (.ref fi_Unknown) = true)
    {nm_Twice q_Twice : Str} {N_Twice : Addr} {bs_Twice bm_Twice : List Value} {sn_Twice : List Str} {sub_Twice : List Value} {ab_Twice : Bool} {col_Twice : Option Bool} {dd_Twice : Option Addr} {k0_Twice k1_Twice k2_Twice k3_Twice k5_Twice : Option Value}
    (xL_Twice : K.lookup cc_Twice = some (excClassObj nm_Twice q_Twice cc_Twice N_Twice bs_Twice bm_Twice true sn_Twice sub_Twice ab_Twice col_Twice dd_Twice k0_Twice k1_Twice k2_Twice k3_Twice k5_Twice "ValueError.__new__"))
    (rv_Twice : PySem.HandSPX.refsVE bm_Twice = true)
    (sa_Twice : PySem.W.findIn K (.ref cc_Twice) "__setattr__" = some (some (.builtin "object.__setattr__")))
    (ga_Twice : PySem.W.findIn K (.ref cc_Twice) "__getattribute__" = some (some (.builtin "BaseException.__getattribute__")))
    (gg_Twice : PySem.W.findIn K (.ref cc_Twice) "__getattr__" = some none)
    (ex_Twice : PySem.W.subIn K (.ref cc_Twice) (.type "BaseException") = some true)
    (kp_Twice : PySem.W.keepIn K (.ref cc_Twice) = true)
    (hd_Twice : PySem.W.hasDictIn K cc_Twice = true)
    (ha_Twice : PySem.W.findIn K (.ref cc_Twice) "__class__" = some (some (.builtin "object.__class__")))
    (hm_Twice : PySem.W.mroIn K cc_Twice (.type "object") = some true)
    (vs_Twice : PySem.W.subIn K (.ref cc_Twice) (.type "ValueError") = some true)
    (no_Twice_name : PySem.W.findIn K (.ref cc_Twice) "name" = some none)
    (sb_Twice_PagesError : PySem.W.subIn K (.ref cc_Twice) (.ref cc_PagesError) = some true)
    (sb_Twice_RecordError : PySem.W.subIn K (.ref cc_Twice) (.ref cc_RecordError) = some true)
    (sb_Twice_LimitError : PySem.W.subIn K (.ref cc_Twice) (.ref cc_LimitError) = some false)
    (sb_Twice_GivenError : PySem.W.subIn K (.ref cc_Twice) (.ref cc_GivenError) = some false)
    (sb_Twice_BadText : PySem.W.subIn K (.ref cc_Twice) (.ref cc_BadText) = some false)
    (sb_Twice_BadCall : PySem.W.subIn K (.ref cc_Twice) (.ref cc_BadCall) = some false)
    (sb_Twice_Misplaced : PySem.W.subIn K (.ref cc_Twice) (.ref cc_Misplaced) = some false)
    (sb_Twice_Unknown : PySem.W.subIn K (.ref cc_Twice) (.ref cc_Unknown) = some false)
    (sb_Twice_Twice : PySem.W.subIn K (.ref cc_Twice) (.ref cc_Twice) = some true)
    (sb_Twice_TooLong : PySem.W.subIn K (.ref cc_Twice) (.ref cc_TooLong) = some false)
    (sb_Twice_TooLarge : PySem.W.subIn K (.ref cc_Twice) (.ref cc_TooLarge) = some false)
    (sb_Twice_TooMany : PySem.W.subIn K (.ref cc_Twice) (.ref cc_TooMany) = some false)
    (sb_Twice_TooWide : PySem.W.subIn K (.ref cc_Twice) (.ref cc_TooWide) = some false)
    (sb_Twice_TooTall : PySem.W.subIn K (.ref cc_Twice) (.ref cc_TooTall) = some false)
    {fi_Twice : Addr} {odi_Twice ani_Twice : Option Addr} {sli_Twice : Array (Option Value)} {oci_Twice kVi_Twice dci_Twice pmi_Twice cdi_Twice cti_Twice : Value}
    (ii_Twice : PySem.W.findIn K (.ref cc_Twice) "__init__" = some (some (.ref fi_Twice))) (ti_Twice : PySem.W.typeIn K (.ref fi_Twice) = some (.type "function")) (li_Twice : K.lookup fi_Twice = some ⟨oci_Twice, odi_Twice, .func (PySem.W.fnOf "__init__" "Twice.__init__" (defArgs s_Twice_init) (defBody s_Twice_init) (defScope s_Twice_init) .none kVi_Twice dci_Twice pmi_Twice ani_Twice cdi_Twice cti_Twice), sli_Twice⟩) (ci_Twice : PySem.W.codeIn K cdi_Twice "Twice.__init__" = true) (ki_Twice : PySem.W.keepIn K (.ref fi_Twice) = true)
    {nm_TooLarge q_TooLarge : Str} {N_TooLarge : Addr} {bs_TooLarge bm_TooLarge : List Value} {sn_TooLarge : List Str} {sub_TooLarge : List Value} {ab_TooLarge : Bool} {col_TooLarge : Option Bool} {dd_TooLarge : Option Addr} {k0_TooLarge k1_TooLarge k2_TooLarge k3_TooLarge k5_TooLarge : Option Value}
    (xL_TooLarge : K.lookup cc_TooLarge = some (excClassObj nm_TooLarge q_TooLarge cc_TooLarge N_TooLarge bs_TooLarge bm_TooLarge true sn_TooLarge sub_TooLarge ab_TooLarge col_TooLarge dd_TooLarge k0_TooLarge k1_TooLarge k2_TooLarge k3_TooLarge k5_TooLarge "ValueError.__new__"))
    (rv_TooLarge : PySem.HandSPX.refsVE bm_TooLarge = true)
    (sa_TooLarge : PySem.W.findIn K (.ref cc_TooLarge) "__setattr__" = some (some (.builtin "object.__setattr__")))
    (ga_TooLarge : PySem.W.findIn K (.ref cc_TooLarge) "__getattribute__" = some (some (.builtin "BaseException.__getattribute__")))
    (gg_TooLarge : PySem.W.findIn K (.ref cc_TooLarge) "__getattr__" = some none)
    (ex_TooLarge : PySem.W.subIn K (.ref cc_TooLarge) (.type "BaseException") = some true)
    (kp_TooLarge : PySem.W.keepIn K (.ref cc_TooLarge) = true)
    (hd_TooLarge : PySem.W.hasDictIn K cc_TooLarge = true)
    (ha_TooLarge : PySem.W.findIn K (.ref cc_TooLarge) "__class__" = some (some (.builtin "object.__class__")))
    (hm_TooLarge : PySem.W.mroIn K cc_TooLarge (.type "object") = some true)
    (vs_TooLarge : PySem.W.subIn K (.ref cc_TooLarge) (.type "ValueError") = some true)
    (no_TooLarge_part : PySem.W.findIn K (.ref cc_TooLarge) "part" = some none)
    (sb_TooLarge_PagesError : PySem.W.subIn K (.ref cc_TooLarge) (.ref cc_PagesError) = some true)
    (sb_TooLarge_RecordError : PySem.W.subIn K (.ref cc_TooLarge) (.ref cc_RecordError) = some false)
    (sb_TooLarge_LimitError : PySem.W.subIn K (.ref cc_TooLarge) (.ref cc_LimitError) = some true)
    (sb_TooLarge_GivenError : PySem.W.subIn K (.ref cc_TooLarge) (.ref cc_GivenError) = some false)
    (sb_TooLarge_BadText : PySem.W.subIn K (.ref cc_TooLarge) (.ref cc_BadText) = some false)
    (sb_TooLarge_BadCall : PySem.W.subIn K (.ref cc_TooLarge) (.ref cc_BadCall) = some false)
    (sb_TooLarge_Misplaced : PySem.W.subIn K (.ref cc_TooLarge) (.ref cc_Misplaced) = some false)
    (sb_TooLarge_Unknown : PySem.W.subIn K (.ref cc_TooLarge) (.ref cc_Unknown) = some false)
    (sb_TooLarge_Twice : PySem.W.subIn K (.ref cc_TooLarge) (.ref cc_Twice) = some false)
    (sb_TooLarge_TooLong : PySem.W.subIn K (.ref cc_TooLarge) (.ref cc_TooLong) = some false)
    (sb_TooLarge_TooLarge : PySem.W.subIn K (.ref cc_TooLarge) (.ref cc_TooLarge) = some true)
    (sb_TooLarge_TooMany : PySem.W.subIn K (.ref cc_TooLarge) (.ref cc_TooMany) = some false)
    (sb_TooLarge_TooWide : PySem.W.subIn K (.ref cc_TooLarge) (.ref cc_TooWide) = some false)
    (sb_TooLarge_TooTall : PySem.W.subIn K (.ref cc_TooLarge) (.ref cc_TooTall) = some false)
    {fi_TooLarge : Addr} {odi_TooLarge ani_TooLarge : Option Addr} {sli_TooLarge : Array (Option Value)} {oci_TooLarge kVi_TooLarge dci_TooLarge pmi_TooLarge cdi_TooLarge cti_TooLarge : Value}
    (ii_TooLarge : PySem.W.findIn K (.ref cc_TooLarge) "__init__" = some (some (.ref fi_TooLarge))) (ti_TooLarge : PySem.W.typeIn K (.ref fi_TooLarge) = some (.type "function")) (li_TooLarge : K.lookup fi_TooLarge = some ⟨oci_TooLarge, odi_TooLarge, .func (PySem.W.fnOf "__init__" "TooLarge.__init__" (defArgs s_TooLarge_init) (defBody s_TooLarge_init) (defScope s_TooLarge_init) .none kVi_TooLarge dci_TooLarge pmi_TooLarge ani_TooLarge cdi_TooLarge cti_TooLarge), sli_TooLarge⟩) (ci_TooLarge : PySem.W.codeIn K cdi_TooLarge "TooLarge.__init__" = true) (ki_TooLarge : PySem.W.keepIn K (.ref fi_TooLarge) = true)
    : ∃ fd : FuncData, (∀ (s : Shared) (v : Value), BindsTo s fd ⟨[v], []⟩ [("_law_script", v)]) ∧ ∀ base : Heap, K.In base → base.Ns mainGlobals mg → FnOk l.prog w K mg base CX0 50 fa fd ["_law_script"] (spLaw K) := by
  have e := hfa.symm.trans (PySem.W.mg_of X G a_law)
  cases e
  have F_is_name := fun_mk (st := s_is_name) l_is_name c_is_name k_is_name
  have b_is_name := F_is_name.binds (ps := ["run"]) fun _ _ _ _ _ _ us hl => match us, hl with | [_], _ => rfl
  have F_consists_of := fun_mk (st := s_consists_of) l_consists_of c_consists_of k_consists_of
  have b_consists_of := F_consists_of.binds (ps := ["run", "allowed"]) fun _ _ _ _ _ _ us hl => match us, hl with | [_, _], _ => rfl
  have F_run_end := fun_mk (st := s_run_end) l_run_end c_run_end k_run_end
  have b_run_end := F_run_end.binds (ps := ["text", "at", "allowed"]) fun _ _ _ _ _ _ us hl => match us, hl with | [_, _, _], _ => rfl
  have F_check_macros := fun_mk (st := s_check_macros) l_check_macros c_check_macros k_check_macros
  have b_check_macros := F_check_macros.binds (ps := ["tree"]) fun _ _ _ _ _ _ us hl => match us, hl with | [_], _ => rfl
  have F_nesting_of := fun_mk (st := s_nesting_of) l_nesting_of c_nesting_of k_nesting_of
  have b_nesting_of := F_nesting_of.binds (ps := ["tree"]) fun _ _ _ _ _ _ us hl => match us, hl with | [_], _ => rfl
  have F_is_definition := fun_mk (st := s_is_definition) l_is_definition c_is_definition k_is_definition
  have b_is_definition := F_is_definition.binds (ps := ["node"]) fun _ _ _ _ _ _ us hl => match us, hl with | [_], _ => rfl
  have F_without_definitions := fun_mk (st := s_without_definitions) l_without_definitions c_without_definitions k_without_definitions
  have b_without_definitions := F_without_definitions.binds (ps := ["tree"]) fun _ _ _ _ _ _ us hl => match us, hl with | [_], _ => rfl
  have F_check_definition := fun_mk (st := s_check_definition) l_check_definition c_check_definition k_check_definition
  have b_check_definition := F_check_definition.binds (ps := ["node", "known"]) fun _ _ _ _ _ _ us hl => match us, hl with | [_, _], _ => rfl
  have F_names_of := fun_mk (st := s_names_of) l_names_of c_names_of k_names_of
  have b_names_of := F_names_of.binds (ps := ["given"]) fun _ _ _ _ _ _ us hl => match us, hl with | [_], _ => rfl
  have F_may_name := fun_mk (st := s_may_name) l_may_name c_may_name k_may_name
  have b_may_name := F_may_name.binds (ps := ["node"]) fun _ _ _ _ _ _ us hl => match us, hl with | [_], _ => rfl
  have F_check_node := fun_mk (st := s_check_node) l_check_node c_check_node k_check_node
  have b_check_node := F_check_node.binds (ps := ["node", "params", "known"]) fun _ _ _ _ _ _ us hl => match us, hl with | [_, _, _], _ => rfl
  have F_macros_of := fun_mk (st := s_macros_of) l_macros_of c_macros_of k_macros_of
  have b_macros_of := F_macros_of.binds (ps := ["tree"]) fun _ _ _ _ _ _ us hl => match us, hl with | [_], _ => rfl
  have F_expansion_size := fun_mk (st := s_expansion_size) l_expansion_size c_expansion_size k_expansion_size
  have b_expansion_size := F_expansion_size.binds (ps := ["tree", "sizes"]) fun _ _ _ _ _ _ us hl => match us, hl with | [_, _], _ => rfl
  have F_sizes_of := fun_mk (st := s_sizes_of) l_sizes_of c_sizes_of k_sizes_of
  have b_sizes_of := F_sizes_of.binds (ps := ["macros"]) fun _ _ _ _ _ _ us hl => match us, hl with | [_], _ => rfl
  have F_size := fun_mk (st := s_size) l_size c_size k_size
  have b_size := F_size.binds (ps := ["tree", "params", "sizes"]) fun _ _ _ _ _ _ us hl => match us, hl with | [_, _, _], _ => rfl
  have F_node_size := fun_mk (st := s_node_size) l_node_size c_node_size k_node_size
  have b_node_size := F_node_size.binds (ps := ["node", "params", "sizes"]) fun _ _ _ _ _ _ us hl => match us, hl with | [_, _, _], _ => rfl
  have F_built_in_size := fun_mk (st := s_built_in_size) l_built_in_size c_built_in_size k_built_in_size
  have b_built_in_size := F_built_in_size.binds (ps := ["many"]) fun _ _ _ _ _ _ us hl => match us, hl with | [_], _ => rfl
  have F_put_at := fun_mk (st := s_put_at) l_put_at c_put_at k_put_at
  have b_put_at := F_put_at.binds (ps := ["place", "size"]) fun _ _ _ _ _ _ us hl => match us, hl with | [_, _], _ => rfl
  have F_beside := fun_mk (st := s_beside) l_beside c_beside k_beside
  have b_beside := F_beside.binds (ps := ["size", "other"]) fun _ _ _ _ _ _ us hl => match us, hl with | [_, _], _ => rfl
  have F_law_begin := fun_mk (st := s_law_begin) l_law_begin c_law_begin k_law_begin
  have b_law_begin := F_law_begin.binds (ps := ["_law_script"]) fun _ _ _ _ _ _ us hl => match us, hl with | [_], _ => rfl
  have F_law_draw := fun_mk (st := s_law_draw) l_law_draw c_law_draw k_law_draw
  have b_law_draw := F_law_draw.binds (ps := ["_law_d", "_law_many"]) fun _ _ _ _ _ _ us hl => match us, hl with | [_, _], _ => rfl
  have F_law_pick := fun_mk (st := s_law_pick) l_law_pick c_law_pick k_law_pick
  have b_law_pick := F_law_pick.binds (ps := ["_law_d", "_law_row"]) fun _ _ _ _ _ _ us hl => match us, hl with | [_, _], _ => rfl
  have F_law_rare := fun_mk (st := s_law_rare) l_law_rare c_law_rare k_law_rare
  have b_law_rare := F_law_rare.binds (ps := ["_law_d", "_law_many"]) fun _ _ _ _ _ _ us hl => match us, hl with | [_, _], _ => rfl
  have F_law_shuffled := fun_mk (st := s_law_shuffled) l_law_shuffled c_law_shuffled k_law_shuffled
  have b_law_shuffled := F_law_shuffled.binds (ps := ["_law_d", "_law_row"]) fun _ _ _ _ _ _ us hl => match us, hl with | [_, _], _ => rfl
  have F_law_names := fun_mk (st := s_law_names) l_law_names c_law_names k_law_names
  have b_law_names := F_law_names.binds (ps := ["_law_d", "_law_many"]) fun _ _ _ _ _ _ us hl => match us, hl with | [_, _], _ => rfl
  have F_law_word := fun_mk (st := s_law_word) l_law_word c_law_word k_law_word
  have b_law_word := F_law_word.binds (ps := ["_law_d", "_law_low", "_law_high"]) fun _ _ _ _ _ _ us hl => match us, hl with | [_, _, _], _ => rfl
  have F_law_built := fun_mk (st := s_law_built) l_law_built c_law_built k_law_built
  have b_law_built := F_law_built.binds (ps := []) fun _ _ _ _ _ _ us hl => match us, hl with | [], _ => rfl
  have F_law_is_name := fun_mk (st := s_law_is_name) l_law_is_name c_law_is_name k_law_is_name
  have b_law_is_name := F_law_is_name.binds (ps := ["_law_word_here"]) fun _ _ _ _ _ _ us hl => match us, hl with | [_], _ => rfl
  have F_law_call_faults := fun_mk (st := s_law_call_faults) l_law_call_faults c_law_call_faults k_law_call_faults
  have b_law_call_faults := F_law_call_faults.binds (ps := ["_law_node_here", "_law_params", "_law_known", "_law_built_here"]) fun _ _ _ _ _ _ us hl => match us, hl with | [_, _, _, _], _ => rfl
  have F_law_bad_let := fun_mk (st := s_law_bad_let) l_law_bad_let c_law_bad_let k_law_bad_let
  have b_law_bad_let := F_law_bad_let.binds (ps := ["_law_node_here", "_law_built_here"]) fun _ _ _ _ _ _ us hl => match us, hl with | [_, _], _ => rfl
  have F_law_fault := fun_mk (st := s_law_fault) l_law_fault c_law_fault k_law_fault
  have b_law_fault := F_law_fault.binds (ps := ["_law_tree_here"]) fun _ _ _ _ _ _ us hl => match us, hl with | [_], _ => rfl
  have F_law_tree := fun_mk (st := s_law_tree) l_law_tree c_law_tree k_law_tree
  have b_law_tree := F_law_tree.binds (ps := ["_law_d", "_law_many", "_law_scope", "_law_pool", "_law_deep_here", "_law_odd"]) fun _ _ _ _ _ _ us hl => match us, hl with | [_, _, _, _, _, _], _ => rfl
  have F_law_node := fun_mk (st := s_law_node) l_law_node c_law_node k_law_node
  have b_law_node := F_law_node.binds (ps := ["_law_d", "_law_scope", "_law_pool", "_law_deep_here", "_law_odd"]) fun _ _ _ _ _ _ us hl => match us, hl with | [_, _, _, _, _], _ => rfl
  have F_law_bent := fun_mk (st := s_law_bent) l_law_bent c_law_bent k_law_bent
  have b_law_bent := F_law_bent.binds (ps := ["_law_d", "_law_names_here", "_law_body", "_law_scope"]) fun _ _ _ _ _ _ us hl => match us, hl with | [_, _, _, _], _ => rfl
  have F_law_let := fun_mk (st := s_law_let) l_law_let c_law_let k_law_let
  have b_law_let := F_law_let.binds (ps := ["_law_d", "_law_scope", "_law_pool", "_law_deep_here", "_law_odd"]) fun _ _ _ _ _ _ us hl => match us, hl with | [_, _, _, _, _], _ => rfl
  have F_law_world := fun_mk (st := s_law_world) l_law_world c_law_world k_law_world
  have b_law_world := F_law_world.binds (ps := ["_law_d", "_law_many", "_law_pool", "_law_deep_here", "_law_odd"]) fun _ _ _ _ _ _ us hl => match us, hl with | [_, _, _, _, _], _ => rfl
  have F_law_title := fun_mk (st := s_law_title) l_law_title c_law_title k_law_title
  have b_law_title := F_law_title.binds (ps := ["_law_k"]) fun _ _ _ _ _ _ us hl => match us, hl with | [_], _ => rfl
  have F_law_form := fun_mk (st := s_law_form) l_law_form c_law_form k_law_form
  have b_law_form := F_law_form.binds (ps := ["_law_names_here", "_law_body", "_law_forms"]) fun _ _ _ _ _ _ us hl => match us, hl with | [_, _, _], _ => rfl
  have F_law_size := fun_mk (st := s_law_size) l_law_size c_law_size k_law_size
  have b_law_size := F_law_size.binds (ps := ["_law_tree_here", "_law_sizes", "_law_forms"]) fun _ _ _ _ _ _ us hl => match us, hl with | [_, _, _], _ => rfl
  have F_law_menu := fun_mk (st := s_law_menu) l_law_menu c_law_menu k_law_menu
  have b_law_menu := F_law_menu.binds (ps := ["_law_params", "_law_word_here"]) fun _ _ _ _ _ _ us hl => match us, hl with | [_, _], _ => rfl
  have F_law_wrapped := fun_mk (st := s_law_wrapped) l_law_wrapped c_law_wrapped k_law_wrapped
  have b_law_wrapped := F_law_wrapped.binds (ps := ["_law_d", "_law_tree_here"]) fun _ _ _ _ _ _ us hl => match us, hl with | [_, _], _ => rfl
  have F_law_link := fun_mk (st := s_law_link) l_law_link c_law_link k_law_link
  have b_law_link := F_law_link.binds (ps := ["_law_d", "_law_kind", "_law_last", "_law_params", "_law_word_here"]) fun _ _ _ _ _ _ us hl => match us, hl with | [_, _, _, _, _], _ => rfl
  have F_law_chain := fun_mk (st := s_law_chain) l_law_chain c_law_chain k_law_chain
  have b_law_chain := F_law_chain.binds (ps := ["_law_d", "_law_many"]) fun _ _ _ _ _ _ us hl => match us, hl with | [_, _], _ => rfl
  have F_law_deep := fun_mk (st := s_law_deep) l_law_deep c_law_deep k_law_deep
  have b_law_deep := F_law_deep.binds (ps := ["_law_tree_here", "_law_deeps", "_law_reaches"]) fun _ _ _ _ _ _ us hl => match us, hl with | [_, _, _], _ => rfl
  have F_law_reach := fun_mk (st := s_law_reach) l_law_reach c_law_reach k_law_reach
  have b_law_reach := F_law_reach.binds (ps := ["_law_names_here", "_law_body", "_law_reaches"]) fun _ _ _ _ _ _ us hl => match us, hl with | [_, _, _], _ => rfl
  have F_law_nesting := fun_mk (st := s_law_nesting) l_law_nesting c_law_nesting k_law_nesting
  have b_law_nesting := F_law_nesting.binds (ps := ["_law_tree_here"]) fun _ _ _ _ _ _ us hl => match us, hl with | [_], _ => rfl
  have F_law_told := fun_mk (st := s_law_told) l_law_told c_law_told k_law_told
  have b_law_told := F_law_told.binds (ps := ["_law_tree_here"]) fun _ _ _ _ _ _ us hl => match us, hl with | [_], _ => rfl
  have F_law := fun_mk (st := s_law) l_law c_law k_law
  have b_law := F_law.binds (ps := ["_law_script"]) fun _ _ _ _ _ _ us hl => match us, hl with | [_], _ => rfl
  have Fi_BadCall := fun_mk (st := s_BadCall_init) li_BadCall ci_BadCall ki_BadCall
  have bi_BadCall := Fi_BadCall.binds (ps := ["self", "name"]) fun _ _ _ _ _ _ us hl => match us, hl with | [_, _], _ => rfl
  have Fi_Unknown := fun_mk (st := s_Unknown_init) li_Unknown ci_Unknown ki_Unknown
  have bi_Unknown := Fi_Unknown.binds (ps := ["self", "name"]) fun _ _ _ _ _ _ us hl => match us, hl with | [_, _], _ => rfl
  have Fi_Twice := fun_mk (st := s_Twice_init) li_Twice ci_Twice ki_Twice
  have bi_Twice := Fi_Twice.binds (ps := ["self", "name"]) fun _ _ _ _ _ _ us hl => match us, hl with | [_, _], _ => rfl
  have Fi_TooLarge := fun_mk (st := s_TooLarge_init) li_TooLarge ci_TooLarge ki_TooLarge
  have bi_TooLarge := Fi_TooLarge.binds (ps := ["self", "part"]) fun _ _ _ _ _ _ us hl => match us, hl with | [_, _], _ => rfl
  exact ⟨PySem.W.fnOf "law" "law" (defArgs s_law) (defBody s_law) (defScope s_law) .none kV_law dc_law pm_law an_law cd_law ct_law, fun s v => .of_eq rfl, fun base _ _ => ok_law (T := {
    a_is_name := _,
    d_is_name := _,
    D_is_name := ⟨F_is_name, PySem.W.mg_of X G a_is_name, b_is_name, ⟨_, _, _, _, _, _, rfl⟩⟩,
    a_consists_of := _,
    d_consists_of := _,
    D_consists_of := ⟨F_consists_of, PySem.W.mg_of X G a_consists_of, b_consists_of, ⟨_, _, _, _, _, _, rfl⟩⟩,
    a_run_end := _,
    d_run_end := _,
    D_run_end := ⟨F_run_end, PySem.W.mg_of X G a_run_end, b_run_end, ⟨_, _, _, _, _, _, rfl⟩⟩,
    a_check_macros := _,
    d_check_macros := _,
    D_check_macros := ⟨F_check_macros, PySem.W.mg_of X G a_check_macros, b_check_macros, ⟨_, _, _, _, _, _, rfl⟩⟩,
    a_nesting_of := _,
    d_nesting_of := _,
    D_nesting_of := ⟨F_nesting_of, PySem.W.mg_of X G a_nesting_of, b_nesting_of, ⟨_, _, _, _, _, _, rfl⟩⟩,
    a_is_definition := _,
    d_is_definition := _,
    D_is_definition := ⟨F_is_definition, PySem.W.mg_of X G a_is_definition, b_is_definition, ⟨_, _, _, _, _, _, rfl⟩⟩,
    a_without_definitions := _,
    d_without_definitions := _,
    D_without_definitions := ⟨F_without_definitions, PySem.W.mg_of X G a_without_definitions, b_without_definitions, ⟨_, _, _, _, _, _, rfl⟩⟩,
    a_check_definition := _,
    d_check_definition := _,
    D_check_definition := ⟨F_check_definition, PySem.W.mg_of X G a_check_definition, b_check_definition, ⟨_, _, _, _, _, _, rfl⟩⟩,
    a_names_of := _,
    d_names_of := _,
    D_names_of := ⟨F_names_of, PySem.W.mg_of X G a_names_of, b_names_of, ⟨_, _, _, _, _, _, rfl⟩⟩,
    a_may_name := _,
    d_may_name := _,
    D_may_name := ⟨F_may_name, PySem.W.mg_of X G a_may_name, b_may_name, ⟨_, _, _, _, _, _, rfl⟩⟩,
    a_check_node := _,
    d_check_node := _,
    D_check_node := ⟨F_check_node, PySem.W.mg_of X G a_check_node, b_check_node, ⟨_, _, _, _, _, _, rfl⟩⟩,
    a_macros_of := _,
    d_macros_of := _,
    D_macros_of := ⟨F_macros_of, PySem.W.mg_of X G a_macros_of, b_macros_of, ⟨_, _, _, _, _, _, rfl⟩⟩,
    a_expansion_size := _,
    d_expansion_size := _,
    D_expansion_size := ⟨F_expansion_size, PySem.W.mg_of X G a_expansion_size, b_expansion_size, ⟨_, _, _, _, _, _, rfl⟩⟩,
    a_sizes_of := _,
    d_sizes_of := _,
    D_sizes_of := ⟨F_sizes_of, PySem.W.mg_of X G a_sizes_of, b_sizes_of, ⟨_, _, _, _, _, _, rfl⟩⟩,
    a_size := _,
    d_size := _,
    D_size := ⟨F_size, PySem.W.mg_of X G a_size, b_size, ⟨_, _, _, _, _, _, rfl⟩⟩,
    a_node_size := _,
    d_node_size := _,
    D_node_size := ⟨F_node_size, PySem.W.mg_of X G a_node_size, b_node_size, ⟨_, _, _, _, _, _, rfl⟩⟩,
    a_built_in_size := _,
    d_built_in_size := _,
    D_built_in_size := ⟨F_built_in_size, PySem.W.mg_of X G a_built_in_size, b_built_in_size, ⟨_, _, _, _, _, _, rfl⟩⟩,
    a_put_at := _,
    d_put_at := _,
    D_put_at := ⟨F_put_at, PySem.W.mg_of X G a_put_at, b_put_at, ⟨_, _, _, _, _, _, rfl⟩⟩,
    a_beside := _,
    d_beside := _,
    D_beside := ⟨F_beside, PySem.W.mg_of X G a_beside, b_beside, ⟨_, _, _, _, _, _, rfl⟩⟩,
    a_law_begin := _,
    d_law_begin := _,
    D_law_begin := ⟨F_law_begin, PySem.W.mg_of X G a_law_begin, b_law_begin, ⟨_, _, _, _, _, _, rfl⟩⟩,
    a_law_draw := _,
    d_law_draw := _,
    D_law_draw := ⟨F_law_draw, PySem.W.mg_of X G a_law_draw, b_law_draw, ⟨_, _, _, _, _, _, rfl⟩⟩,
    a_law_pick := _,
    d_law_pick := _,
    D_law_pick := ⟨F_law_pick, PySem.W.mg_of X G a_law_pick, b_law_pick, ⟨_, _, _, _, _, _, rfl⟩⟩,
    a_law_rare := _,
    d_law_rare := _,
    D_law_rare := ⟨F_law_rare, PySem.W.mg_of X G a_law_rare, b_law_rare, ⟨_, _, _, _, _, _, rfl⟩⟩,
    a_law_shuffled := _,
    d_law_shuffled := _,
    D_law_shuffled := ⟨F_law_shuffled, PySem.W.mg_of X G a_law_shuffled, b_law_shuffled, ⟨_, _, _, _, _, _, rfl⟩⟩,
    a_law_names := _,
    d_law_names := _,
    D_law_names := ⟨F_law_names, PySem.W.mg_of X G a_law_names, b_law_names, ⟨_, _, _, _, _, _, rfl⟩⟩,
    a_law_word := _,
    d_law_word := _,
    D_law_word := ⟨F_law_word, PySem.W.mg_of X G a_law_word, b_law_word, ⟨_, _, _, _, _, _, rfl⟩⟩,
    a_law_built := _,
    d_law_built := _,
    D_law_built := ⟨F_law_built, PySem.W.mg_of X G a_law_built, b_law_built, ⟨_, _, _, _, _, _, rfl⟩⟩,
    a_law_is_name := _,
    d_law_is_name := _,
    D_law_is_name := ⟨F_law_is_name, PySem.W.mg_of X G a_law_is_name, b_law_is_name, ⟨_, _, _, _, _, _, rfl⟩⟩,
    a_law_call_faults := _,
    d_law_call_faults := _,
    D_law_call_faults := ⟨F_law_call_faults, PySem.W.mg_of X G a_law_call_faults, b_law_call_faults, ⟨_, _, _, _, _, _, rfl⟩⟩,
    a_law_bad_let := _,
    d_law_bad_let := _,
    D_law_bad_let := ⟨F_law_bad_let, PySem.W.mg_of X G a_law_bad_let, b_law_bad_let, ⟨_, _, _, _, _, _, rfl⟩⟩,
    a_law_fault := _,
    d_law_fault := _,
    D_law_fault := ⟨F_law_fault, PySem.W.mg_of X G a_law_fault, b_law_fault, ⟨_, _, _, _, _, _, rfl⟩⟩,
    a_law_tree := _,
    d_law_tree := _,
    D_law_tree := ⟨F_law_tree, PySem.W.mg_of X G a_law_tree, b_law_tree, ⟨_, _, _, _, _, _, rfl⟩⟩,
    a_law_node := _,
    d_law_node := _,
    D_law_node := ⟨F_law_node, PySem.W.mg_of X G a_law_node, b_law_node, ⟨_, _, _, _, _, _, rfl⟩⟩,
    a_law_bent := _,
    d_law_bent := _,
    D_law_bent := ⟨F_law_bent, PySem.W.mg_of X G a_law_bent, b_law_bent, ⟨_, _, _, _, _, _, rfl⟩⟩,
    a_law_let := _,
    d_law_let := _,
    D_law_let := ⟨F_law_let, PySem.W.mg_of X G a_law_let, b_law_let, ⟨_, _, _, _, _, _, rfl⟩⟩,
    a_law_world := _,
    d_law_world := _,
    D_law_world := ⟨F_law_world, PySem.W.mg_of X G a_law_world, b_law_world, ⟨_, _, _, _, _, _, rfl⟩⟩,
    a_law_title := _,
    d_law_title := _,
    D_law_title := ⟨F_law_title, PySem.W.mg_of X G a_law_title, b_law_title, ⟨_, _, _, _, _, _, rfl⟩⟩,
    a_law_form := _,
    d_law_form := _,
    D_law_form := ⟨F_law_form, PySem.W.mg_of X G a_law_form, b_law_form, ⟨_, _, _, _, _, _, rfl⟩⟩,
    a_law_size := _,
    d_law_size := _,
    D_law_size := ⟨F_law_size, PySem.W.mg_of X G a_law_size, b_law_size, ⟨_, _, _, _, _, _, rfl⟩⟩,
    a_law_menu := _,
    d_law_menu := _,
    D_law_menu := ⟨F_law_menu, PySem.W.mg_of X G a_law_menu, b_law_menu, ⟨_, _, _, _, _, _, rfl⟩⟩,
    a_law_wrapped := _,
    d_law_wrapped := _,
    D_law_wrapped := ⟨F_law_wrapped, PySem.W.mg_of X G a_law_wrapped, b_law_wrapped, ⟨_, _, _, _, _, _, rfl⟩⟩,
    a_law_link := _,
    d_law_link := _,
    D_law_link := ⟨F_law_link, PySem.W.mg_of X G a_law_link, b_law_link, ⟨_, _, _, _, _, _, rfl⟩⟩,
    a_law_chain := _,
    d_law_chain := _,
    D_law_chain := ⟨F_law_chain, PySem.W.mg_of X G a_law_chain, b_law_chain, ⟨_, _, _, _, _, _, rfl⟩⟩,
    a_law_deep := _,
    d_law_deep := _,
    D_law_deep := ⟨F_law_deep, PySem.W.mg_of X G a_law_deep, b_law_deep, ⟨_, _, _, _, _, _, rfl⟩⟩,
    a_law_reach := _,
    d_law_reach := _,
    D_law_reach := ⟨F_law_reach, PySem.W.mg_of X G a_law_reach, b_law_reach, ⟨_, _, _, _, _, _, rfl⟩⟩,
    a_law_nesting := _,
    d_law_nesting := _,
    D_law_nesting := ⟨F_law_nesting, PySem.W.mg_of X G a_law_nesting, b_law_nesting, ⟨_, _, _, _, _, _, rfl⟩⟩,
    a_law_told := _,
    d_law_told := _,
    D_law_told := ⟨F_law_told, PySem.W.mg_of X G a_law_told, b_law_told, ⟨_, _, _, _, _, _, rfl⟩⟩,
    a_law := _,
    d_law := _,
    D_law := ⟨F_law, PySem.W.mg_of X G a_law, b_law, ⟨_, _, _, _, _, _, rfl⟩⟩,
    t_LETTERS := _,
    m_LETTERS := PySem.W.mg_of X G m_LETTERS,
    t_LONGEST_NAME := _,
    m_LONGEST_NAME := PySem.W.mg_of X G m_LONGEST_NAME,
    t_BUILT_IN := _,
    m_BUILT_IN := PySem.W.mg_of X G m_BUILT_IN,
    s_BUILT_IN := fun H => .inr ⟨_, ti_BUILT_IN, tn_BUILT_IN, tl_BUILT_IN, rfl, rfl, (by have e := tv_BUILT_IN.length; show ti_BUILT_IN.toList.length ≤ sizeLine; rw [← e]; decide), tv_BUILT_IN⟩,
    t_MOST_MACROS := _,
    m_MOST_MACROS := PySem.W.mg_of X G m_MOST_MACROS,
    t_MOST_NAMES := _,
    m_MOST_NAMES := PySem.W.mg_of X G m_MOST_NAMES,
    n_ValueError := PySem.W.mg_none_of X G n_ValueError,
    n_bool := PySem.W.mg_none_of X G n_bool,
    n_int := PySem.W.mg_none_of X G n_int,
    n_isinstance := PySem.W.mg_none_of X G n_isinstance,
    n_len := PySem.W.mg_none_of X G n_len,
    n_list := PySem.W.mg_none_of X G n_list,
    n_max := PySem.W.mg_none_of X G n_max,
    n_min := PySem.W.mg_none_of X G n_min,
    n_range := PySem.W.mg_none_of X G n_range,
    n_set := PySem.W.mg_none_of X G n_set,
    n_tuple := PySem.W.mg_none_of X G n_tuple,
    n_zip := PySem.W.mg_none_of X G n_zip,
    c_PagesError := _,
    C_PagesError := ⟨PySem.W.mg_of X G g_PagesError, ic_PagesError, ty_PagesError⟩,
    c_RecordError := _,
    C_RecordError := ⟨PySem.W.mg_of X G g_RecordError, ic_RecordError, ty_RecordError⟩,
    c_LimitError := _,
    C_LimitError := ⟨PySem.W.mg_of X G g_LimitError, ic_LimitError, ty_LimitError⟩,
    c_GivenError := _,
    C_GivenError := ⟨PySem.W.mg_of X G g_GivenError, ic_GivenError, ty_GivenError⟩,
    c_BadText := _,
    C_BadText := ⟨PySem.W.mg_of X G g_BadText, ic_BadText, ty_BadText⟩,
    c_BadCall := _,
    C_BadCall := ⟨PySem.W.mg_of X G g_BadCall, ic_BadCall, ty_BadCall⟩,
    c_Misplaced := _,
    C_Misplaced := ⟨PySem.W.mg_of X G g_Misplaced, ic_Misplaced, ty_Misplaced⟩,
    c_Unknown := _,
    C_Unknown := ⟨PySem.W.mg_of X G g_Unknown, ic_Unknown, ty_Unknown⟩,
    c_Twice := _,
    C_Twice := ⟨PySem.W.mg_of X G g_Twice, ic_Twice, ty_Twice⟩,
    c_TooLong := _,
    C_TooLong := ⟨PySem.W.mg_of X G g_TooLong, ic_TooLong, ty_TooLong⟩,
    c_TooLarge := _,
    C_TooLarge := ⟨PySem.W.mg_of X G g_TooLarge, ic_TooLarge, ty_TooLarge⟩,
    c_TooMany := _,
    C_TooMany := ⟨PySem.W.mg_of X G g_TooMany, ic_TooMany, ty_TooMany⟩,
    c_TooWide := _,
    C_TooWide := ⟨PySem.W.mg_of X G g_TooWide, ic_TooWide, ty_TooWide⟩,
    c_TooTall := _,
    C_TooTall := ⟨PySem.W.mg_of X G g_TooTall, ic_TooTall, ty_TooTall⟩,
    i_BadCall := _,
    d_BadCall := _,
    E_BadCall := ⟨PySem.W.mg_of X G g_BadCall, ⟨⟨_, _, _, _, _, _, _, _, _, _, _, _, _, _, _, xL_BadCall, rv_BadCall⟩, sa_BadCall, ex_BadCall, ty_BadCall, kp_BadCall⟩, ⟨ga_BadCall, gg_BadCall, ex_BadCall, hd_BadCall, ha_BadCall, o_hn, o_ht, hm_BadCall⟩, ⟨ga_BadCall, gg_BadCall, ex_BadCall, hd_BadCall⟩, ii_BadCall, ti_BadCall, Fi_BadCall, bi_BadCall, fun f hf => by simp only [List.mem_cons, List.not_mem_nil, or_false] at hf; subst hf; exact no_BadCall_name⟩,
    k_BadCall_PagesError := kit_ref sb_BadCall_BadCall ic_PagesError ty_PagesError sb_BadCall_PagesError,
    k_BadCall_RecordError := kit_ref sb_BadCall_BadCall ic_RecordError ty_RecordError sb_BadCall_RecordError,
    k_BadCall_LimitError := kit_ref sb_BadCall_BadCall ic_LimitError ty_LimitError sb_BadCall_LimitError,
    k_BadCall_GivenError := kit_ref sb_BadCall_BadCall ic_GivenError ty_GivenError sb_BadCall_GivenError,
    k_BadCall_BadText := kit_ref sb_BadCall_BadCall ic_BadText ty_BadText sb_BadCall_BadText,
    k_BadCall_BadCall := kit_ref sb_BadCall_BadCall ic_BadCall ty_BadCall sb_BadCall_BadCall,
    k_BadCall_Misplaced := kit_ref sb_BadCall_BadCall ic_Misplaced ty_Misplaced sb_BadCall_Misplaced,
    k_BadCall_Unknown := kit_ref sb_BadCall_BadCall ic_Unknown ty_Unknown sb_BadCall_Unknown,
    k_BadCall_Twice := kit_ref sb_BadCall_BadCall ic_Twice ty_Twice sb_BadCall_Twice,
    k_BadCall_TooLong := kit_ref sb_BadCall_BadCall ic_TooLong ty_TooLong sb_BadCall_TooLong,
    k_BadCall_TooLarge := kit_ref sb_BadCall_BadCall ic_TooLarge ty_TooLarge sb_BadCall_TooLarge,
    k_BadCall_TooMany := kit_ref sb_BadCall_BadCall ic_TooMany ty_TooMany sb_BadCall_TooMany,
    k_BadCall_TooWide := kit_ref sb_BadCall_BadCall ic_TooWide ty_TooWide sb_BadCall_TooWide,
    k_BadCall_TooTall := kit_ref sb_BadCall_BadCall ic_TooTall ty_TooTall sb_BadCall_TooTall,
    v_BadCall := kit_typ vs_BadCall,
    x_BadCall := exm_ref bx_PagesError ic_PagesError ty_PagesError sb_BadCall_PagesError,
    i_Unknown := _,
    d_Unknown := _,
    E_Unknown := ⟨PySem.W.mg_of X G g_Unknown, ⟨⟨_, _, _, _, _, _, _, _, _, _, _, _, _, _, _, xL_Unknown, rv_Unknown⟩, sa_Unknown, ex_Unknown, ty_Unknown, kp_Unknown⟩, ⟨ga_Unknown, gg_Unknown, ex_Unknown, hd_Unknown, ha_Unknown, o_hn, o_ht, hm_Unknown⟩, ⟨ga_Unknown, gg_Unknown, ex_Unknown, hd_Unknown⟩, ii_Unknown, ti_Unknown, Fi_Unknown, bi_Unknown, fun f hf => by simp only [List.mem_cons, List.not_mem_nil, or_false] at hf; subst hf; exact no_Unknown_name⟩,
    k_Unknown_PagesError := kit_ref sb_Unknown_Unknown ic_PagesError ty_PagesError sb_Unknown_PagesError,
    k_Unknown_RecordError := kit_ref sb_Unknown_Unknown ic_RecordError ty_RecordError sb_Unknown_RecordError,
    k_Unknown_LimitError := kit_ref sb_Unknown_Unknown ic_LimitError ty_LimitError sb_Unknown_LimitError,
    k_Unknown_GivenError := kit_ref sb_Unknown_Unknown ic_GivenError ty_GivenError sb_Unknown_GivenError,
    k_Unknown_BadText := kit_ref sb_Unknown_Unknown ic_BadText ty_BadText sb_Unknown_BadText,
    k_Unknown_BadCall := kit_ref sb_Unknown_Unknown ic_BadCall ty_BadCall sb_Unknown_BadCall,
    k_Unknown_Misplaced := kit_ref sb_Unknown_Unknown ic_Misplaced ty_Misplaced sb_Unknown_Misplaced,
    k_Unknown_Unknown := kit_ref sb_Unknown_Unknown ic_Unknown ty_Unknown sb_Unknown_Unknown,
    k_Unknown_Twice := kit_ref sb_Unknown_Unknown ic_Twice ty_Twice sb_Unknown_Twice,
    k_Unknown_TooLong := kit_ref sb_Unknown_Unknown ic_TooLong ty_TooLong sb_Unknown_TooLong,
    k_Unknown_TooLarge := kit_ref sb_Unknown_Unknown ic_TooLarge ty_TooLarge sb_Unknown_TooLarge,
    k_Unknown_TooMany := kit_ref sb_Unknown_Unknown ic_TooMany ty_TooMany sb_Unknown_TooMany,
    k_Unknown_TooWide := kit_ref sb_Unknown_Unknown ic_TooWide ty_TooWide sb_Unknown_TooWide,
    k_Unknown_TooTall := kit_ref sb_Unknown_Unknown ic_TooTall ty_TooTall sb_Unknown_TooTall,
    v_Unknown := kit_typ vs_Unknown,
    x_Unknown := exm_ref bx_PagesError ic_PagesError ty_PagesError sb_Unknown_PagesError,
    i_Twice := _,
    d_Twice := _,
    E_Twice := ⟨PySem.W.mg_of X G g_Twice, ⟨⟨_, _, _, _, _, _, _, _, _, _, _, _, _, _, _, xL_Twice, rv_Twice⟩, sa_Twice, ex_Twice, ty_Twice, kp_Twice⟩, ⟨ga_Twice, gg_Twice, ex_Twice, hd_Twice, ha_Twice, o_hn, o_ht, hm_Twice⟩, ⟨ga_Twice, gg_Twice, ex_Twice, hd_Twice⟩, ii_Twice, ti_Twice, Fi_Twice, bi_Twice, fun f hf => by simp only [List.mem_cons, List.not_mem_nil, or_false] at hf; subst hf; exact no_Twice_name⟩,
    k_Twice_PagesError := kit_ref sb_Twice_Twice ic_PagesError ty_PagesError sb_Twice_PagesError,
    k_Twice_RecordError := kit_ref sb_Twice_Twice ic_RecordError ty_RecordError sb_Twice_RecordError,
    k_Twice_LimitError := kit_ref sb_Twice_Twice ic_LimitError ty_LimitError sb_Twice_LimitError,
    k_Twice_GivenError := kit_ref sb_Twice_Twice ic_GivenError ty_GivenError sb_Twice_GivenError,
    k_Twice_BadText := kit_ref sb_Twice_Twice ic_BadText ty_BadText sb_Twice_BadText,
    k_Twice_BadCall := kit_ref sb_Twice_Twice ic_BadCall ty_BadCall sb_Twice_BadCall,
    k_Twice_Misplaced := kit_ref sb_Twice_Twice ic_Misplaced ty_Misplaced sb_Twice_Misplaced,
    k_Twice_Unknown := kit_ref sb_Twice_Twice ic_Unknown ty_Unknown sb_Twice_Unknown,
    k_Twice_Twice := kit_ref sb_Twice_Twice ic_Twice ty_Twice sb_Twice_Twice,
    k_Twice_TooLong := kit_ref sb_Twice_Twice ic_TooLong ty_TooLong sb_Twice_TooLong,
    k_Twice_TooLarge := kit_ref sb_Twice_Twice ic_TooLarge ty_TooLarge sb_Twice_TooLarge,
    k_Twice_TooMany := kit_ref sb_Twice_Twice ic_TooMany ty_TooMany sb_Twice_TooMany,
    k_Twice_TooWide := kit_ref sb_Twice_Twice ic_TooWide ty_TooWide sb_Twice_TooWide,
    k_Twice_TooTall := kit_ref sb_Twice_Twice ic_TooTall ty_TooTall sb_Twice_TooTall,
    v_Twice := kit_typ vs_Twice,
    x_Twice := exm_ref bx_PagesError ic_PagesError ty_PagesError sb_Twice_PagesError,
    i_TooLarge := _,
    d_TooLarge := _,
    E_TooLarge := ⟨PySem.W.mg_of X G g_TooLarge, ⟨⟨_, _, _, _, _, _, _, _, _, _, _, _, _, _, _, xL_TooLarge, rv_TooLarge⟩, sa_TooLarge, ex_TooLarge, ty_TooLarge, kp_TooLarge⟩, ⟨ga_TooLarge, gg_TooLarge, ex_TooLarge, hd_TooLarge, ha_TooLarge, o_hn, o_ht, hm_TooLarge⟩, ⟨ga_TooLarge, gg_TooLarge, ex_TooLarge, hd_TooLarge⟩, ii_TooLarge, ti_TooLarge, Fi_TooLarge, bi_TooLarge, fun f hf => by simp only [List.mem_cons, List.not_mem_nil, or_false] at hf; subst hf; exact no_TooLarge_part⟩,
    k_TooLarge_PagesError := kit_ref sb_TooLarge_TooLarge ic_PagesError ty_PagesError sb_TooLarge_PagesError,
    k_TooLarge_RecordError := kit_ref sb_TooLarge_TooLarge ic_RecordError ty_RecordError sb_TooLarge_RecordError,
    k_TooLarge_LimitError := kit_ref sb_TooLarge_TooLarge ic_LimitError ty_LimitError sb_TooLarge_LimitError,
    k_TooLarge_GivenError := kit_ref sb_TooLarge_TooLarge ic_GivenError ty_GivenError sb_TooLarge_GivenError,
    k_TooLarge_BadText := kit_ref sb_TooLarge_TooLarge ic_BadText ty_BadText sb_TooLarge_BadText,
    k_TooLarge_BadCall := kit_ref sb_TooLarge_TooLarge ic_BadCall ty_BadCall sb_TooLarge_BadCall,
    k_TooLarge_Misplaced := kit_ref sb_TooLarge_TooLarge ic_Misplaced ty_Misplaced sb_TooLarge_Misplaced,
    k_TooLarge_Unknown := kit_ref sb_TooLarge_TooLarge ic_Unknown ty_Unknown sb_TooLarge_Unknown,
    k_TooLarge_Twice := kit_ref sb_TooLarge_TooLarge ic_Twice ty_Twice sb_TooLarge_Twice,
    k_TooLarge_TooLong := kit_ref sb_TooLarge_TooLarge ic_TooLong ty_TooLong sb_TooLarge_TooLong,
    k_TooLarge_TooLarge := kit_ref sb_TooLarge_TooLarge ic_TooLarge ty_TooLarge sb_TooLarge_TooLarge,
    k_TooLarge_TooMany := kit_ref sb_TooLarge_TooLarge ic_TooMany ty_TooMany sb_TooLarge_TooMany,
    k_TooLarge_TooWide := kit_ref sb_TooLarge_TooLarge ic_TooWide ty_TooWide sb_TooLarge_TooWide,
    k_TooLarge_TooTall := kit_ref sb_TooLarge_TooLarge ic_TooTall ty_TooTall sb_TooLarge_TooTall,
    v_TooLarge := kit_typ vs_TooLarge,
    x_TooLarge := exm_ref bx_PagesError ic_PagesError ty_PagesError sb_TooLarge_PagesError })⟩
end Vf
open PySem PySem.W PyProof.Rows
set_option maxHeartbeats 0 in
theorem PySem.Challenge.cw_hushedpages_k12_nestings_holds : PySem.Challenge.rw_hushedpages_k12_nestings.Holds := by
  w_on; o_law; k_head; (case hw => w_witness2)
  k_fill
  refine L2.walk_of (l := PySem.Challenge.rw_hushedpages_k12_nestings) (n := 63) (k := 50) (x := "_law_script") (CX := fun _ => L2.CX0) (sp := fun w => Vf.spLaw _) rfl (by decide) rfl ⟨rfl, by decide, by decide⟩ (fun w h Y => PySem.W.kIn_of Y) ?F (fun _ _ a ns hl _ hS => ⟨a, ns, rfl, hS, hl, fun _ => rfl⟩) (fun _ _ _ _ _ h => h)
  case F =>
    intro w mg fa h KX G hmg
    refine' Vf.all_mk KX G hmg ?a_is_name ?l_is_name ?c_is_name ?k_is_name ?a_consists_of ?l_consists_of ?c_consists_of ?k_consists_of ?a_run_end ?l_run_end ?c_run_end ?k_run_end ?a_check_macros ?l_check_macros ?c_check_macros ?k_check_macros ?a_nesting_of ?l_nesting_of ?c_nesting_of ?k_nesting_of ?a_is_definition ?l_is_definition ?c_is_definition ?k_is_definition ?a_without_definitions ?l_without_definitions ?c_without_definitions ?k_without_definitions ?a_check_definition ?l_check_definition ?c_check_definition ?k_check_definition ?a_names_of ?l_names_of ?c_names_of ?k_names_of ?a_may_name ?l_may_name ?c_may_name ?k_may_name ?a_check_node ?l_check_node ?c_check_node ?k_check_node ?a_macros_of ?l_macros_of ?c_macros_of ?k_macros_of ?a_expansion_size ?l_expansion_size ?c_expansion_size ?k_expansion_size ?a_sizes_of ?l_sizes_of ?c_sizes_of ?k_sizes_of ?a_size ?l_size ?c_size ?k_size ?a_node_size ?l_node_size ?c_node_size ?k_node_size ?a_built_in_size ?l_built_in_size ?c_built_in_size ?k_built_in_size ?a_put_at ?l_put_at ?c_put_at ?k_put_at ?a_beside ?l_beside ?c_beside ?k_beside ?a_law_begin ?l_law_begin ?c_law_begin ?k_law_begin ?a_law_draw ?l_law_draw ?c_law_draw ?k_law_draw ?a_law_pick ?l_law_pick ?c_law_pick ?k_law_pick ?a_law_rare ?l_law_rare ?c_law_rare ?k_law_rare ?a_law_shuffled ?l_law_shuffled ?c_law_shuffled ?k_law_shuffled ?a_law_names ?l_law_names ?c_law_names ?k_law_names ?a_law_word ?l_law_word ?c_law_word ?k_law_word ?a_law_built ?l_law_built ?c_law_built ?k_law_built ?a_law_is_name ?l_law_is_name ?c_law_is_name ?k_law_is_name ?a_law_call_faults ?l_law_call_faults ?c_law_call_faults ?k_law_call_faults ?a_law_bad_let ?l_law_bad_let ?c_law_bad_let ?k_law_bad_let ?a_law_fault ?l_law_fault ?c_law_fault ?k_law_fault ?a_law_tree ?l_law_tree ?c_law_tree ?k_law_tree ?a_law_node ?l_law_node ?c_law_node ?k_law_node ?a_law_bent ?l_law_bent ?c_law_bent ?k_law_bent ?a_law_let ?l_law_let ?c_law_let ?k_law_let ?a_law_world ?l_law_world ?c_law_world ?k_law_world ?a_law_title ?l_law_title ?c_law_title ?k_law_title ?a_law_form ?l_law_form ?c_law_form ?k_law_form ?a_law_size ?l_law_size ?c_law_size ?k_law_size ?a_law_menu ?l_law_menu ?c_law_menu ?k_law_menu ?a_law_wrapped ?l_law_wrapped ?c_law_wrapped ?k_law_wrapped ?a_law_link ?l_law_link ?c_law_link ?k_law_link ?a_law_chain ?l_law_chain ?c_law_chain ?k_law_chain ?a_law_deep ?l_law_deep ?c_law_deep ?k_law_deep ?a_law_reach ?l_law_reach ?c_law_reach ?k_law_reach ?a_law_nesting ?l_law_nesting ?c_law_nesting ?k_law_nesting ?a_law_told ?l_law_told ?c_law_told ?k_law_told ?a_law ?l_law ?c_law ?k_law ?m_LETTERS ?m_LONGEST_NAME ?m_BUILT_IN ?tl_BUILT_IN ?tv_BUILT_IN ?m_MOST_MACROS ?m_MOST_NAMES ?n_ValueError ?n_bool ?n_int ?n_isinstance ?n_len ?n_list ?n_max ?n_min ?n_range ?n_set ?n_tuple ?n_zip ?g_PagesError ?ic_PagesError ?ty_PagesError ?g_RecordError ?ic_RecordError ?ty_RecordError ?g_LimitError ?ic_LimitError ?ty_LimitError ?g_GivenError ?ic_GivenError ?ty_GivenError ?g_BadText ?ic_BadText ?ty_BadText ?g_BadCall ?ic_BadCall ?ty_BadCall ?g_Misplaced ?ic_Misplaced ?ty_Misplaced ?g_Unknown ?ic_Unknown ?ty_Unknown ?g_Twice ?ic_Twice ?ty_Twice ?g_TooLong ?ic_TooLong ?ty_TooLong ?g_TooLarge ?ic_TooLarge ?ty_TooLarge ?g_TooMany ?ic_TooMany ?ty_TooMany ?g_TooWide ?ic_TooWide ?ty_TooWide ?g_TooTall ?ic_TooTall ?ty_TooTall ?bx_PagesError ?o_hn ?o_ht ?xL_BadCall ?rv_BadCall ?sa_BadCall ?ga_BadCall ?gg_BadCall ?ex_BadCall ?kp_BadCall ?hd_BadCall ?ha_BadCall ?hm_BadCall ?vs_BadCall ?no_BadCall_name ?sb_BadCall_PagesError ?sb_BadCall_RecordError ?sb_BadCall_LimitError ?sb_BadCall_GivenError ?sb_BadCall_BadText ?sb_BadCall_BadCall ?sb_BadCall_Misplaced ?sb_BadCall_Unknown ?sb_BadCall_Twice ?sb_BadCall_TooLong ?sb_BadCall_TooLarge ?sb_BadCall_TooMany ?sb_BadCall_TooWide ?sb_BadCall_TooTall ?ii_BadCall ?ti_BadCall ?li_BadCall ?ci_BadCall ?ki_BadCall ?xL_Unknown ?rv_Unknown ?sa_Unknown ?ga_Unknown ?gg_Unknown ?ex_Unknown ?kp_Unknown ?hd_Unknown ?ha_Unknown ?hm_Unknown ?vs_Unknown ?no_Unknown_name ?sb_Unknown_PagesError ?sb_Unknown_RecordError ?sb_Unknown_LimitError ?sb_Unknown_GivenError ?sb_Unknown_BadText ?sb_Unknown_BadCall ?sb_Unknown_Misplaced ?sb_Unknown_Unknown ?sb_Unknown_Twice ?sb_Unknown_TooLong ?sb_Unknown_TooLarge ?sb_Unknown_TooMany ?sb_Unknown_TooWide ?sb_Unknown_TooTall ?ii_Unknown ?ti_Unknown ?li_Unknown ?ci_Unknown ?ki_Unknown ?xL_Twice ?rv_Twice ?sa_Twice ?ga_Twice ?gg_Twice ?ex_Twice ?kp_Twice ?hd_Twice ?ha_Twice ?hm_Twice ?vs_Twice ?no_Twice_name ?sb_Twice_PagesError ?sb_Twice_RecordError ?sb_Twice_LimitError ?sb_Twice_GivenError ?sb_Twice_BadText ?sb_Twice_BadCall ?sb_Twice_Misplaced ?sb_Twice_Unknown ?sb_Twice_Twice ?sb_Twice_TooLong ?sb_Twice_TooLarge ?sb_Twice_TooMany ?sb_Twice_TooWide ?sb_Twice_TooTall ?ii_Twice ?ti_Twice ?li_Twice ?ci_Twice ?ki_Twice ?xL_TooLarge ?rv_TooLarge ?sa_TooLarge ?ga_TooLarge ?gg_TooLarge ?ex_TooLarge ?kp_TooLarge ?hd_TooLarge ?ha_TooLarge ?hm_TooLarge ?vs_TooLarge ?no_TooLarge_part ?sb_TooLarge_PagesError ?sb_TooLarge_RecordError ?sb_TooLarge_LimitError ?sb_TooLarge_GivenError ?sb_TooLarge_BadText ?sb_TooLarge_BadCall ?sb_TooLarge_Misplaced ?sb_TooLarge_Unknown ?sb_TooLarge_Twice ?sb_TooLarge_TooLong ?sb_TooLarge_TooLarge ?sb_TooLarge_TooMany ?sb_TooLarge_TooWide ?sb_TooLarge_TooTall ?ii_TooLarge ?ti_TooLarge ?li_TooLarge ?ci_TooLarge ?ki_TooLarge
    (case a_is_name => k_is)
    (case l_is_name => k_is)
    (case c_is_name => k_is)
    (case k_is_name => k_is)
    (case a_consists_of => k_is)
    (case l_consists_of => k_is)
    (case c_consists_of => k_is)
    (case k_consists_of => k_is)
    (case a_run_end => k_is)
    (case l_run_end => k_is)
    (case c_run_end => k_is)
    (case k_run_end => k_is)
    (case a_check_macros => k_is)
    (case l_check_macros => k_is)
    (case c_check_macros => k_is)
    (case k_check_macros => k_is)
    (case a_nesting_of => k_is)
    (case l_nesting_of => k_is)
    (case c_nesting_of => k_is)
    (case k_nesting_of => k_is)
    (case a_is_definition => k_is)
    (case l_is_definition => k_is)
    (case c_is_definition => k_is)
    (case k_is_definition => k_is)
    (case a_without_definitions => k_is)
    (case l_without_definitions => k_is)
    (case c_without_definitions => k_is)
    (case k_without_definitions => k_is)
    (case a_check_definition => k_is)
    (case l_check_definition => k_is)
    (case c_check_definition => k_is)
    (case k_check_definition => k_is)
    (case a_names_of => k_is)
    (case l_names_of => k_is)
    (case c_names_of => k_is)
    (case k_names_of => k_is)
    (case a_may_name => k_is)
    (case l_may_name => k_is)
    (case c_may_name => k_is)
    (case k_may_name => k_is)
    (case a_check_node => k_is)
    (case l_check_node => k_is)
    (case c_check_node => k_is)
    (case k_check_node => k_is)
    (case a_macros_of => k_is)
    (case l_macros_of => k_is)
    (case c_macros_of => k_is)
    (case k_macros_of => k_is)
    (case a_expansion_size => k_is)
    (case l_expansion_size => k_is)
    (case c_expansion_size => k_is)
    (case k_expansion_size => k_is)
    (case a_sizes_of => k_is)
    (case l_sizes_of => k_is)
    (case c_sizes_of => k_is)
    (case k_sizes_of => k_is)
    (case a_size => k_is)
    (case l_size => k_is)
    (case c_size => k_is)
    (case k_size => k_is)
    (case a_node_size => k_is)
    (case l_node_size => k_is)
    (case c_node_size => k_is)
    (case k_node_size => k_is)
    (case a_built_in_size => k_is)
    (case l_built_in_size => k_is)
    (case c_built_in_size => k_is)
    (case k_built_in_size => k_is)
    (case a_put_at => k_is)
    (case l_put_at => k_is)
    (case c_put_at => k_is)
    (case k_put_at => k_is)
    (case a_beside => k_is)
    (case l_beside => k_is)
    (case c_beside => k_is)
    (case k_beside => k_is)
    (case a_law_begin => k_is)
    (case l_law_begin => k_is)
    (case c_law_begin => k_is)
    (case k_law_begin => k_is)
    (case a_law_draw => k_is)
    (case l_law_draw => k_is)
    (case c_law_draw => k_is)
    (case k_law_draw => k_is)
    (case a_law_pick => k_is)
    (case l_law_pick => k_is)
    (case c_law_pick => k_is)
    (case k_law_pick => k_is)
    (case a_law_rare => k_is)
    (case l_law_rare => k_is)
    (case c_law_rare => k_is)
    (case k_law_rare => k_is)
    (case a_law_shuffled => k_is)
    (case l_law_shuffled => k_is)
    (case c_law_shuffled => k_is)
    (case k_law_shuffled => k_is)
    (case a_law_names => k_is)
    (case l_law_names => k_is)
    (case c_law_names => k_is)
    (case k_law_names => k_is)
    (case a_law_word => k_is)
    (case l_law_word => k_is)
    (case c_law_word => k_is)
    (case k_law_word => k_is)
    (case a_law_built => k_is)
    (case l_law_built => k_is)
    (case c_law_built => k_is)
    (case k_law_built => k_is)
    (case a_law_is_name => k_is)
    (case l_law_is_name => k_is)
    (case c_law_is_name => k_is)
    (case k_law_is_name => k_is)
    (case a_law_call_faults => k_is)
    (case l_law_call_faults => k_is)
    (case c_law_call_faults => k_is)
    (case k_law_call_faults => k_is)
    (case a_law_bad_let => k_is)
    (case l_law_bad_let => k_is)
    (case c_law_bad_let => k_is)
    (case k_law_bad_let => k_is)
    (case a_law_fault => k_is)
    (case l_law_fault => k_is)
    (case c_law_fault => k_is)
    (case k_law_fault => k_is)
    (case a_law_tree => k_is)
    (case l_law_tree => k_is)
    (case c_law_tree => k_is)
    (case k_law_tree => k_is)
    (case a_law_node => k_is)
    (case l_law_node => k_is)
    (case c_law_node => k_is)
    (case k_law_node => k_is)
    (case a_law_bent => k_is)
    (case l_law_bent => k_is)
    (case c_law_bent => k_is)
    (case k_law_bent => k_is)
    (case a_law_let => k_is)
    (case l_law_let => k_is)
    (case c_law_let => k_is)
    (case k_law_let => k_is)
    (case a_law_world => k_is)
    (case l_law_world => k_is)
    (case c_law_world => k_is)
    (case k_law_world => k_is)
    (case a_law_title => k_is)
    (case l_law_title => k_is)
    (case c_law_title => k_is)
    (case k_law_title => k_is)
    (case a_law_form => k_is)
    (case l_law_form => k_is)
    (case c_law_form => k_is)
    (case k_law_form => k_is)
    (case a_law_size => k_is)
    (case l_law_size => k_is)
    (case c_law_size => k_is)
    (case k_law_size => k_is)
    (case a_law_menu => k_is)
    (case l_law_menu => k_is)
    (case c_law_menu => k_is)
    (case k_law_menu => k_is)
    (case a_law_wrapped => k_is)
    (case l_law_wrapped => k_is)
    (case c_law_wrapped => k_is)
    (case k_law_wrapped => k_is)
    (case a_law_link => k_is)
    (case l_law_link => k_is)
    (case c_law_link => k_is)
    (case k_law_link => k_is)
    (case a_law_chain => k_is)
    (case l_law_chain => k_is)
    (case c_law_chain => k_is)
    (case k_law_chain => k_is)
    (case a_law_deep => k_is)
    (case l_law_deep => k_is)
    (case c_law_deep => k_is)
    (case k_law_deep => k_is)
    (case a_law_reach => k_is)
    (case l_law_reach => k_is)
    (case c_law_reach => k_is)
    (case k_law_reach => k_is)
    (case a_law_nesting => k_is)
    (case l_law_nesting => k_is)
    (case c_law_nesting => k_is)
    (case k_law_nesting => k_is)
    (case a_law_told => k_is)
    (case l_law_told => k_is)
    (case c_law_told => k_is)
    (case k_law_told => k_is)
    (case a_law => k_is)
    (case l_law => k_is)
    (case c_law => k_is)
    (case k_law => k_is)
    (case m_LETTERS => k_is)
    (case m_LONGEST_NAME => k_is)
    (case m_BUILT_IN => k_is)
    (case tl_BUILT_IN => k_is)
    (case tv_BUILT_IN => exact .cons ⟨_, rfl⟩ (.cons ⟨_, rfl⟩ (.cons ⟨_, rfl⟩ (.cons ⟨_, rfl⟩ (.cons ⟨_, rfl⟩ (.cons ⟨_, rfl⟩ (.cons ⟨_, rfl⟩ (.cons ⟨_, rfl⟩ (.cons ⟨_, rfl⟩ (.cons ⟨_, rfl⟩ (.cons ⟨_, rfl⟩ (.cons ⟨_, rfl⟩ (.cons ⟨_, rfl⟩ (.cons ⟨_, rfl⟩ (.cons ⟨_, rfl⟩ (.cons ⟨_, rfl⟩ (.cons ⟨_, rfl⟩ (.cons ⟨_, rfl⟩ (.cons ⟨_, rfl⟩ (.cons ⟨_, rfl⟩ (.cons ⟨_, rfl⟩ (.cons ⟨_, rfl⟩ (.cons ⟨_, rfl⟩ (.nil))))))))))))))))))))))))
    (case m_MOST_MACROS => k_is)
    (case m_MOST_NAMES => k_is)
    (case n_ValueError => k_is)
    (case n_bool => k_is)
    (case n_int => k_is)
    (case n_isinstance => k_is)
    (case n_len => k_is)
    (case n_list => k_is)
    (case n_max => k_is)
    (case n_min => k_is)
    (case n_range => k_is)
    (case n_set => k_is)
    (case n_tuple => k_is)
    (case n_zip => k_is)
    (case g_PagesError => k_is)
    (case ic_PagesError => k_is)
    (case ty_PagesError => k_is)
    (case g_RecordError => k_is)
    (case ic_RecordError => k_is)
    (case ty_RecordError => k_is)
    (case g_LimitError => k_is)
    (case ic_LimitError => k_is)
    (case ty_LimitError => k_is)
    (case g_GivenError => k_is)
    (case ic_GivenError => k_is)
    (case ty_GivenError => k_is)
    (case g_BadText => k_is)
    (case ic_BadText => k_is)
    (case ty_BadText => k_is)
    (case g_BadCall => k_is)
    (case ic_BadCall => k_is)
    (case ty_BadCall => k_is)
    (case g_Misplaced => k_is)
    (case ic_Misplaced => k_is)
    (case ty_Misplaced => k_is)
    (case g_Unknown => k_is)
    (case ic_Unknown => k_is)
    (case ty_Unknown => k_is)
    (case g_Twice => k_is)
    (case ic_Twice => k_is)
    (case ty_Twice => k_is)
    (case g_TooLong => k_is)
    (case ic_TooLong => k_is)
    (case ty_TooLong => k_is)
    (case g_TooLarge => k_is)
    (case ic_TooLarge => k_is)
    (case ty_TooLarge => k_is)
    (case g_TooMany => k_is)
    (case ic_TooMany => k_is)
    (case ty_TooMany => k_is)
    (case g_TooWide => k_is)
    (case ic_TooWide => k_is)
    (case ty_TooWide => k_is)
    (case g_TooTall => k_is)
    (case ic_TooTall => k_is)
    (case ty_TooTall => k_is)
    (case bx_PagesError => k_is)
    (case o_hn => k_is)
    (case o_ht => k_is)
    (case xL_BadCall => k_is)
    (case rv_BadCall => first | rfl | decide +kernel)
    (case sa_BadCall => k_is)
    (case ga_BadCall => k_is)
    (case gg_BadCall => k_is)
    (case ex_BadCall => k_is)
    (case kp_BadCall => k_is)
    (case hd_BadCall => k_is)
    (case ha_BadCall => k_is)
    (case hm_BadCall => k_is)
    (case vs_BadCall => k_is)
    (case no_BadCall_name => k_is)
    (case sb_BadCall_PagesError => k_is)
    (case sb_BadCall_RecordError => k_is)
    (case sb_BadCall_LimitError => k_is)
    (case sb_BadCall_GivenError => k_is)
    (case sb_BadCall_BadText => k_is)
    (case sb_BadCall_BadCall => k_is)
    (case sb_BadCall_Misplaced => k_is)
    (case sb_BadCall_Unknown => k_is)
    (case sb_BadCall_Twice => k_is)
    (case sb_BadCall_TooLong => k_is)
    (case sb_BadCall_TooLarge => k_is)
    (case sb_BadCall_TooMany => k_is)
    (case sb_BadCall_TooWide => k_is)
    (case sb_BadCall_TooTall => k_is)
    (case ii_BadCall => k_is)
    (case ti_BadCall => k_is)
    (case li_BadCall => k_is)
    (case ci_BadCall => k_is)
    (case ki_BadCall => k_is)
    (case xL_Unknown => k_is)
    (case rv_Unknown => first | rfl | decide +kernel)
    (case sa_Unknown => k_is)
    (case ga_Unknown => k_is)
    (case gg_Unknown => k_is)
    (case ex_Unknown => k_is)
    (case kp_Unknown => k_is)
    (case hd_Unknown => k_is)
    (case ha_Unknown => k_is)
    (case hm_Unknown => k_is)
    (case vs_Unknown => k_is)
    (case no_Unknown_name => k_is)
    (case sb_Unknown_PagesError => k_is)
    (case sb_Unknown_RecordError => k_is)
    (case sb_Unknown_LimitError => k_is)
    (case sb_Unknown_GivenError => k_is)
    (case sb_Unknown_BadText => k_is)
    (case sb_Unknown_BadCall => k_is)
    (case sb_Unknown_Misplaced => k_is)
    (case sb_Unknown_Unknown => k_is)
    (case sb_Unknown_Twice => k_is)
    (case sb_Unknown_TooLong => k_is)
    (case sb_Unknown_TooLarge => k_is)
    (case sb_Unknown_TooMany => k_is)
    (case sb_Unknown_TooWide => k_is)
    (case sb_Unknown_TooTall => k_is)
    (case ii_Unknown => k_is)
    (case ti_Unknown => k_is)
    (case li_Unknown => k_is)
    (case ci_Unknown => k_is)
    (case ki_Unknown => k_is)
    (case xL_Twice => k_is)
    (case rv_Twice => first | rfl | decide +kernel)
    (case sa_Twice => k_is)
    (case ga_Twice => k_is)
    (case gg_Twice => k_is)
    (case ex_Twice => k_is)
    (case kp_Twice => k_is)
    (case hd_Twice => k_is)
    (case ha_Twice => k_is)
    (case hm_Twice => k_is)
    (case vs_Twice => k_is)
    (case no_Twice_name => k_is)
    (case sb_Twice_PagesError => k_is)
    (case sb_Twice_RecordError => k_is)
    (case sb_Twice_LimitError => k_is)
    (case sb_Twice_GivenError => k_is)
    (case sb_Twice_BadText => k_is)
    (case sb_Twice_BadCall => k_is)
    (case sb_Twice_Misplaced => k_is)
    (case sb_Twice_Unknown => k_is)
    (case sb_Twice_Twice => k_is)
    (case sb_Twice_TooLong => k_is)
    (case sb_Twice_TooLarge => k_is)
    (case sb_Twice_TooMany => k_is)
    (case sb_Twice_TooWide => k_is)
    (case sb_Twice_TooTall => k_is)
    (case ii_Twice => k_is)
    (case ti_Twice => k_is)
    (case li_Twice => k_is)
    (case ci_Twice => k_is)
    (case ki_Twice => k_is)
    (case xL_TooLarge => k_is)
    (case rv_TooLarge => first | rfl | decide +kernel)
    (case sa_TooLarge => k_is)
    (case ga_TooLarge => k_is)
    (case gg_TooLarge => k_is)
    (case ex_TooLarge => k_is)
    (case kp_TooLarge => k_is)
    (case hd_TooLarge => k_is)
    (case ha_TooLarge => k_is)
    (case hm_TooLarge => k_is)
    (case vs_TooLarge => k_is)
    (case no_TooLarge_part => k_is)
    (case sb_TooLarge_PagesError => k_is)
    (case sb_TooLarge_RecordError => k_is)
    (case sb_TooLarge_LimitError => k_is)
    (case sb_TooLarge_GivenError => k_is)
    (case sb_TooLarge_BadText => k_is)
    (case sb_TooLarge_BadCall => k_is)
    (case sb_TooLarge_Misplaced => k_is)
    (case sb_TooLarge_Unknown => k_is)
    (case sb_TooLarge_Twice => k_is)
    (case sb_TooLarge_TooLong => k_is)
    (case sb_TooLarge_TooLarge => k_is)
    (case sb_TooLarge_TooMany => k_is)
    (case sb_TooLarge_TooWide => k_is)
    (case sb_TooLarge_TooTall => k_is)
    (case ii_TooLarge => k_is)
    (case ti_TooLarge => k_is)
    (case li_TooLarge => k_is)
    (case ci_TooLarge => k_is)
    (case ki_TooLarge => k_is)
